import Derived.Test.YtmhegbeemgagkaaGreatDoorGn23
import Derived.Test.YtmhegbeemgagkaaGreatDoorGn24
namespace Go.Proofs.YtmhegbeemgagkaaGreatDoor
namespace So
theorem rS_ne {kind : Int} {l : List UInt8} (h : rE kind l = 0) : rS kind l ≠ [] := by
 unfold rS
 rw [if_pos h]
 intro e
 have hv : vals kind l ≠ [] := by
  unfold vals
  simpa using pieces_ne kind l
 cases hv2 : vals kind l with
 | nil => exact hv hv2
 | cons x t =>
  have : x ∈ setOf (vals kind l) := mem_setOf.2 (by rw [hv2]; simp)
  rw [e] at this
  cases this
end So
namespace Af
open RowB
def Na (F : Fil) : Prop := ∀ a ∈ F.aliases, a ≠ []
theorem rulStep_al {beg : List Bs} {c : Cls} {R R' : Rdr} (h : rulStep beg c R = .ok R') : R'.file.aliases = R.file.aliases := by
 unfold rulStep at h
 split at h
 ·cases h
 ·rename_i row R1 hg
  obtain ⟨-, e⟩ := grow_mo hg
  split at h
  ·cases h
  ·injection h with h
   subst h
   show R1.file.aliases = _
   rw [e]
theorem repStep_al {key : Bs} {R R' : Rdr} (h : repStep key R = .ok R') : R'.file.aliases = R.file.aliases := by
 unfold repStep at h
 split at h
 ·cases h
 ·rename_i row R1 hg
  obtain ⟨-, e⟩ := grow_mo hg
  split at h
  ·cases h
  ·injection h with h
   subst h
   show R1.file.aliases = _
   rw [e]
theorem aliStep_al {key : Bs} {R R' : Rdr} (h : aliStep key R = .ok R') (k : Na R.file) : Na R'.file := by
 unfold aliStep at h
 split at h
 ·cases h
 ·rename_i row R1 hg
  obtain ⟨-, e⟩ := grow_mo hg
  split at h
  ·cases h
  ·rename_i p hp
   injection h with h
   subst h
   intro a ha
   rcases List.mem_append.1 ha with q | q
   ·rw [e] at q; exact k a q
   ·rw [List.mem_singleton] at q
    subst q
    unfold aliRow at hp
    split at hp
    ·cases hp
    ·split at hp
     ·cases hp
     ·rename_i h0
      injection hp with hp
      rw [← hp]
      exact So.rS_ne (by simpa using h0)
theorem doKey_al {R R' : Rdr} {h : List Bs} {k : Key} (hk : doKey R h k = .ok R') (hn : Na R.file) : Na R'.file := by
 cases k with
 | kind =>
  simp only [doKey, doKind] at hk
  repeat' split at hk
  all_goals first | (cases hk; done) | (injection hk with hk; subst hk; exact hn)
 | charset =>
  simp only [doKey, doCharset] at hk
  split at hk
  ·injection hk with hk; subst hk; exact hn
  ·cases hk
 | letters =>
  simp only [doKey, doLetters] at hk
  split at hk
  ·injection hk with hk; subst hk; exact hn
  ·cases hk
 | special i =>
  simp only [doKey, doSpecial] at hk
  split at hk
  ·cases hk
  ·injection hk with hk; subst hk; exact hn
 | least =>
  simp only [doKey, doLeast] at hk
  repeat' split at hk
  all_goals first | (cases hk; done) | (injection hk with hk; subst hk; exact hn)
 | reps =>
  simp only [doKey, doReps] at hk
  split at hk
  ·cases hk
  ·have m := times_rel (rel := fun R R' => R'.file.aliases = R.file.aliases) (fun R => rfl) (fun a b c x y => y.trans x) (fun R R' q => repStep_al q) _ _ _ hk
   intro r hr
   rw [m] at hr
   exact hn r hr
 | aliases =>
  simp only [doKey, doAliases] at hk
  split at hk
  ·cases hk
  ·split at hk
   ·cases hk
   ·exact times_rel (rel := fun R R' => Na R.file → Na R'.file) (fun R q => q) (fun a b c x y q => y (x q)) (fun R R' q w => aliStep_al q w) _ _ _ hk hn
 | cls kk =>
  simp only [doKey, doClass] at hk
  split at hk
  ·cases hk
  ·split at hk
   ·cases hk
   ·split at hk
    ·cases hk
    ·split at hk
     ·cases hk
     ·have m := times_rel (rel := fun R R' => R'.file.aliases = R.file.aliases) (fun R => rfl) (fun a b c x y => y.trans x) (fun R R' q => rulStep_al q) _ _ _ hk
      intro r hr
      rw [m] at hr
      exact hn r hr
theorem heads_al : ∀ {m : Nat} {R R' : Rdr}, heads m R = .ok R' → Na R.file → Na R'.file
 | 0, R, R', h, hn => by
  simp only [heads, Except.ok.injEq] at h
  subst h
  exact hn
 | m + 1, R, R', h, hn => by
  simp only [heads] at h
  split at h
  ·injection h with h; subst h; exact hn
  ·rename_i l hd t hr
   split at h
   ·cases h
   ·rename_i R1 h1
    refine heads_al h ?_
    unfold heading at h1
    split at h1
    ·cases h1
    ·split at h1
     ·cases h1
     ·split at h1
      ·cases h1
      ·split at h1
       ·cases h1
       ·rename_i R2 h2
        injection h1 with h1
        subst h1
        have q : Na R2.file := doKey_al h2 hn
        exact q
theorem affR_al {l : Bs} {F : Fil} (h : affR l = .ok F) : Na F := by
 by_cases hl : 65536 < l.length
 ·simp [affR, hl] at h
 ·rw [affR_short hl] at h
  cases hh : heads (Rw.rowsOf l).length (start l) with
  | error e => rw [hh] at h; cases h
  | ok R =>
   rw [hh] at h
   have hr := heads_al hh (fun r hr => by simp [start] at hr)
   unfold affEnd at h
   simp only at h
   split at h
   ·cases h
   ·injection h with h
    subst h
    exact hr
end Af
end Go.Proofs.YtmhegbeemgagkaaGreatDoor
