import Derived.Test.YtmhegbeemgagkaaGreatDoorJg1
namespace Go.Proofs.YtmhegbeemgagkaaGreatDoor
open Go.RowKit
namespace Af
open RowB
def Rf (F : Fil) : Prop := ∀ r ∈ F.rules, 0 ≤ r.flag ∧ r.flag ≤ 65535
theorem rule_flag {F : Fil} {l : Nat} {c : Cls} {row : List Bs} {r : Rul} (h : rule F l c row = .ok r) : r.flag = c.flag := by
 unfold rule at h
 split at h
 ·cases h
 ·split at h
  ·cases h
  ·split at h
   ·cases h
   ·split at h
    ·split at h
     ·cases h
     ·injection h with h
      rw [← h]
    ·injection h with h
     rw [← h]
theorem rulStep_rf {beg : List Bs} {c : Cls} {R R' : Rdr} (hc : 0 ≤ c.flag ∧ c.flag ≤ 65535) (h : rulStep beg c R = .ok R') (k : Rf R.file) : Rf R'.file := by
 unfold rulStep at h
 split at h
 ·cases h
 ·rename_i row R1 hg
  obtain ⟨-, e⟩ := grow_mo hg
  split at h
  ·cases h
  ·rename_i p hp
   injection h with h
   subst h
   intro r hr
   rcases List.mem_append.1 hr with q | q
   ·rw [e] at q; exact k r q
   ·rw [List.mem_singleton] at q
    rw [q, rule_flag hp]
    exact hc
theorem repStep_rl {key : Bs} {R R' : Rdr} (h : repStep key R = .ok R') : R'.file.rules = R.file.rules := by
 unfold repStep at h
 split at h
 ·cases h
 ·rename_i row R1 hg
  obtain ⟨-, e⟩ := grow_mo hg
  split at h
  ·cases h
  ·injection h with h
   subst h
   show R1.file.rules = _
   rw [e]
theorem aliStep_rl {key : Bs} {R R' : Rdr} (h : aliStep key R = .ok R') : R'.file.rules = R.file.rules := by
 unfold aliStep at h
 split at h
 ·cases h
 ·rename_i row R1 hg
  obtain ⟨-, e⟩ := grow_mo hg
  split at h
  ·cases h
  ·injection h with h
   subst h
   show R1.file.rules = _
   rw [e]
theorem doKey_rf {R R' : Rdr} {h : List Bs} {k : Key} (hk : doKey R h k = .ok R') (hn : Rf R.file) : Rf R'.file := by
 cases k with
 | kind =>
  simp only [doKey, doKind] at hk
  repeat' split at hk
  all_goals first | (cases hk; done) | (injection hk with hk; subst hk; exact hn)
 | charset =>
  simp only [doKey, doCharset] at hk
  split at hk
  ·injection hk with hk; subst hk; exact hn
  ·cases hk
 | letters =>
  simp only [doKey, doLetters] at hk
  split at hk
  ·injection hk with hk; subst hk; exact hn
  ·cases hk
 | special i =>
  simp only [doKey, doSpecial] at hk
  split at hk
  ·cases hk
  ·injection hk with hk; subst hk; exact hn
 | least =>
  simp only [doKey, doLeast] at hk
  repeat' split at hk
  all_goals first | (cases hk; done) | (injection hk with hk; subst hk; exact hn)
 | reps =>
  simp only [doKey, doReps] at hk
  split at hk
  ·cases hk
  ·have m := times_rel (rel := fun R R' => R'.file.rules = R.file.rules) (fun R => rfl) (fun a b c x y => y.trans x) (fun R R' q => repStep_rl q) _ _ _ hk
   intro r hr
   rw [m] at hr
   exact hn r hr
 | aliases =>
  simp only [doKey, doAliases] at hk
  split at hk
  ·cases hk
  ·split at hk
   ·cases hk
   ·have m := times_rel (rel := fun R R' => R'.file.rules = R.file.rules) (fun R => rfl) (fun a b c x y => y.trans x) (fun R R' q => aliStep_rl q) _ _ _ hk
    intro r hr
    rw [m] at hr
    exact hn r hr
 | cls kk =>
  simp only [doKey, doClass] at hk
  split at hk
  ·cases hk
  ·rename_i x hx
   split at hk
   ·cases hk
   ·split at hk
    ·cases hk
    ·split at hk
     ·cases hk
     ·have hp := newFlag_pos hx
      exact times_rel (rel := fun R R' => Rf R.file → Rf R'.file) (fun R q => q) (fun a b c x y q => y (x q)) (fun R R' q w => rulStep_rf ⟨by show 0 ≤ x; omega, hp.2.1⟩ q w) _ _ _ hk hn
theorem heads_rf : ∀ {m : Nat} {R R' : Rdr}, heads m R = .ok R' → Inv R → Rf R.file → Inv R' ∧ Rf R'.file
 | 0, R, R', h, hi, hn => by
  simp only [heads, Except.ok.injEq] at h
  subst h
  exact ⟨hi, hn⟩
 | m + 1, R, R', h, hi, hn => by
  simp only [heads] at h
  split at h
  ·injection h with h; subst h; exact ⟨hi, hn⟩
  ·rename_i l hd t hr
   split at h
   ·cases h
   ·rename_i R1 h1
    refine heads_rf h (heading_inv hi hr h1).1 ?_
    unfold heading at h1
    split at h1
    ·cases h1
    ·split at h1
     ·cases h1
     ·split at h1
      ·cases h1
      ·split at h1
       ·cases h1
       ·rename_i R2 h2
        injection h1 with h1
        subst h1
        have q : Rf R2.file := doKey_rf h2 hn
        exact q
theorem affR_rf {l : Bs} {F : Fil} (h : affR l = .ok F) : F.classes.length ≤ 65536 ∧ Rf F := by
 by_cases hl : 65536 < l.length
 ·simp [affR, hl] at h
 ·rw [affR_short hl] at h
  cases hh : heads (Rw.rowsOf l).length (start l) with
  | error e => rw [hh] at h; cases h
  | ok R =>
   rw [hh] at h
   obtain ⟨hi, hr⟩ := heads_rf hh (start_inv (by omega)).1 (fun r hr => by simp [start] at hr)
   have hc := hi.cls
   have hf := hi.few
   unfold affEnd at h
   simp only at h
   split at h
   ·cases h
   ·injection h with h
    subst h
    exact ⟨by omega, hr⟩
set_option maxRecDepth 100000 in
set_option maxHeartbeats 2000000 in
theorem reads_law (s : ByteArray) (w : World) (hM : Mx w.heap.size w) (hs : s.size ≤ 140737488355328) :
  Calls Tryz.prog 3 #[.string s] w fun e w' => e = .returned (.bool true) ∧ Below w.heap.size w w' := by
 have HP := hide (Read_any s w hM)
 have HD := hide (fun W => affDoc_any s W hs)
 have HW : Hid (∀ w1, Below w.heap.size w w1 → Calls Tryz.prog 11 #[] w1 fun e w' => e = .returned (.bool true) ∧ Below w1.heap.size w1 w') := fun w1 b => wakes_any w1 (hM.up b)
 clear hM hs
 cases hX : affR s.data.toList with
 | error er =>
  rw [hX] at HP HD
  clear hX
  obtain ⟨l, c⟩ := er
  go_enter Tryz.func3, Tryz.ntmps3
  go_wp2_with fail
  refine (unhide HP).mono ?_
  rintro e w1 ⟨b1, rfl⟩
  have HB1 := hide b1
  have hA1 := alloc_new w1 (.cells #[.int .i64 1, .int .i64 (l : Nat), .int .i64 (c : Nat)] 25)
  have HA1 := hide hA1
  have HBA := hide (btr' (unhide HB1) ((Below.refl _ w1).alloc (Nat.le_refl _) (.cells #[.int .i64 1, .int .i64 (l : Nat), .int .i64 (c : Nat)] 25)))
  clear b1 hA1
  go_wp2_with fail
  refine (unhide HD _).mono ?_
  rintro e w2 ⟨b2, rfl, h0⟩
  have h0 : c ≠ 0 := h0
  have HA2 := hide ((b2.block _ (lt_some (unhide HA1))).trans (unhide HA1))
  have HB2 := hide (btr' (unhide HBA) b2)
  have hz : ((c : Int) == 0) = false := by rw [beq_eq_false_iff_ne]; omega
  have hz2 : ((c : Int) != 0) = true := by rw [bne, hz]; rfl
  clear b2 h0
  go_wp2_with fail
  refine (unhide HW _ (unhide HB2)).mono ?_
  rintro e w3 ⟨rfl, b3⟩
  have h3 := (b3.block _ (lt_some (unhide HA2))).trans (unhide HA2)
  have HB3 := hide (btr' (unhide HB2) b3)
  have f0 : w3.cell? ⟨w1.heap.size, 0, none⟩ = some (.int .i64 1) := by simp [World.cell?, h3]
  have f1 : w3.cell? ⟨w1.heap.size, 1, none⟩ = some (.int .i64 (l : Nat)) := by simp [World.cell?, h3]
  have f2 : w3.cell? ⟨w1.heap.size, 2, none⟩ = some (.int .i64 (c : Nat)) := by simp [World.cell?, h3]
  clear b3 h3
  go_wp2_with fail
  go_ret
  exact ⟨by simp, unhide HB3⟩
 | ok F =>
  rw [hX] at HP HD
  obtain ⟨hcn, hrf⟩ := affR_rf hX
  have HSD := hide (affR_sets hX)
  have HSM := hide (affR_small hX)
  have HCN := hide hcn
  have HRF := hide hrf
  clear hX hcn hrf
  go_enter Tryz.func3, Tryz.ntmps3
  go_wp2_with fail
  refine (unhide HP).mono ?_
  rintro e w1 ⟨b1, B, P, hB, rfl, hF⟩
  unfold zF
  have HB1 := hide b1
  have hb := (Below.refl _ w1).alloc (Nat.le_refl _) (.cells #[.int .i64 0, .int .i64 0, .int .i64 0] 25)
  have HF1 := hide (hF.below hb)
  have HA1 := hide (alloc_new w1 (.cells #[.int .i64 0, .int .i64 0, .int .i64 0] 25))
  have HBA := hide (btr' (unhide HB1) hb)
  clear b1 hF hB hb
  go_wp2_with fail
  refine (unhide HD _).mono ?_
  rintro e w2 ⟨b2, B', P', hB', rfl, hF'⟩
  have HA2 := hide ((b2.block _ (lt_some (unhide HA1))).trans (unhide HA1))
  have HB2 := hide (btr' (unhide HBA) b2)
  have HF2 := hide ((unhide HF1).below b2)
  have HF2' := hide hF'
  clear b2 hF' hB'
  go_wp2_with fail
  refine (unhide HW _ (unhide HB2)).mono ?_
  rintro e w3 ⟨rfl, b3⟩
  have h3 := (b3.block _ (lt_some (unhide HA2))).trans (unhide HA2)
  have HB3 := hide (btr' (unhide HB2) b3)
  have HF3' := hide ((unhide HF2').below b3)
  have HAX := hide (Affixes_any ((unhide HF2).below b3) (unhide HSD) (by have := unhide HCN; omega))
  have f0 : w3.cell? ⟨w1.heap.size, 0, none⟩ = some (.int .i64 0) := by simp [World.cell?, h3]
  have f1 : w3.cell? ⟨w1.heap.size, 1, none⟩ = some (.int .i64 0) := by simp [World.cell?, h3]
  have f2 : w3.cell? ⟨w1.heap.size, 2, none⟩ = some (.int .i64 0) := by simp [World.cell?, h3]
  clear b3 h3
  go_wp2_with fail
  refine (unhide HAX).mono ?_
  rintro e w4 ⟨b4, v, rfl, vr, va, vc, vu, av, nv, rfl, hr, ha, hc, hu⟩
  have HB4 := hide (btr' (unhide HB3) b4)
  have HS := hide (sameFile_any hr ha hc hu ((unhide HF3').below b4) (unhide HSM) (unhide HRF))
  clear b4 hr ha hc hu
  go_wp2_with fail
  refine (unhide HS).mono ?_
  rintro e w5 ⟨rfl, b5⟩
  have HB5 := hide (btr' (unhide HB4) b5)
  clear b5
  go_wp2_with fail
  go_ret
  exact ⟨by simp, unhide HB5⟩
end Af
end Go.Proofs.YtmhegbeemgagkaaGreatDoor
