/- Contracts of slices.Clone, of the shelf, laid at five types: no walk of ours. -/
import Derived.Shelf.SlicesE.Clone
import Derived.Test.YtlmahoogkogpdaaGreatDoorGf28
namespace Go.Proofs
open Go.Shelf
def Tryz.laysCl_rep_ren : Go.Shelf.Ren := ⟨fun | 41 => 29 | n => n, fun | 4 => 4 | 22 => 47 | 23 => 78 | n => n, fun | n => n⟩
theorem Tryz.laysCl_rep : Go.Proofs.SlLaysE0.n41 Tryz.prog Tryz.laysCl_rep_ren := {
  mixed := by kernel_rfl
  f41 := ⟨"slices.Clone[[]hornbook/api.Rep,hornbook/api.Rep]", by decide, Tryz.func29.trans (congrArg some (by kernel_rfl))⟩
  t4 := Tryz.underlying4
  a4 := Tryz.isAgg4
  z4 := Tryz.sizeOf4
  v4 := Tryz.zeroValue4
  t22 := Tryz.underlying47
  a22 := Tryz.isAgg47
  z22 := Tryz.sizeOf47
  v22 := Tryz.zeroValue47 }
def Tryz.laysCl_cls_ren : Go.Shelf.Ren := ⟨fun | 41 => 30 | n => n, fun | 4 => 4 | 22 => 49 | 23 => 82 | n => n, fun | n => n⟩
theorem Tryz.laysCl_cls : Go.Proofs.SlLaysE0.n41 Tryz.prog Tryz.laysCl_cls_ren := {
  mixed := by kernel_rfl
  f41 := ⟨"slices.Clone[[]hornbook/api.Class,hornbook/api.Class]", by decide, Tryz.func30.trans (congrArg some (by kernel_rfl))⟩
  t4 := Tryz.underlying4
  a4 := Tryz.isAgg4
  z4 := Tryz.sizeOf4
  v4 := Tryz.zeroValue4
  t22 := Tryz.underlying49
  a22 := Tryz.isAgg49
  z22 := Tryz.sizeOf49
  v22 := Tryz.zeroValue49 }
def Tryz.laysCl_ali_ren : Go.Shelf.Ren := ⟨fun | 41 => 31 | n => n, fun | 4 => 4 | 22 => 48 | 23 => 22 | n => n, fun | n => n⟩
theorem Tryz.laysCl_ali : Go.Proofs.SlLaysE0.n41 Tryz.prog Tryz.laysCl_ali_ren := {
  mixed := by kernel_rfl
  f41 := ⟨"slices.Clone[[][]hornbook/api.Flag,[]hornbook/api.Flag]", by decide, Tryz.func31.trans (congrArg some (by kernel_rfl))⟩
  t4 := Tryz.underlying4
  a4 := Tryz.isAgg4
  z4 := Tryz.sizeOf4
  v4 := Tryz.zeroValue4
  t22 := Tryz.underlying48
  a22 := Tryz.isAgg48
  z22 := Tryz.sizeOf48
  v22 := Tryz.zeroValue48 }
def Tryz.laysCl_flg_ren : Go.Shelf.Ren := ⟨fun | 41 => 32 | n => n, fun | 4 => 4 | 22 => 22 | 23 => 45 | n => n, fun | n => n⟩
theorem Tryz.laysCl_flg : Go.Proofs.SlLaysE0.n41 Tryz.prog Tryz.laysCl_flg_ren := {
  mixed := by kernel_rfl
  f41 := ⟨"slices.Clone[[]hornbook/api.Flag,hornbook/api.Flag]", by decide, Tryz.func32.trans (congrArg some (by kernel_rfl))⟩
  t4 := Tryz.underlying4
  a4 := Tryz.isAgg4
  z4 := Tryz.sizeOf4
  v4 := Tryz.zeroValue4
  t22 := Tryz.underlying22
  a22 := Tryz.isAgg22
  z22 := Tryz.sizeOf22
  v22 := Tryz.zeroValue22 }
def Tryz.laysCl_rul_ren : Go.Shelf.Ren := ⟨fun | 41 => 33 | n => n, fun | 4 => 4 | 22 => 50 | 23 => 57 | n => n, fun | n => n⟩
theorem Tryz.laysCl_rul : Go.Proofs.SlLaysE0.n41 Tryz.prog Tryz.laysCl_rul_ren := {
  mixed := by kernel_rfl
  f41 := ⟨"slices.Clone[[]hornbook/api.Rule,hornbook/api.Rule]", by decide, Tryz.func33.trans (congrArg some (by kernel_rfl))⟩
  t4 := Tryz.underlying4
  a4 := Tryz.isAgg4
  z4 := Tryz.sizeOf4
  v4 := Tryz.zeroValue4
  t22 := Tryz.underlying50
  a22 := Tryz.isAgg50
  z22 := Tryz.sizeOf50
  v22 := Tryz.zeroValue50 }
end Go.Proofs
namespace Go.Proofs.YtlmahoogkogpdaaGreatDoor
open Go.RowKit
namespace Af
open RowB
theorem clone_rep {B n : Nat} {w : World} {v : Value} {xs : List Value} (h : w.ownsRow B 78 2 v n xs) (h1 : ∀ u ∈ xs, u.oneCell' = true) (hn : n ≤ 1048577) : Calls Tryz.prog 29 #[v] w fun e w' => ∃ v', e = .returned v' ∧ w'.ownsRow w.heap.size 78 2 v' n xs ∧ Below w.heap.size w w' := by
  obtain ⟨i, hi, hz'⟩ := Option.map_eq_some_iff.1 infoR
  simp only [Prod.mk.injEq] at hz'
  obtain ⟨hz0, hz1, hz2⟩ := hz'
  obtain ⟨hl, ⟨rfl, rfl⟩ | ⟨g, cap, cur, rfl, hg, hh, hc, hm, hs, ht⟩⟩ := h
  · refine (AnyE.slices_Clone_nil Tryz.laysCl_rep 0 0 w).mono ?_
    rintro e w' ⟨rfl, rfl⟩
    have : xs = [] := by cases xs with | nil => rfl | cons _ _ => simp at hl
    subst this
    exact ⟨_, rfl, World.ownsRow_nil _ _ _ _, Below.refl _ _⟩
  · refine (AnyE.slices_Clone Tryz.laysCl_rep i _ 2 32 hi hz0 hz1 hz2 rfl (by decide) Tryz.sizeOf78 g 0 n cap xs w hl (by omega) (by omega) (fun j u hj => ?_) h1).mono ?_
    · have hjl := (List.getElem?_eq_some_iff.1 hj).1
      rw [← ht, List.getElem?_take] at hj
      split at hj
      · simpa [World.cell?, hh] using hj
      · cases hj
    · rintro e w' ⟨v', rfl, o, -, b⟩
      exact ⟨v', rfl, o, b⟩
theorem clone_cls {B n : Nat} {w : World} {v : Value} {xs : List Value} (h : w.ownsRow B 82 5 v n xs) (h1 : ∀ u ∈ xs, u.oneCell' = true) (hn : n ≤ 1048577) : Calls Tryz.prog 30 #[v] w fun e w' => ∃ v', e = .returned v' ∧ w'.ownsRow w.heap.size 82 5 v' n xs ∧ Below w.heap.size w w' := by
  obtain ⟨i, hi, hz'⟩ := Option.map_eq_some_iff.1 infoC
  simp only [Prod.mk.injEq] at hz'
  obtain ⟨hz0, hz1, hz2⟩ := hz'
  obtain ⟨hl, ⟨rfl, rfl⟩ | ⟨g, cap, cur, rfl, hg, hh, hc, hm, hs, ht⟩⟩ := h
  · refine (AnyE.slices_Clone_nil Tryz.laysCl_cls 0 0 w).mono ?_
    rintro e w' ⟨rfl, rfl⟩
    have : xs = [] := by cases xs with | nil => rfl | cons _ _ => simp at hl
    subst this
    exact ⟨_, rfl, World.ownsRow_nil _ _ _ _, Below.refl _ _⟩
  · refine (AnyE.slices_Clone Tryz.laysCl_cls i _ 5 40 hi hz0 hz1 hz2 rfl (by decide) Tryz.sizeOf82 g 0 n cap xs w hl (by omega) (by omega) (fun j u hj => ?_) h1).mono ?_
    · have hjl := (List.getElem?_eq_some_iff.1 hj).1
      rw [← ht, List.getElem?_take] at hj
      split at hj
      · simpa [World.cell?, hh] using hj
      · cases hj
    · rintro e w' ⟨v', rfl, o, -, b⟩
      exact ⟨v', rfl, o, b⟩
theorem clone_ali {B n : Nat} {w : World} {v : Value} {xs : List Value} (h : w.ownsRow B 22 1 v n xs) (h1 : ∀ u ∈ xs, u.oneCell' = true) (hn : n ≤ 1048577) : Calls Tryz.prog 31 #[v] w fun e w' => ∃ v', e = .returned v' ∧ w'.ownsRow w.heap.size 22 1 v' n xs ∧ Below w.heap.size w w' := by
  obtain ⟨i, hi, hz'⟩ := Option.map_eq_some_iff.1 infoA
  simp only [Prod.mk.injEq] at hz'
  obtain ⟨hz0, hz1, hz2⟩ := hz'
  obtain ⟨hl, ⟨rfl, rfl⟩ | ⟨g, cap, cur, rfl, hg, hh, hc, hm, hs, ht⟩⟩ := h
  · refine (AnyE.slices_Clone_nil Tryz.laysCl_ali 0 0 w).mono ?_
    rintro e w' ⟨rfl, rfl⟩
    have : xs = [] := by cases xs with | nil => rfl | cons _ _ => simp at hl
    subst this
    exact ⟨_, rfl, World.ownsRow_nil _ _ _ _, Below.refl _ _⟩
  · refine (AnyE.slices_Clone Tryz.laysCl_ali i _ 1 24 hi hz0 hz1 hz2 rfl (by decide) Tryz.sizeOf22 g 0 n cap xs w hl (by omega) (by omega) (fun j u hj => ?_) h1).mono ?_
    · have hjl := (List.getElem?_eq_some_iff.1 hj).1
      rw [← ht, List.getElem?_take] at hj
      split at hj
      · simpa [World.cell?, hh] using hj
      · cases hj
    · rintro e w' ⟨v', rfl, o, -, b⟩
      exact ⟨v', rfl, o, b⟩
theorem clone_flg {B n : Nat} {w : World} {v : Value} {xs : List Value} (h : w.ownsRow B 45 1 v n xs) (h1 : ∀ u ∈ xs, u.oneCell' = true) (hn : n ≤ 1048577) : Calls Tryz.prog 32 #[v] w fun e w' => ∃ v', e = .returned v' ∧ w'.ownsRow w.heap.size 45 1 v' n xs ∧ Below w.heap.size w w' := by
  obtain ⟨i, hi, hz'⟩ := Option.map_eq_some_iff.1 So.infoF
  simp only [Prod.mk.injEq] at hz'
  obtain ⟨hz0, hz1, hz2⟩ := hz'
  obtain ⟨hl, ⟨rfl, rfl⟩ | ⟨g, cap, cur, rfl, hg, hh, hc, hm, hs, ht⟩⟩ := h
  · refine (AnyE.slices_Clone_nil Tryz.laysCl_flg 0 0 w).mono ?_
    rintro e w' ⟨rfl, rfl⟩
    have : xs = [] := by cases xs with | nil => rfl | cons _ _ => simp at hl
    subst this
    exact ⟨_, rfl, World.ownsRow_nil _ _ _ _, Below.refl _ _⟩
  · refine (AnyE.slices_Clone Tryz.laysCl_flg i _ 1 2 hi hz0 hz1 hz2 rfl (by decide) Tryz.sizeOf45 g 0 n cap xs w hl (by omega) (by omega) (fun j u hj => ?_) h1).mono ?_
    · have hjl := (List.getElem?_eq_some_iff.1 hj).1
      rw [← ht, List.getElem?_take] at hj
      split at hj
      · simpa [World.cell?, hh] using hj
      · cases hj
    · rintro e w' ⟨v', rfl, o, -, b⟩
      exact ⟨v', rfl, o, b⟩
theorem clone_rul {B n : Nat} {w : World} {v : Value} {xs : List Value} (h : w.ownsRow B 57 7 v n xs) (h1 : ∀ u ∈ xs, u.oneCell' = true) (hn : n ≤ 1048577) : Calls Tryz.prog 33 #[v] w fun e w' => ∃ v', e = .returned v' ∧ w'.ownsRow w.heap.size 57 7 v' n xs ∧ Below w.heap.size w w' := by
  obtain ⟨i, hi, hz'⟩ := Option.map_eq_some_iff.1 infoU
  simp only [Prod.mk.injEq] at hz'
  obtain ⟨hz0, hz1, hz2⟩ := hz'
  obtain ⟨hl, ⟨rfl, rfl⟩ | ⟨g, cap, cur, rfl, hg, hh, hc, hm, hs, ht⟩⟩ := h
  · refine (AnyE.slices_Clone_nil Tryz.laysCl_rul 0 0 w).mono ?_
    rintro e w' ⟨rfl, rfl⟩
    have : xs = [] := by cases xs with | nil => rfl | cons _ _ => simp at hl
    subst this
    exact ⟨_, rfl, World.ownsRow_nil _ _ _ _, Below.refl _ _⟩
  · refine (AnyE.slices_Clone Tryz.laysCl_rul i _ 7 88 hi hz0 hz1 hz2 rfl (by decide) Tryz.sizeOf57 g 0 n cap xs w hl (by omega) (by omega) (fun j u hj => ?_) h1).mono ?_
    · have hjl := (List.getElem?_eq_some_iff.1 hj).1
      rw [← ht, List.getElem?_take] at hj
      split at hj
      · simpa [World.cell?, hh] using hj
      · cases hj
    · rintro e w' ⟨v', rfl, o, -, b⟩
      exact ⟨v', rfl, o, b⟩
end Af
end Go.Proofs.YtlmahoogkogpdaaGreatDoor
/- Plain: what holds of all sets of flags in a file that was read. -/
namespace Go.Proofs.YtlmahoogkogpdaaGreatDoor
open Go.RowKit
namespace Af
/-- all sets in the file are such -/
structure Np (p : List Int → Prop) (F : Fil) : Prop where
  nx : ∀ r ∈ F.rules, p r.next
  al : ∀ a ∈ F.aliases, p a
section
variable {p : List Int → Prop} (p0 : p []) (pr : ∀ k s, p (So.rS k s))
include p0 pr
theorem flgS_np {F : Fil} (h : Np p F) (s : Bs) : p (flgS F s) := by
  unfold flgS
  split
  · exact pr _ _
  · split
    · cases hq : F.aliases[flgN F s - 1]? with
      | none => exact p0
      | some a => exact h.al a (List.mem_of_getElem? hq)
    · exact p0
theorem rule_np {F : Fil} (h : Np p F) {l : Nat} {c : Cls} {row : List Bs} {r : Rul} (hr : rule F l c row = .ok r) : p r.next := by
  have key : ∀ q, added F l c.kind (fld row 3) = .ok q → p q.2 := by
    intro q hq
    unfold added at hq
    split at hq
    · cases hq
    · split at hq
      · cases hq
      · split at hq
        · injection hq with hq; subst hq; exact p0
        · split at hq
          · cases hq
          · split at hq
            · cases hq
            · injection hq with hq; subst hq; exact flgS_np p0 pr h _
  unfold rule at hr
  split at hr
  · cases hr
  · split at hr
    · cases hr
    · split at hr
      · cases hr
      · rename_i q hq
        have := key q hq
        split at hr
        · split at hr
          · cases hr
          · injection hr with hr; subst hr; exact this
        · injection hr with hr; subst hr; exact this
omit p0 pr in
theorem repStep_np {key : Bs} {R R' : Rdr} (h : repStep key R = .ok R') (k : Np p R.file) : Np p R'.file := by
  unfold repStep at h
  split at h
  · cases h
  · rename_i row R1 hg
    obtain ⟨m, e⟩ := grow_mo hg
    split at h
    · cases h
    · injection h with h
      subst h
      exact ⟨by rw [e]; exact k.nx, by rw [e]; exact k.al⟩
theorem aliStep_np {key : Bs} {R R' : Rdr} (h : aliStep key R = .ok R') (k : Np p R.file) : Np p R'.file := by
  unfold aliStep at h
  split at h
  · cases h
  · rename_i row R1 hg
    obtain ⟨m, e⟩ := grow_mo hg
    split at h
    · cases h
    · rename_i q hq
      injection h with h
      subst h
      refine ⟨by rw [e]; exact k.nx, fun a ha => ?_⟩
      rw [e] at ha
      rcases List.mem_append.1 ha with z | z
      · exact k.al a z
      · simp at z
        subst z
        have := p0
        unfold aliRow at hq
        repeat' split at hq
        all_goals first | (cases hq; done) | (injection hq with hq; subst hq; exact pr _ _)
theorem rulStep_np {beg : List Bs} {c : Cls} {R R' : Rdr} (h : rulStep beg c R = .ok R') (k : Np p R.file) : Np p R'.file := by
  unfold rulStep at h
  split at h
  · cases h
  · rename_i row R1 hg
    obtain ⟨m, e⟩ := grow_mo hg
    split at h
    · cases h
    · rename_i q hq
      injection h with h
      subst h
      have kk : Np p R1.file := by rw [e]; exact k
      refine ⟨fun r hr => ?_, kk.al⟩
      rcases List.mem_append.1 hr with z | z
      · exact kk.nx r z
      · simp at z
        subst z
        exact rule_np p0 pr kk hq
theorem doKey_np {R R' : Rdr} {h : List Bs} {k : Key} (hk : doKey R h k = .ok R') (hn : Np p R.file) : Np p R'.file := by
  have triv : ∀ (f : Except Er Rdr) , f = .ok R' → (∀ R1, f = .ok R1 → R1.file.rules = R.file.rules ∧ R1.file.aliases = R.file.aliases) → Np p R'.file := by
    intro f hf q
    obtain ⟨e1, e2⟩ := q R' hf
    exact ⟨by rw [e1]; exact hn.nx, by rw [e2]; exact hn.al⟩
  cases k with
  | reps =>
    simp only [doKey, doReps] at hk
    split at hk
    · cases hk
    · exact times_rel (rel := fun R R' => Np p R.file → Np p R'.file) (fun R h => h) (fun a b c x y z => y (x z)) (fun R R' q => repStep_np q) _ _ _ hk hn
  | aliases =>
    simp only [doKey, doAliases] at hk
    split at hk
    · cases hk
    · split at hk
      · cases hk
      · exact times_rel (rel := fun R R' => Np p R.file → Np p R'.file) (fun R h => h) (fun a b c x y z => y (x z)) (fun R R' q => aliStep_np p0 pr q) _ _ _ hk hn
  | cls kk =>
    simp only [doKey, doClass] at hk
    split at hk
    · cases hk
    · split at hk
      · cases hk
      · split at hk
        · cases hk
        · split at hk
          · cases hk
          · exact times_rel (rel := fun R R' => Np p R.file → Np p R'.file) (fun R h => h) (fun a b c x y z => y (x z)) (fun R R' q => rulStep_np p0 pr q) _ _ _ hk ⟨hn.nx, hn.al⟩
  | _ =>
    refine triv _ hk fun R1 q => ?_
    simp only [doKey, doKind, doCharset, doLetters, doSpecial, doLeast] at q
    repeat' split at q
    all_goals first | (cases q; done) | (injection q with q; subst q; exact ⟨rfl, rfl⟩)
theorem heading_np {R R' : Rdr} {l : Nat} {hd : List Bs} (h : heading R l hd = .ok R') (hn : Np p R.file) : Np p R'.file := by
  unfold heading at h
  split at h
  · cases h
  · split at h
    · cases h
    · split at h
      · cases h
      · split at h
        · cases h
        · rename_i R2 hd2
          injection h with h
          subst h
          have := doKey_np p0 pr (R := { R with line := l }) hd2 hn
          exact this
theorem heads_np : ∀ {m : Nat} {R R' : Rdr}, heads m R = .ok R' → Np p R.file → Np p R'.file
  | 0, R, R', h, hn => by
    simp only [heads, Except.ok.injEq] at h
    subst h
    exact hn
  | m + 1, R, R', h, hn => by
    simp only [heads] at h
    split at h
    · injection h with h; subst h; exact hn
    · rename_i l hd t hr
      split at h
      · cases h
      · rename_i R1 h1
        have n1 := heading_np p0 pr h1 hn
        exact heads_np h n1
theorem affR_np {l : Bs} {F : Fil} (h : affR l = .ok F) : Np p F := by
  by_cases hl : 65536 < l.length
  · simp [affR, hl] at h
  · rw [affR_short hl] at h
    cases hh : heads (Rw.rowsOf l).length (start l) with
    | error e => rw [hh] at h; cases h
    | ok R =>
      rw [hh] at h
      have := heads_np p0 pr hh ⟨fun r hr => by simp [start] at hr, fun a ha => by simp [start] at ha⟩
      unfold affEnd at h
      simp only at h
      split at h
      · cases h
      · injection h with h
        subst h
        exact this
end
/-- each flag is a small number -/
theorem affR_small {l : Bs} {F : Fil} (h : affR l = .ok F) : Np (fun a => ∀ x ∈ a, 0 ≤ x ∧ x ≤ 65535) F :=
  affR_np (fun x hx => by cases hx) (fun k s => rS_nb k s) h
/-- each set is rising, each flag once, and not too great -/
def Sd (a : List Int) : Prop := So.setOf a = a ∧ a.length ≤ 64
theorem affR_sets {l : Bs} {F : Fil} (h : affR l = .ok F) : Np Sd F := by
  refine affR_np ⟨rfl, by simp⟩ (fun k s => ?_) h
  by_cases he : So.rE k s = 0
  · refine ⟨(rS_set k s he).1, ?_⟩
    unfold So.rS
    rw [if_pos he]
    have hl := (So.setOf_set (So.vals k s)).len
    have : (So.vals k s).length ≤ 64 := by
      unfold So.rE So.readE at he
      repeat (split at he <;> first | omega | skip)
    omega
  · unfold So.rS
    rw [if_neg he]
    exact ⟨rfl, by simp⟩
end Af
end Go.Proofs.YtlmahoogkogpdaaGreatDoor
/- The reader's file: Affixes: all that it says, in new memory: what it is; the end of the walk. -/
namespace Go.Proofs.YtlmahoogkogpdaaGreatDoor
open Go.RowKit
namespace Af
open RowB
def axL (F : Fil) (vr va vc vu : Value) : List Value := [.int .i64 F.kind, .string (Wd.str F.charset), .string (Wd.str F.letters), .int .u16 (F.specials.getD 0 0), .int .u16 (F.specials.getD 1 0), .int .u16 (F.specials.getD 2 0), .int .u16 (F.specials.getD 3 0), .int .u16 (F.specials.getD 4 0), .int .i64 (F.least : Nat), vr, va, vc, vu]
abbrev TA : TypeId := 52
/-- the lists of a file, in memory -/
def RepR (n : Nat) (W : World) (F : Fil) (v : Value) : Prop := W.ownsRow n 78 2 v F.reps.length (F.reps.flatMap repC)
def ClsR (n : Nat) (W : World) (F : Fil) (v : Value) : Prop := W.ownsRow n 82 5 v F.classes.length (F.classes.flatMap clsC)
def AliR (n : Nat) (W : World) (F : Fil) (v : Value) (av : List Value) (j : Nat) : Prop := W.ownsRow n 22 1 v F.aliases.length av ∧ av.length = F.aliases.length ∧ ∀ (i : Nat) u a, av[i]? = some u → F.aliases[i]? = some a → FNx (if i < j then n else 0) W u a
def RulR (n : Nat) (W : World) (F : Fil) (v : Value) (nv : List Value) (j : Nat) : Prop := W.ownsRow n 57 7 v F.rules.length ((F.rules.zip nv).flatMap fun p => rulC p.1 p.2) ∧ nv.length = F.rules.length ∧ ∀ (i : Nat) u r, nv[i]? = some u → F.rules[i]? = some r → FNx (if i < j then n else 0) W u r.next
/-- a value of all that a file says -/
def AxV (n : Nat) (W : World) (F : Fil) (v : Value) : Prop :=
  ∃ vr va vc vu av nv, v = .agg (axL F vr va vc vu).toArray ∧ RepR n W F vr ∧ AliR n W F va av F.aliases.length ∧ ClsR n W F vc ∧ RulR n W F vu nv F.rules.length
def AxRes (w : World) (F : Fil) (e : Ending) (w' : World) : Prop := Below w.heap.size w w' ∧ ∃ v, e = .returned v ∧ AxV w.heap.size w' F v
theorem RepR.kq {n : Nat} {W W' : World} {F : Fil} {v : Value} {T : List TypeId} {M : Nat → Prop} (h : RepR n W F v) (k : Kq T M W W') (ht : 78 ∉ T) : RepR n W' F v := own_kq h k ht
theorem ClsR.kq {n : Nat} {W W' : World} {F : Fil} {v : Value} {T : List TypeId} {M : Nat → Prop} (h : ClsR n W F v) (k : Kq T M W W') (ht : 82 ∉ T) : ClsR n W' F v := own_kq h k ht
theorem AliR.kq {n j : Nat} {W W' : World} {F : Fil} {v : Value} {av : List Value} {T : List TypeId} {M : Nat → Prop} (h : AliR n W F v av j) (k : Kq T M W W') (ht : 22 ∉ T) (ht2 : 45 ∉ T) : AliR n W' F v av j := ⟨own_kq h.1 k ht, h.2.1, fun i u a q1 q2 => fnx_kq (h.2.2 i u a q1 q2) k ht2⟩
theorem RulR.kq {n j : Nat} {W W' : World} {F : Fil} {v : Value} {nv : List Value} {T : List TypeId} {M : Nat → Prop} (h : RulR n W F v nv j) (k : Kq T M W W') (ht : 57 ∉ T) (ht2 : 45 ∉ T) : RulR n W' F v nv j := ⟨own_kq h.1 k ht, h.2.1, fun i u a q1 q2 => fnx_kq (h.2.2 i u a q1 q2) k ht2⟩
/-- thirteen cells -/
theorem cells13 {W : World} {b : Nat} {x0 x1 x2 x3 x4 x5 x6 x7 x8 x9 x10 x11 x12 : Value} {t : TypeId} (h : W.heap[b]? = some (.cells #[x0, x1, x2, x3, x4, x5, x6, x7, x8, x9, x10, x11, x12] t (0, 0))) :
    W.cell? ⟨b, 0, none⟩ = some x0 ∧ W.cell? ⟨b, 1, none⟩ = some x1 ∧ W.cell? ⟨b, 2, none⟩ = some x2 ∧ W.cell? ⟨b, 3, none⟩ = some x3 ∧ W.cell? ⟨b, 4, none⟩ = some x4 ∧ W.cell? ⟨b, 5, none⟩ = some x5 ∧ W.cell? ⟨b, 6, none⟩ = some x6 ∧ W.cell? ⟨b, 7, none⟩ = some x7 ∧ W.cell? ⟨b, 8, none⟩ = some x8 ∧ W.cell? ⟨b, 9, none⟩ = some x9 ∧ W.cell? ⟨b, 10, none⟩ = some x10 ∧ W.cell? ⟨b, 11, none⟩ = some x11 ∧ W.cell? ⟨b, 12, none⟩ = some x12 ∧ ∀ k, W.frozen? ⟨b, k, none⟩ = false := by
  refine ⟨?_, ?_, ?_, ?_, ?_, ?_, ?_, ?_, ?_, ?_, ?_, ?_, ?_, fun k => ?_⟩ <;> simp [World.cell?, World.frozen?, h]
/-- a list of cells is stored -/
def wrL (W : World) (b : Nat) : Nat → List Value → World
  | _, [] => W
  | i, x :: t => wrL (W.setCell ⟨b, i, none⟩ x) b (i + 1) t
theorem wrL_facts {B b : Nat} {t : TypeId} : ∀ (xs : List Value) (W : World) (pre old : List Value), old.length = xs.length → B ≤ b → W.heap[b]? = some (.cells (pre ++ old).toArray t (0, 0)) →
    (wrL W b pre.length xs).heap[b]? = some (.cells (pre ++ xs).toArray t (0, 0)) ∧ Kp b W (wrL W b pre.length xs) ∧ Below B W (wrL W b pre.length xs)
  | [], W, pre, old, hl, hB, h => by
    have : old = [] := List.length_eq_zero_iff.1 (by simpa using hl)
    subst this
    exact ⟨h, ⟨Nat.le_refl _, fun _ _ _ => rfl⟩, Below.refl _ _⟩
  | x :: xs, W, pre, [], hl, hB, h => by simp at hl
  | x :: xs, W, pre, y :: old, hl, hB, h => by
    have e : (W.setCell ⟨b, pre.length, none⟩ x).heap[b]? = some (.cells ((pre ++ [x]) ++ old).toArray t (0, 0)) := by
      rw [set_heap1 h]
      simp
    have ih := wrL_facts (B := B) xs (W.setCell ⟨b, pre.length, none⟩ x) (pre ++ [x]) old (by simpa using hl) hB e
    rw [List.length_append, List.length_singleton, List.append_assoc, List.singleton_append] at ih
    exact ⟨ih.1, kp_trans (kp_set W b pre.length x) ih.2.1, ((Below.refl B W).setCell (p := ⟨b, pre.length, none⟩) hB x).trans ih.2.2⟩
theorem own_slice {W : World} {B : Nat} {e : TypeId} {size n : Nat} {v : Value} {xs : List Value} (h : W.ownsRow B e size v n xs) : ∃ a c, v = .slice a n c := by
  obtain ⟨a, c, q, -, -⟩ := own_len h
  exact ⟨a, c, q⟩
noncomputable def ax18 : Code := dropSeq 9 (Tryz.f16.body.getD .skip)
set_option maxRecDepth 100000 in
set_option maxHeartbeats 4000000 in
theorem ax_end {rs ab : Nat} {w W : World} {F : Fil} {vr va vc vu : Value} {av nv : List Value} (low : Below w.heap.size w W) (hrs : W.heap[rs]? = some (.cells #[.int .i64 0, .string ⟨#[]⟩, .string ⟨#[]⟩, .int .u16 0, .int .u16 0, .int .u16 0, .int .u16 0, .int .u16 0, .int .i64 0, .slice none 0 0, .slice none 0 0, .slice none 0 0, .slice none 0 0] TA (0, 0))) (hle : w.heap.size ≤ rs) (hab : W.heap[ab]? = some (.cells (axL F vr va vc vu).toArray TA (0, 0)))
    (h1 : RepR w.heap.size W F vr) (h2 : AliR w.heap.size W F va av F.aliases.length) (h3 : ClsR w.heap.size W F vc) (h4 : RulR w.heap.size W F vu nv F.rules.length) (u0 u1 u4 u5 u6 u7 u8 u9 u10 u11 u12 u13 u14 u15 u16 u17 u18 u19 u20 u21 u22 u23 u24 u25 u26 u27 u28 u29 u30 u31 u32 u33 u34 u35 u36 u37 u38 u39 u40 u41 u42 u43 u44 u45 u46 u47 u48 u49 u50 u51 u52 u53 u54 u55 u56 u57 u58 u59 u60 u61 u62 u63 : Value) :
    Code.wp Tryz.prog ax18 (bodyPost Tryz.prog Tryz.f16 (AxRes w F)) ⟨#[u0, u1, .pointer (some ⟨rs, 0, none⟩), .pointer (some ⟨ab, 0, none⟩), u4, u5, u6, u7, u8, u9, u10, u11, u12, u13, u14, u15, u16, u17, u18, u19, u20, u21, u22, u23, u24, u25, u26, u27, u28, u29, u30, u31, u32, u33, u34, u35, u36, u37, u38, u39, u40, u41, u42, u43, u44, u45, u46, u47, u48, u49, u50, u51, u52, u53, u54, u55, u56, u57, u58, u59, u60, u61, u62, u63], []⟩ W := by
  conv => arg 2; whnf
  obtain ⟨ar, cr, er⟩ := own_slice h1
  obtain ⟨aa, ca, ea⟩ := own_slice h2.1
  obtain ⟨ac, cc, ec⟩ := own_slice h3
  obtain ⟨au, cu, eu⟩ := own_slice h4.1
  have HAX : Hid (∃ w' : World, w' = wrL W rs 0 (axL F vr va vc vu) ∧ Below w.heap.size w w' ∧ w'.heap[rs]? = some (.cells (axL F vr va vc vu).toArray TA (0, 0)) ∧ AxV w.heap.size w' F (.agg (axL F vr va vc vu).toArray)) := by
    obtain ⟨f1, f2, f3⟩ := wrL_facts (B := w.heap.size) (axL F vr va vc vu) W [] [.int .i64 0, .string ⟨#[]⟩, .string ⟨#[]⟩, .int .u16 0, .int .u16 0, .int .u16 0, .int .u16 0, .int .u16 0, .int .i64 0, .slice none 0 0, .slice none 0 0, .slice none 0 0, .slice none 0 0] rfl hle hrs
    have kq : Kq [TA] noM W (wrL W rs 0 (axL F vr va vc vu)) := Kq.kp f2 hrs (by simp)
    exact ⟨_, rfl, low.trans f3, f1, vr, va, vc, vu, av, nv, rfl, h1.kq kq (by decide), h2.kq kq (by decide) (by decide), h3.kq kq (by decide), h4.kq kq (by decide) (by decide)⟩
  obtain ⟨s0, e0⟩ : ∃ x, F.specials.getD 0 0 = x := ⟨_, rfl⟩
  obtain ⟨s1, e1⟩ : ∃ x, F.specials.getD 1 0 = x := ⟨_, rfl⟩
  obtain ⟨s2, e2⟩ : ∃ x, F.specials.getD 2 0 = x := ⟨_, rfl⟩
  obtain ⟨s3, e3⟩ : ∃ x, F.specials.getD 3 0 = x := ⟨_, rfl⟩
  obtain ⟨s4, e4⟩ : ∃ x, F.specials.getD 4 0 = x := ⟨_, rfl⟩
  have HEQ : Hid (axL F vr va vc vu = [.int .i64 F.kind, .string (Wd.str F.charset), .string (Wd.str F.letters), .int .u16 s0, .int .u16 s1, .int .u16 s2, .int .u16 s3, .int .u16 s4, .int .i64 (F.least : Nat), .slice ar F.reps.length cr, .slice aa F.aliases.length ca, .slice ac F.classes.length cc, .slice au F.rules.length cu]) := by
    rw [Hid, axL, e0, e1, e2, e3, e4, er, ea, ec, eu]
  rw [unhide HEQ] at hab HAX
  obtain ⟨c0, c1, c2, c3, c4, c5, c6, c7, c8, c9, c10, c11, c12, -⟩ := cells13 hab
  obtain ⟨d0, d1, d2, d3, d4, d5, d6, d7, d8, d9, d10, d11, d12, dz⟩ := cells13 hrs
  have hlt := lt_some hrs
  clear hrs hle low h1 h2 h3 h4 hab er ea ec eu e0 e1 e2 e3 e4 HEQ
  generalize Wd.str F.charset = k1 at *
  generalize Wd.str F.letters = k2 at *
  generalize F.kind = k0 at *
  generalize F.least = k8 at *
  generalize F.reps.length = nr at *
  generalize F.aliases.length = na at *
  generalize F.classes.length = nc at *
  generalize F.rules.length = nu at *
  go_wp2
  obtain ⟨w', hw', b, hh, hx⟩ := unhide HAX
  obtain ⟨m0, m1, m2, m3, m4, m5, m6, m7, m8, m9, m10, m11, m12, -⟩ := cells13 hh
  have HH := hide (And.intro b hx)
  clear c0 c1 c2 c3 c4 c5 c6 c7 c8 c9 c10 c11 c12 d0 d1 d2 d3 d4 d5 d6 d7 d8 d9 d10 d11 d12 dz hlt HAX b hx hh
  show bodyPost _ _ _ Exit.ret _ (wrL W rs 0 [.int .i64 k0, .string k1, .string k2, .int .u16 s0, .int .u16 s1, .int .u16 s2, .int .u16 s3, .int .u16 s4, .int .i64 (k8 : Nat), .slice ar nr cr, .slice aa na ca, .slice ac nc cc, .slice au nu cu])
  rw [← hw']
  refine bodyPost_ret (v := .agg #[.int .i64 k0, .string k1, .string k2, .int .u16 s0, .int .u16 s1, .int .u16 s2, .int .u16 s3, .int .u16 s4, .int .i64 (k8 : Nat), .slice ar nr cr, .slice aa na ca, .slice ac nc cc, .slice au nu cu]) (by simp [results, Tryz.results16, go_sem, m0, m1, m2, m3, m4, m5, m6, m7, m8, m9, m10, m11, m12]) rfl ?_
  exact ⟨(unhide HH).1, _, rfl, (unhide HH).2⟩
end Af
end Go.Proofs.YtlmahoogkogpdaaGreatDoor
/- The reader's file: Affixes: the rules' sets are copied, one by one. -/
namespace Go.Proofs.YtlmahoogkogpdaaGreatDoor
open Go.RowKit
namespace Af
open RowB
/-- what stands while the copies are made -/
structure XS (rs ab : Nat) (w W : World) (F : Fil) (vr va vc vu : Value) : Prop where
  low : Below w.heap.size w W
  hrs : W.heap[rs]? = some (.cells #[.int .i64 0, .string ⟨#[]⟩, .string ⟨#[]⟩, .int .u16 0, .int .u16 0, .int .u16 0, .int .u16 0, .int .u16 0, .int .i64 0, .slice none 0 0, .slice none 0 0, .slice none 0 0, .slice none 0 0] TA (0, 0))
  hle : w.heap.size ≤ rs
  hab : W.heap[ab]? = some (.cells (axL F vr va vc vu).toArray TA (0, 0))
  hla : w.heap.size ≤ ab
  hne : ab ≠ rs
theorem XS.kq {rs ab : Nat} {w W W' : World} {F : Fil} {vr va vc vu : Value} {T : List TypeId} (h : XS rs ab w W F vr va vc vu) (k : Kq T noM W W') (hT : TA ∉ T) (l : Below w.heap.size W W') : XS rs ab w W' F vr va vc vu :=
  ⟨h.low.trans l, (k.cells _ _ _ _ h.hrs hT).trans h.hrs, h.hle, (k.cells _ _ _ _ h.hab hT).trans h.hab, h.hla, h.hne⟩
theorem fnx_own {B : Nat} {W : World} {v : Value} {l : List Int} (h : FNx B W v l) : W.ownsRow B 45 1 v l.length (l.map So.encF) := by
  rcases h with ⟨rfl, rfl⟩ | h
  · exact World.ownsRow_nil _ _ _ _
  · exact h.owns
theorem own_fnx {B : Nat} {W : World} {v : Value} {l : List Int} (h : W.ownsRow B 45 1 v l.length (l.map So.encF)) : FNx B W v l := by
  obtain ⟨hl, ⟨e1, e2⟩ | ⟨g, cap, cur, e1, hg, hh, h1, h2, h3, h4⟩⟩ := h
  · exact .inl ⟨e1, List.length_eq_zero_iff.1 e2⟩
  · refine .inr ⟨g, cap, cur, e1, hg, hh, h1, h2, by omega, ?_⟩
    rw [Nat.mul_one] at h4
    exact h4
theorem enc_one (l : List Int) : ∀ u ∈ l.map So.encF, u.oneCell' = true := by
  intro u hu
  obtain ⟨x, -, rfl⟩ := List.mem_map.1 hu
  rfl
/-- a store into a list of one's own -/
theorem own_set {W : World} {B g cap : Nat} {e : TypeId} {size n : Nat} {xs : List Value} (h : W.ownsRow B e size (.slice (some ⟨g, 0, none⟩) n cap) n xs) (k : Nat) (_hk : k < n * size) (u : Value) : (W.setCell ⟨g, k, none⟩ u).ownsRow B e size (.slice (some ⟨g, 0, none⟩) n cap) n (xs.set k u) := by
  obtain ⟨hl, ⟨e1, -⟩ | ⟨g', cap', cur, e1, hg, hh, h1, h2, h3, h4⟩⟩ := h
  · cases e1
  · injection e1 with e1 _ e2
    injection e1 with e1
    injection e1 with e1 _ _
    subst e1 e2
    refine ⟨by simpa using hl, .inr ⟨g, cap, cur.setIfInBounds k u, rfl, hg, set_heap1 hh u, h1, h2, by simpa using h3, ?_⟩⟩
    rw [Array.toList_setIfInBounds, List.take_set, h4]
theorem own_blk {W : World} {B g cap : Nat} {e : TypeId} {size n : Nat} {xs : List Value} (h : W.ownsRow B e size (.slice (some ⟨g, 0, none⟩) n cap) n xs) : ∃ cur, W.heap[g]? = some (.cells cur e (0, 0)) ∧ B ≤ g := by
  obtain ⟨hl, ⟨e1, -⟩ | ⟨g', cap', cur, e1, hg, hh, -⟩⟩ := h
  · cases e1
  · injection e1 with e1 _ e2
    injection e1 with e1
    injection e1 with e1 _ _
    subst e1
    exact ⟨cur, hh, hg⟩
theorem zip_set {u : Value} : ∀ (rs : List Rul) (nv : List Value) (j : Nat), j < rs.length → nv.length = rs.length → ((rs.zip (nv.set j u)).flatMap fun p => rulC p.1 p.2) = ((rs.zip nv).flatMap fun p => rulC p.1 p.2).set (j * 7 + 6) u
  | [], _, _, h, _ => by simp at h
  | r :: rs, [], _, _, h => by simp at h
  | r :: rs, v :: nv, 0, h, h2 => by
    simp [rulC]
  | r :: rs, v :: nv, j + 1, h, h2 => by
    have ih := zip_set (u := u) rs nv j (by simpa using h) (by simpa using h2)
    simp only [List.set_cons_succ, List.zip_cons_cons, List.flatMap_cons, ih]
    rw [List.set_append_right _ _ (by simp [rulC]; omega)]
    congr 2
    simp [rulC]
    omega
theorem RulR.put {n0 j : Nat} {W W' : World} {F : Fil} {g cap : Nat} {nv : List Value} {u : Value} {r : Rul} (h : RulR n0 W F (.slice (some ⟨g, 0, none⟩) F.rules.length cap) nv j) (hr : F.rules[j]? = some r) (hW : W' = W.setCell ⟨g, j * 7 + 6, none⟩ u) (hu : FNx n0 W u r.next) : RulR n0 W' F (.slice (some ⟨g, 0, none⟩) F.rules.length cap) (nv.set j u) (j + 1) ∧ Kq [57] noM W W' ∧ n0 ≤ g := by
  subst hW
  obtain ⟨cur, hh, hg⟩ := own_blk h.1
  have k : Kq [57] noM W (W.setCell ⟨g, j * 7 + 6, none⟩ u) := Kq.kp (kp_set _ _ _ _) hh (by simp)
  have hj := (List.getElem?_eq_some_iff.1 hr).1
  refine ⟨⟨?_, by simpa using h.2.1, fun i v q h1 h2 => ?_⟩, k, hg⟩
  · rw [zip_set _ _ _ hj h.2.1]
    exact own_set h.1 _ (by omega) u
  · by_cases hi : i = j
    · subst hi
      rw [List.getElem?_set_self (by rw [h.2.1]; exact hj)] at h1
      injection h1 with h1
      subst h1
      rw [hr] at h2
      injection h2 with h2
      subst h2
      rw [if_pos (by omega)]
      exact fnx_kq hu k (by decide)
    · rw [List.getElem?_set_ne (fun e => hi e.symm)] at h1
      have := fnx_kq (h.2.2 i v q h1 h2) k (by decide)
      by_cases q1 : i < j
      · rw [if_pos q1] at this
        rw [if_pos (by omega)]
        exact this
      · rw [if_neg q1] at this
        rw [if_neg (by omega)]
        exact this
noncomputable def ax13 : Code := dropSeq 8 (Tryz.f16.body.getD .skip)
set_option maxRecDepth 100000 in
set_option maxHeartbeats 4000000 in
theorem ax_rules {rs ab : Nat} {w W : World} {F : Fil} {vr va vc vu : Value} {av nv : List Value} (hX : XS rs ab w W F vr va vc vu) (h1 : RepR w.heap.size W F vr) (h2 : AliR w.heap.size W F va av F.aliases.length) (h3 : ClsR w.heap.size W F vc) (h4 : RulR w.heap.size W F vu nv 0) (hS : Np Sd F) (u0 u1 u4 u5 u6 u7 u8 u9 u10 u11 u12 u13 u14 u15 u16 u17 u18 u19 u20 u21 u22 u23 u24 u25 u26 u27 u28 u29 u30 u31 u32 u33 u34 u35 u36 u37 u38 u39 u40 u41 u42 u43 u44 u45 u46 u47 u48 u49 u50 u51 u52 u53 u54 u55 u56 u57 u58 u59 u60 u61 u62 u63 : Value) :
    Code.wp Tryz.prog ax13 (bodyPost Tryz.prog Tryz.f16 (AxRes w F)) ⟨#[u0, u1, .pointer (some ⟨rs, 0, none⟩), .pointer (some ⟨ab, 0, none⟩), u4, u5, u6, u7, u8, u9, u10, u11, u12, u13, u14, u15, u16, u17, u18, u19, u20, u21, u22, u23, u24, u25, u26, u27, u28, u29, u30, u31, u32, u33, u34, u35, u36, u37, u38, u39, u40, u41, u42, u43, u44, u45, u46, u47, u48, u49, u50, u51, u52, u53, u54, u55, u56, u57, u58, u59, u60, u61, u62, u63], []⟩ W := by
  have HEND : Hid (∀ W nv', XS rs ab w W F vr va vc vu → RepR w.heap.size W F vr → AliR w.heap.size W F va av F.aliases.length → ClsR w.heap.size W F vc → RulR w.heap.size W F vu nv' F.rules.length → ∀ (u0 u1 u4 u5 u6 u7 u8 u9 u10 u11 u12 u13 u14 u15 u16 u17 u18 u19 u20 u21 u22 u23 u24 u25 u26 u27 u28 u29 u30 u31 u32 u33 u34 u35 u36 u37 u38 u39 u40 u41 u42 u43 u44 u45 u46 u47 u48 u49 u50 u51 u52 u53 u54 u55 u56 u57 u58 u59 u60 u61 u62 u63 : Value), Code.wp Tryz.prog ax18 (bodyPost Tryz.prog Tryz.f16 (AxRes w F)) ⟨#[u0, u1, .pointer (some ⟨rs, 0, none⟩), .pointer (some ⟨ab, 0, none⟩), u4, u5, u6, u7, u8, u9, u10, u11, u12, u13, u14, u15, u16, u17, u18, u19, u20, u21, u22, u23, u24, u25, u26, u27, u28, u29, u30, u31, u32, u33, u34, u35, u36, u37, u38, u39, u40, u41, u42, u43, u44, u45, u46, u47, u48, u49, u50, u51, u52, u53, u54, u55, u56, u57, u58, u59, u60, u61, u62, u63], []⟩ W) :=
    fun W nv' x a b c d u0 u1 u4 u5 u6 u7 u8 u9 u10 u11 u12 u13 u14 u15 u16 u17 u18 u19 u20 u21 u22 u23 u24 u25 u26 u27 u28 u29 u30 u31 u32 u33 u34 u35 u36 u37 u38 u39 u40 u41 u42 u43 u44 u45 u46 u47 u48 u49 u50 u51 u52 u53 u54 u55 u56 u57 u58 u59 u60 u61 u62 u63 => ax_end (rs := rs) (ab := ab) x.low x.hrs x.hle x.hab a b c d u0 u1 u4 u5 u6 u7 u8 u9 u10 u11 u12 u13 u14 u15 u16 u17 u18 u19 u20 u21 u22 u23 u24 u25 u26 u27 u28 u29 u30 u31 u32 u33 u34 u35 u36 u37 u38 u39 u40 u41 u42 u43 u44 u45 u46 u47 u48 u49 u50 u51 u52 u53 u54 u55 u56 u57 u58 u59 u60 u61 u62 u63
  have HCODE : ax13 = Code.seq (match ax13 with | .seq a _ => a | c => c) ax18 := by kernel_rfl
  rw [HCODE]
  clear HCODE
  refine wp_seq_k (fun KE hKE => ?_)
  conv => arg 2; whnf
  have c12 : W.cell? ⟨ab, 12, none⟩ = some vu := by simp [World.cell?, hX.hab, axL]
  obtain ⟨au, cu, eu⟩ := own_slice h4.1
  obtain ⟨n, hn⟩ : ∃ n, F.rules.length = n := ⟨_, rfl⟩
  have HN := hide hn
  rcases Nat.eq_zero_or_pos n with hz | hpos
  · subst hz
    have hz0 : ¬ (0 : Int) < 0 := by omega
    have HGO := hide (unhide HEND W nv hX h1 h2 h3 (by rw [hn]; exact h4))
    rw [hn] at eu
    subst eu
    have HKE := hide hKE
    clear hX h1 h2 h3 h4 hS HEND hKE
    go_wp2
    go_loopw [49] (fun s49 wr => s49 = .int .i64 0 ∧ wr = W) (fun _ _ => 0)
    case atStart => exact ⟨rfl, rfl⟩
    case round =>
      obtain ⟨rfl, rfl⟩ := hrel
      go_wp2
      apply unhide HKE
      exact unhide HGO _ _ _ _ _ _ _ _ _ _ _ _ _ _ _ _ _ _ _ _ _ _ _ _ _ _ _ _ _ _ _ _ _ _ _ _ _ _ _ _ _ _ _ _ _ _ _ _ _ _ _ _ _ _ _ _ _ _ _ _ _ _
  obtain ⟨gu, cu', e1, -, hgu, hcu1, hcu2, -, -⟩ := own_at h4.1 (by omega)
  rw [hn] at e1
  subst e1
  clear eu au cu
  have HKE := hide hKE
  have HSD := hide hS
  have HX0 := hide (And.intro hX (And.intro h1 (And.intro h2 (And.intro h3 h4))))
  unfold maxLen at hcu2
  rw [hn] at hcu1
  clear hX h1 h2 h3 h4 hS hKE hn
  go_wp2
  go_loopw [49] (fun s49 wr => ∃ j : Nat, s49 = .int .i64 j ∧ j ≤ n ∧ Hid (∃ nv', XS rs ab w wr F vr va vc (.slice (some ⟨gu, 0, none⟩) n cu') ∧ RepR w.heap.size wr F vr ∧ AliR w.heap.size wr F va av F.aliases.length ∧ ClsR w.heap.size wr F vc ∧ RulR w.heap.size wr F (.slice (some ⟨gu, 0, none⟩) n cu') nv' j)) (fun s49 _ => n - (intOf s49).toNat)
  case atStart => exact ⟨0, rfl, Nat.zero_le _, ⟨nv, unhide HX0⟩⟩
  case round =>
    obtain ⟨j, rfl, hj, HR⟩ := hrel
    clear c12 HX0 hgu
    by_cases hlt : j < n
    · have hltz : (j : Int) < (n : Int) := by omega
      have hj0 : ¬ (j : Int) < 0 := by omega
      obtain ⟨nv', hX, h1, h2, h3, h4⟩ := unhide HR
      have hjr : j < F.rules.length := by rw [unhide HN]; exact hlt
      obtain ⟨r, hr⟩ : ∃ r, F.rules[j]? = some r := ⟨_, List.getElem?_eq_getElem hjr⟩
      obtain ⟨v, hv⟩ : ∃ v, nv'[j]? = some v := ⟨_, List.getElem?_eq_getElem (by rw [h4.2.1]; exact hjr)⟩
      have hfn := h4.2.2 j v r hv hr
      rw [if_neg (Nat.lt_irrefl j)] at hfn
      obtain ⟨g', c', e1, -, hgu, -, -, -, hcu⟩ := own_at h4.1 (by omega)
      injection e1 with e1 ea eb
      clear ea eb
      injection e1 with e1
      injection e1 with e1 ea eb
      clear ea eb
      subst e1
      have h41 := h4.1
      rw [unhide HN] at h41
      have q : ∀ k, k < 7 → wr.cell? ⟨gu, j * 7 + k, none⟩ = (rulC r v)[k]? := fun k hk => (hcu _ (by omega)).trans (flat_get (f := fun p : Rul × Value => rulC p.1 p.2) (m := 7) (fun _ => rfl) (zip_get hr hv) hk)
      have q0 := q 0 (by decide)
      have q1 := q 1 (by decide)
      have q2 := q 2 (by decide)
      have q3 := q 3 (by decide)
      have q4 := q 4 (by decide)
      have q5 := q 5 (by decide)
      have q6 := q 6 (by decide)
      simp only [rulC, List.getElem?_cons_zero, List.getElem?_cons_succ, Nat.add_zero] at q0 q1 q2 q3 q4 q5 q6
      obtain ⟨ao, m, c, rfl⟩ : ∃ a m c, v = .slice a m c := by
        rcases hfn with ⟨q, -⟩ | ⟨gq, cq, curq, q, -⟩
        · exact ⟨_, _, _, q⟩
        · exact ⟨_, _, _, q⟩
      have b1 : Below wr.heap.size wr (wr.alloc (.cells (rulC r (.slice ao m c)).toArray 57)) := (Below.refl _ wr).alloc (Nat.le_refl _) _
      have b1d := b1.drew
      have c12 : wr.cell? ⟨ab, 12, none⟩ = some (.slice (some ⟨gu, 0, none⟩) n cu') := by simp [World.cell?, hX.hab, axL]
      have habl := lt_some hX.hab
      have h12a := (b1d.cell (p := ⟨ab, 12, none⟩) habl).trans c12
      obtain ⟨-, -, -, -, -, -, t76⟩ : True ∧ True ∧ True ∧ True ∧ True ∧ True ∧ ((wr.alloc (.cells (rulC r (.slice ao m c)).toArray 57)).drew).cell? ⟨wr.heap.size, 6, none⟩ = some (.slice ao m c) := by
        refine ⟨trivial, trivial, trivial, trivial, trivial, trivial, ?_⟩
        have e := alloc_new wr (.cells (rulC r (.slice ao m c)).toArray 57)
        show (wr.alloc (.cells (rulC r (.slice ao m c)).toArray 57)).cell? ⟨wr.heap.size, 6, none⟩ = _
        unfold World.cell?
        simp only
        rw [e]
        rfl
      have hfd := fnx_kept hfn (below_kept b1d)
      have HCL := hide (clone_flg (w := (wr.alloc (.cells (rulC r (.slice ao m c)).toArray 57)).drew) (fnx_own hfd) (enc_one _) (by have := (unhide HSD).nx r (List.mem_of_getElem? hr); unfold Sd at this; omega))
      have HST : Hid (∀ w3 u, w3.ownsRow (wr.alloc (.cells (rulC r (.slice ao m c)).toArray 57)).drew.heap.size 45 1 u r.next.length (r.next.map So.encF) → Below (wr.alloc (.cells (rulC r (.slice ao m c)).toArray 57)).drew.heap.size (wr.alloc (.cells (rulC r (.slice ao m c)).toArray 57)).drew w3 →
          ∀ W', W' = w3.setCell ⟨gu, j * 7 + 6, none⟩ u → ∃ nv'', XS rs ab w W' F vr va vc (.slice (some ⟨gu, 0, none⟩) n cu') ∧ RepR w.heap.size W' F vr ∧ AliR w.heap.size W' F va av F.aliases.length ∧ ClsR w.heap.size W' F vc ∧ RulR w.heap.size W' F (.slice (some ⟨gu, 0, none⟩) n cu') nv'' (j + 1)) := by
        intro w3 u o3 b3 W' hW
        have bb : Below wr.heap.size wr w3 := b1d.trans (b3.mono b1d.size)
        have hn0 := hX.low.size
        have kq : Kq ([] : List TypeId) noM wr w3 := Kq.below bb
        have h4' := h4.kq kq (by simp) (by simp)
        have hu : FNx w.heap.size w3 u r.next := (own_fnx o3).low (Nat.le_trans hn0 b1d.size)
        rw [← unhide HN] at h4'
        obtain ⟨r1, r2, r3⟩ := h4'.put hr hW hu
        rw [unhide HN] at r1
        have hX' := hX.kq kq (by simp) (bb.mono hn0)
        have l2 : Below w.heap.size w3 W' := by rw [hW]; exact (Below.refl _ _).setCell (p := ⟨gu, j * 7 + 6, none⟩) r3 _
        exact ⟨_, hX'.kq r2 (by decide) l2, (h1.kq kq (by simp)).kq r2 (by decide), (h2.kq kq (by simp) (by simp)).kq r2 (by decide) (by decide), (h3.kq kq (by simp)).kq r2 (by decide), r1⟩
      have HRW : Hid (∀ w3, Below (wr.alloc (.cells (rulC r (.slice ao m c)).toArray 57)).drew.heap.size (wr.alloc (.cells (rulC r (.slice ao m c)).toArray 57)).drew w3 → w3.cell? ⟨ab, 12, none⟩ = some (.slice (some ⟨gu, 0, none⟩) n cu') ∧ w3.cell? ⟨wr.heap.size, 6, none⟩ = some (.slice ao m c) ∧ w3.cell? ⟨gu, j * 7 + 6, none⟩ = some (.slice ao m c) ∧ w3.frozen? ⟨gu, j * 7 + 6, none⟩ = false ∧ gu < w3.heap.size) := by
        intro w3 b3
        have bb : Below wr.heap.size wr w3 := b1d.trans (b3.mono b1d.size)
        obtain ⟨cur, hcur, -⟩ := own_blk h41
        have hcur3 := (below_kept bb _ _ hcur).trans hcur
        refine ⟨(bb.cell (p := ⟨ab, 12, none⟩) habl).trans c12, (b3.cell (p := ⟨wr.heap.size, 6, none⟩) (World.block_lt_of_cell? _ _ t76)).trans t76, (bb.cell (p := ⟨gu, j * 7 + 6, none⟩) hgu).trans q6, by simp [World.frozen?, hcur3], lt_some hcur3⟩
      have HQ := hide (And.intro h12a t76)
      clear HR hX h1 h2 h3 h4 h41 hv hr hfn hcu q hfd b1 b1d h12a t76
      unfold rulC at HCL HST HRW HQ
      go_wp2
      rename_i K0 hK0
      have HK0 := hide hK0
      clear hK0
      refine Lst.region_last (ops1 := ?ops1) (o := ?op1) (S := fun w' => w'.cell? ⟨ab, 12, none⟩ = some (.slice (some ⟨gu, 0, none⟩) n cu') ∧ w'.cell? ⟨wr.heap.size, 6, none⟩ = some (.slice ao m c)) (by kernel_rfl) ?hp1 ?hb1 ?hk1 (by exact unhide HQ) ?hn1
      case hp1 => (simp only [List.pop_toArray, List.dropLast_cons_cons, List.dropLast_singleton]; rfl)
      case hb1 => (simp only [List.back?_toArray, List.getLast?_cons_cons, List.getLast?_singleton]; rfl)
      case hk1 => kernel_rfl
      intro hHeld
      refine wpAnyH_take (i := 0) (v := ?v2) (by simp only [List.getElem?_toArray, List.getElem?_cons_zero]; rfl) (by kernel_rfl) (by kernel_rfl) (by kernel_rfl) (by exact fun _ _ _ h => h) (Or.inl ⟨by rfl, ?hy2⟩) (by assumption) ?_
      case hy2 => (intro w hSw; (try dsimp only at hSw); go_simp; first | done | (with_reducible rfl))
      (try simp only [Act.put, List.setIfInBounds_toArray, List.set_cons_zero, List.set_cons_succ])
      refine wpAnyH_take (i := 1) (v := ?v3) (by simp only [List.getElem?_toArray, List.getElem?_cons_succ, List.getElem?_cons_zero]; rfl) (by kernel_rfl) (by kernel_rfl) (by kernel_rfl) (by exact fun _ _ _ h => h) (Or.inl ⟨by rfl, ?hy3⟩) (by assumption) ?_
      case hy3 => (intro w hSw; (try dsimp only at hSw); go_simp; first | done | (with_reducible rfl))
      (try simp only [Act.put, List.setIfInBounds_toArray, List.set_cons_zero, List.set_cons_succ])
      refine wpAnyH_take (i := 2) (v := ?v4) (by simp only [List.getElem?_toArray, List.getElem?_cons_succ, List.getElem?_cons_zero]; rfl) (by kernel_rfl) (by kernel_rfl) (by kernel_rfl) (by exact fun _ _ _ h => h) (Or.inl ⟨by rfl, ?hy4⟩) (by assumption) ?_
      case hy4 => (intro w hSw; (try dsimp only at hSw); go_simp; first | done | (with_reducible rfl))
      (try simp only [Act.put, List.setIfInBounds_toArray, List.set_cons_zero, List.set_cons_succ])
      refine wpAnyH_take (i := 3) (v := ?v5) (by simp only [List.getElem?_toArray, List.getElem?_cons_succ, List.getElem?_cons_zero]; rfl) (by kernel_rfl) (by kernel_rfl) (by kernel_rfl) (by exact fun _ _ _ h => h) (Or.inl ⟨by rfl, ?hy5⟩) (by assumption) ?_
      case hy5 => (intro w hSw; (try dsimp only at hSw); go_simp; first | done | (with_reducible rfl))
      (try simp only [Act.put, List.setIfInBounds_toArray, List.set_cons_zero, List.set_cons_succ])
      refine wpAnyH_take (i := 4) (v := ?v6) (by simp only [List.getElem?_toArray, List.getElem?_cons_succ, List.getElem?_cons_zero]; rfl) (by kernel_rfl) (by kernel_rfl) (by kernel_rfl) (by exact fun _ _ _ h => h) (Or.inl ⟨by rfl, ?hy6⟩) (by assumption) ?_
      case hy6 => (intro w hSw; (try dsimp only at hSw); go_simp; first | done | (with_reducible rfl))
      (try simp only [Act.put, List.setIfInBounds_toArray, List.set_cons_zero, List.set_cons_succ])
      refine wpAnyH_ready (rs := [5]) (by kernel_rfl) (by simp) ?_
      refine AllReadyH.cons (by simp only [List.getElem?_toArray, List.getElem?_cons_succ, List.getElem?_cons_zero]; rfl) (fun K hK => ?_) AllReadyH.nil
      go_simp
      go_wp2_with (go_at_call 32; refine (unhide HCL).mono ?_; rintro e w3 ⟨u, rfl, o3, b3⟩; obtain ⟨x1, x2, x3, x4, x5⟩ := unhide HRW _ b3; have HNX := hide (unhide HST _ _ o3 b3); obtain ⟨au, cu2, rfl⟩ := own_slice o3; clear o3 b3)
      refine hK.out _ _ (⟨x1, x2⟩) (fun hh3 => ?_)
      clear hK K
      (try simp only [Act.put, List.setIfInBounds_toArray, List.set_cons_zero, List.set_cons_succ])
      refine wpAnyH_take (i := 6) (v := ?v7) (by simp only [List.getElem?_toArray, List.getElem?_cons_succ, List.getElem?_cons_zero]; rfl) (by kernel_rfl) (by kernel_rfl) (by kernel_rfl) (by exact fun _ _ _ h => h) (Or.inl ⟨by rfl, ?hy7⟩) (by assumption) ?_
      case hy7 => (intro w hSw; (try dsimp only at hSw); go_simp; first | done | (with_reducible rfl))
      (try simp only [Act.put, List.setIfInBounds_toArray, List.set_cons_zero, List.set_cons_succ])
      refine wpAnyH_take (i := 7) (v := ?v8) (by simp only [List.getElem?_toArray, List.getElem?_cons_succ, List.getElem?_cons_zero]; rfl) (by kernel_rfl) (by kernel_rfl) (by kernel_rfl) (by exact fun _ _ _ h => h) (Or.inl ⟨by rfl, ?hy8⟩) (by assumption) ?_
      case hy8 => (intro w hSw; (try dsimp only at hSw); go_simp; first | done | (with_reducible rfl))
      (try simp only [Act.put, List.setIfInBounds_toArray, List.set_cons_zero, List.set_cons_succ])
      refine wpAnyH_done (by kernel_rfl) ?_ _
      show Oper.wp _ _ _ _ _ _
      go_simp
      apply unhide HK0
      go_wp2
      go_roundw
      case rel => exact ⟨j + 1, by go_num, by omega, unhide HNX _ rfl⟩
      case measure => simp [intOf]; omega
    · obtain rfl : j = n := by omega
      have hltz : ¬ (j : Int) < (j : Int) := by omega
      obtain ⟨nv', hX, h1, h2, h3, h4⟩ := unhide HR
      have HGO := hide (unhide HEND wr nv' hX h1 h2 h3 (by rw [unhide HN]; exact h4))
      clear HR hX h1 h2 h3 h4 HEND HN
      go_wp2
      apply unhide HKE
      exact unhide HGO _ _ _ _ _ _ _ _ _ _ _ _ _ _ _ _ _ _ _ _ _ _ _ _ _ _ _ _ _ _ _ _ _ _ _ _ _ _ _ _ _ _ _ _ _ _ _ _ _ _ _ _ _ _ _ _ _ _ _ _ _ _
end Af
end Go.Proofs.YtlmahoogkogpdaaGreatDoor
/- The reader's file: Affixes: the aliases are copied, one by one; then the rules. -/
namespace Go.Proofs.YtlmahoogkogpdaaGreatDoor
open Go.RowKit
namespace Af
open RowB
theorem own_low {W : World} {B C : Nat} {e : TypeId} {size n : Nat} {v : Value} {xs : List Value} (h : W.ownsRow B e size v n xs) (k : C ≤ B) : W.ownsRow C e size v n xs := by
  obtain ⟨hl, q | ⟨g, cap, cur, e1, hg, r⟩⟩ := h
  · exact ⟨hl, .inl q⟩
  · exact ⟨hl, .inr ⟨g, cap, cur, e1, Nat.le_trans k hg, r⟩⟩
/-- one of the lists is turned -/
theorem XS.turn {rs ab : Nat} {w W : World} {F : Fil} {vr va vc vu vr' va' vc' vu' : Value} (h : XS rs ab w W F vr va vc vu) (k : Nat) (v : Value) (e : (axL F vr va vc vu).set k v = axL F vr' va' vc' vu') : XS rs ab w (W.setCell ⟨ab, k, none⟩ v) F vr' va' vc' vu' ∧ Kq [TA] noM W (W.setCell ⟨ab, k, none⟩ v) := by
  have kq : Kq [TA] noM W (W.setCell ⟨ab, k, none⟩ v) := Kq.kp (kp_set _ _ _ _) h.hab (by simp)
  refine ⟨⟨h.low.setCell (p := ⟨ab, k, none⟩) h.hla v, (Below.heap_setCell _ _ _ _ (fun q => h.hne q.symm)).trans h.hrs, h.hle, ?_, h.hla, h.hne⟩, kq⟩
  rw [set_heap1 h.hab, ← e]
  simp
theorem AliR.put {n0 j : Nat} {W W' : World} {F : Fil} {g cap : Nat} {av : List Value} {u : Value} {a : List Int} (h : AliR n0 W F (.slice (some ⟨g, 0, none⟩) F.aliases.length cap) av j) (hr : F.aliases[j]? = some a) (hW : W' = W.setCell ⟨g, j, none⟩ u) (hu : FNx n0 W u a) : AliR n0 W' F (.slice (some ⟨g, 0, none⟩) F.aliases.length cap) (av.set j u) (j + 1) ∧ Kq [22] noM W W' ∧ n0 ≤ g := by
  subst hW
  obtain ⟨cur, hh, hg⟩ := own_blk h.1
  have k : Kq [22] noM W (W.setCell ⟨g, j, none⟩ u) := Kq.kp (kp_set _ _ _ _) hh (by simp)
  have hj := (List.getElem?_eq_some_iff.1 hr).1
  refine ⟨⟨own_set h.1 _ (by omega) u, by simpa using h.2.1, fun i v q h1 h2 => ?_⟩, k, hg⟩
  by_cases hi : i = j
  · subst hi
    rw [List.getElem?_set_self (by rw [h.2.1]; exact hj)] at h1
    injection h1 with h1
    subst h1
    rw [hr] at h2
    injection h2 with h2
    subst h2
    rw [if_pos (by omega)]
    exact fnx_kq hu k (by decide)
  · rw [List.getElem?_set_ne (fun e => hi e.symm)] at h1
    have := fnx_kq (h.2.2 i v q h1 h2) k (by decide)
    by_cases q1 : i < j
    · rw [if_pos q1] at this
      rw [if_pos (by omega)]
      exact this
    · rw [if_neg q1] at this
      rw [if_neg (by omega)]
      exact this
theorem rul_one {rs : List Rul} {nv : List Value} (h : ∀ v ∈ nv, v.oneCell' = true) : ∀ u ∈ (rs.zip nv).flatMap fun p => rulC p.1 p.2, u.oneCell' = true := by
  intro u hu
  obtain ⟨⟨r, v⟩, hp, hu⟩ := List.mem_flatMap.1 hu
  have hv := h v (List.of_mem_zip hp).2
  simp [rulC] at hu
  rcases hu with rfl | rfl | rfl | rfl | rfl | rfl | rfl <;> first | rfl | exact hv
theorem fnx_one {B : Nat} {W : World} {v : Value} {l : List Int} (h : FNx B W v l) : v.oneCell' = true := by
  rcases h with ⟨rfl, -⟩ | ⟨g, cap, cur, rfl, -⟩ <;> rfl
theorem rulR_one {n j : Nat} {W : World} {F : Fil} {v : Value} {nv : List Value} (h : RulR n W F v nv j) : ∀ u ∈ nv, u.oneCell' = true := by
  intro u hu
  obtain ⟨i, hi⟩ := List.getElem?_of_mem hu
  have hil := (List.getElem?_eq_some_iff.1 hi).1
  exact fnx_one (h.2.2 i u _ hi (List.getElem?_eq_getElem (by rw [← h.2.1]; exact hil)))
theorem aliR_one {n j : Nat} {W : World} {F : Fil} {v : Value} {av : List Value} (h : AliR n W F v av j) : ∀ u ∈ av, u.oneCell' = true := by
  intro u hu
  obtain ⟨i, hi⟩ := List.getElem?_of_mem hu
  have hil := (List.getElem?_eq_some_iff.1 hi).1
  exact fnx_one (h.2.2 i u _ hi (List.getElem?_eq_getElem (by rw [← h.2.1]; exact hil)))
noncomputable def ax12 : Code := dropSeq 7 (Tryz.f16.body.getD .skip)
set_option maxRecDepth 100000 in
set_option maxHeartbeats 4000000 in
theorem ax_12 {rs ab : Nat} {w W : World} {F : Fil} {vr va vc vu : Value} {av nv : List Value} (hX : XS rs ab w W F vr va vc vu) (h1 : RepR w.heap.size W F vr) (h2 : AliR w.heap.size W F va av F.aliases.length) (h3 : ClsR w.heap.size W F vc) (h4 : RulR 0 W F vu nv 0) (hS : Np Sd F) (hn : F.rules.length ≤ 1024) (u0 u1 u4 u5 u6 u7 u8 u9 u10 u11 u12 u13 u14 u15 u16 u17 u18 u19 u20 u21 u22 u23 u24 u25 u26 u27 u28 u29 u30 u31 u32 u33 u34 u35 u36 u37 u38 u39 u40 u41 u42 u43 u44 u45 u46 u47 u48 u49 u50 u51 u52 u53 u54 u55 u56 u57 u58 u59 u60 u61 u62 u63 : Value) :
    Code.wp Tryz.prog ax12 (bodyPost Tryz.prog Tryz.f16 (AxRes w F)) ⟨#[u0, u1, .pointer (some ⟨rs, 0, none⟩), .pointer (some ⟨ab, 0, none⟩), u4, u5, u6, u7, u8, u9, u10, u11, u12, u13, u14, u15, u16, u17, u18, u19, u20, u21, u22, u23, u24, u25, u26, u27, u28, u29, u30, u31, u32, u33, u34, u35, u36, u37, u38, u39, u40, u41, u42, u43, u44, u45, u46, u47, u48, u49, u50, u51, u52, u53, u54, u55, u56, u57, u58, u59, u60, u61, u62, u63], []⟩ W := by
  have hn0 := hX.low.size
  have HEND : Hid (∀ w3 u, w3.ownsRow W.heap.size 57 7 u F.rules.length ((F.rules.zip nv).flatMap fun p => rulC p.1 p.2) → Below W.heap.size W w3 → ∀ W', W' = w3.setCell ⟨ab, 12, none⟩ u → ∀ (u0 u1 u4 u5 u6 u7 u8 u9 u10 u11 u12 u13 u14 u15 u16 u17 u18 u19 u20 u21 u22 u23 u24 u25 u26 u27 u28 u29 u30 u31 u32 u33 u34 u35 u36 u37 u38 u39 u40 u41 u42 u43 u44 u45 u46 u47 u48 u49 u50 u51 u52 u53 u54 u55 u56 u57 u58 u59 u60 u61 u62 u63 : Value), Code.wp Tryz.prog ax13 (bodyPost Tryz.prog Tryz.f16 (AxRes w F)) ⟨#[u0, u1, .pointer (some ⟨rs, 0, none⟩), .pointer (some ⟨ab, 0, none⟩), u4, u5, u6, u7, u8, u9, u10, u11, u12, u13, u14, u15, u16, u17, u18, u19, u20, u21, u22, u23, u24, u25, u26, u27, u28, u29, u30, u31, u32, u33, u34, u35, u36, u37, u38, u39, u40, u41, u42, u43, u44, u45, u46, u47, u48, u49, u50, u51, u52, u53, u54, u55, u56, u57, u58, u59, u60, u61, u62, u63], []⟩ W') := by
    intro w3 u o3 b3 W' hW u0 u1 u4 u5 u6 u7 u8 u9 u10 u11 u12 u13 u14 u15 u16 u17 u18 u19 u20 u21 u22 u23 u24 u25 u26 u27 u28 u29 u30 u31 u32 u33 u34 u35 u36 u37 u38 u39 u40 u41 u42 u43 u44 u45 u46 u47 u48 u49 u50 u51 u52 u53 u54 u55 u56 u57 u58 u59 u60 u61 u62 u63
    subst hW
    have kq : Kq ([] : List TypeId) noM W w3 := Kq.below b3
    obtain ⟨hX', k2⟩ := (hX.kq kq (by simp) (b3.mono hn0)).turn (vr' := vr) (va' := va) (vc' := vc) (vu' := u) 12 u rfl
    have hr : RulR w.heap.size w3 F u nv 0 := ⟨own_low o3 hn0, h4.2.1, fun i v q q1 q2 => by
      have := fnx_kq (h4.2.2 i v q q1 q2) kq (by simp)
      rwa [if_neg (Nat.not_lt_zero _)] at this ⊢⟩
    exact ax_rules hX' ((h1.kq kq (by simp)).kq k2 (by decide)) ((h2.kq kq (by simp) (by simp)).kq k2 (by decide) (by decide)) ((h3.kq kq (by simp)).kq k2 (by decide)) (hr.kq k2 (by decide) (by decide)) hS u0 u1 u4 u5 u6 u7 u8 u9 u10 u11 u12 u13 u14 u15 u16 u17 u18 u19 u20 u21 u22 u23 u24 u25 u26 u27 u28 u29 u30 u31 u32 u33 u34 u35 u36 u37 u38 u39 u40 u41 u42 u43 u44 u45 u46 u47 u48 u49 u50 u51 u52 u53 u54 u55 u56 u57 u58 u59 u60 u61 u62 u63
  have HCODE : ax12 = Code.seq (match ax12 with | .seq a _ => a | c => c) ax13 := by kernel_rfl
  rw [HCODE]
  clear HCODE
  refine wp_seq_k (fun KE hKE => ?_)
  conv => arg 2; whnf
  have c12 : W.cell? ⟨ab, 12, none⟩ = some vu := by simp [World.cell?, hX.hab, axL]
  have habl := lt_some hX.hab
  have habB := hide hX.hab
  obtain ⟨au, cu, eu⟩ := own_slice h4.1
  have HCL := hide (clone_rul h4.1 (rul_one (rulR_one h4)) (by omega))
  have HAB : Hid (∀ w3, Below W.heap.size W w3 → w3.cell? ⟨ab, 12, none⟩ = some vu ∧ w3.frozen? ⟨ab, 12, none⟩ = false ∧ ab < w3.heap.size) := fun w3 b3 => by
    have := (below_kept b3 _ _ hX.hab).trans hX.hab
    exact ⟨by simp [World.cell?, this, axL], by simp [World.frozen?, this], lt_some this⟩
  have HKE := hide hKE
  subst eu
  clear hX h1 h2 h3 h4 hS hKE hn0 habB
  go_wp2_with (go_at_call 33; refine (unhide HCL).mono ?_; rintro e w3 ⟨u, rfl, o3, b3⟩; obtain ⟨x1, x2, x3⟩ := unhide HAB _ b3; have HNX := hide (unhide HEND _ _ o3 b3 _ rfl); obtain ⟨au3, cu3, rfl⟩ := own_slice o3; clear o3 b3)
  apply unhide HKE
  exact unhide HNX _ _ _ _ _ _ _ _ _ _ _ _ _ _ _ _ _ _ _ _ _ _ _ _ _ _ _ _ _ _ _ _ _ _ _ _ _ _ _ _ _ _ _ _ _ _ _ _ _ _ _ _ _ _ _ _ _ _ _ _ _ _
noncomputable def ax7 : Code := dropSeq 6 (Tryz.f16.body.getD .skip)
set_option maxRecDepth 100000 in
set_option maxHeartbeats 4000000 in
theorem ax_alis {rs ab : Nat} {w W : World} {F : Fil} {vr va vc vu : Value} {av nv : List Value} (hX : XS rs ab w W F vr va vc vu) (h1 : RepR w.heap.size W F vr) (h2 : AliR w.heap.size W F va av 0) (h3 : ClsR w.heap.size W F vc) (h4 : RulR 0 W F vu nv 0) (hS : Np Sd F) (hru : F.rules.length ≤ 1024) (u0 u1 u4 u5 u6 u7 u8 u9 u10 u11 u12 u13 u14 u15 u16 u17 u18 u19 u20 u21 u22 u23 u24 u25 u26 u27 u28 u29 u30 u31 u32 u33 u34 u35 u36 u37 u38 u39 u40 u41 u42 u43 u44 u45 u46 u47 u48 u49 u50 u51 u52 u53 u54 u55 u56 u57 u58 u59 u60 u61 u62 u63 : Value) :
    Code.wp Tryz.prog ax7 (bodyPost Tryz.prog Tryz.f16 (AxRes w F)) ⟨#[u0, u1, .pointer (some ⟨rs, 0, none⟩), .pointer (some ⟨ab, 0, none⟩), u4, u5, u6, u7, u8, u9, u10, u11, u12, u13, u14, u15, u16, u17, u18, u19, u20, u21, u22, u23, u24, u25, u26, u27, u28, u29, u30, u31, u32, u33, u34, u35, u36, u37, u38, u39, u40, u41, u42, u43, u44, u45, u46, u47, u48, u49, u50, u51, u52, u53, u54, u55, u56, u57, u58, u59, u60, u61, u62, u63], []⟩ W := by
  have HEND : Hid (∀ W av', XS rs ab w W F vr va vc vu → RepR w.heap.size W F vr → AliR w.heap.size W F va av' F.aliases.length → ClsR w.heap.size W F vc → RulR 0 W F vu nv 0 → ∀ (u0 u1 u4 u5 u6 u7 u8 u9 u10 u11 u12 u13 u14 u15 u16 u17 u18 u19 u20 u21 u22 u23 u24 u25 u26 u27 u28 u29 u30 u31 u32 u33 u34 u35 u36 u37 u38 u39 u40 u41 u42 u43 u44 u45 u46 u47 u48 u49 u50 u51 u52 u53 u54 u55 u56 u57 u58 u59 u60 u61 u62 u63 : Value), Code.wp Tryz.prog ax12 (bodyPost Tryz.prog Tryz.f16 (AxRes w F)) ⟨#[u0, u1, .pointer (some ⟨rs, 0, none⟩), .pointer (some ⟨ab, 0, none⟩), u4, u5, u6, u7, u8, u9, u10, u11, u12, u13, u14, u15, u16, u17, u18, u19, u20, u21, u22, u23, u24, u25, u26, u27, u28, u29, u30, u31, u32, u33, u34, u35, u36, u37, u38, u39, u40, u41, u42, u43, u44, u45, u46, u47, u48, u49, u50, u51, u52, u53, u54, u55, u56, u57, u58, u59, u60, u61, u62, u63], []⟩ W) :=
    fun W av' x a b c d u0 u1 u4 u5 u6 u7 u8 u9 u10 u11 u12 u13 u14 u15 u16 u17 u18 u19 u20 u21 u22 u23 u24 u25 u26 u27 u28 u29 u30 u31 u32 u33 u34 u35 u36 u37 u38 u39 u40 u41 u42 u43 u44 u45 u46 u47 u48 u49 u50 u51 u52 u53 u54 u55 u56 u57 u58 u59 u60 u61 u62 u63 => ax_12 x a b c d hS hru u0 u1 u4 u5 u6 u7 u8 u9 u10 u11 u12 u13 u14 u15 u16 u17 u18 u19 u20 u21 u22 u23 u24 u25 u26 u27 u28 u29 u30 u31 u32 u33 u34 u35 u36 u37 u38 u39 u40 u41 u42 u43 u44 u45 u46 u47 u48 u49 u50 u51 u52 u53 u54 u55 u56 u57 u58 u59 u60 u61 u62 u63
  have HCODE : ax7 = Code.seq (match ax7 with | .seq a _ => a | c => c) ax12 := by kernel_rfl
  rw [HCODE]
  clear HCODE
  refine wp_seq_k (fun KE hKE => ?_)
  conv => arg 2; whnf
  have c10 : W.cell? ⟨ab, 10, none⟩ = some va := by simp [World.cell?, hX.hab, axL]
  obtain ⟨au, cu, eu⟩ := own_slice h2.1
  obtain ⟨n, hn⟩ : ∃ n, F.aliases.length = n := ⟨_, rfl⟩
  have HN := hide hn
  rcases Nat.eq_zero_or_pos n with hz | hpos
  · subst hz
    have hz0 : ¬ (0 : Int) < 0 := by omega
    have HGO := hide (unhide HEND W av hX h1 (by rw [hn]; exact h2) h3 h4)
    rw [hn] at eu
    subst eu
    have HKE := hide hKE
    clear hX h1 h2 h3 h4 hS HEND hKE
    go_wp2
    go_loopw [30] (fun s30 wr => s30 = .int .i64 0 ∧ wr = W) (fun _ _ => 0)
    case atStart => exact ⟨rfl, rfl⟩
    case round =>
      obtain ⟨rfl, rfl⟩ := hrel
      go_wp2
      apply unhide HKE
      exact unhide HGO _ _ _ _ _ _ _ _ _ _ _ _ _ _ _ _ _ _ _ _ _ _ _ _ _ _ _ _ _ _ _ _ _ _ _ _ _ _ _ _ _ _ _ _ _ _ _ _ _ _ _ _ _ _ _ _ _ _ _ _ _ _
  obtain ⟨gu, cu', e1, -, hgu, hcu1, hcu2, -, -⟩ := own_at h2.1 (by omega)
  rw [hn] at e1
  subst e1
  clear eu au cu
  have HKE := hide hKE
  have HSD := hide hS
  have HX0 := hide (And.intro hX (And.intro h1 (And.intro h2 (And.intro h3 h4))))
  unfold maxLen at hcu2
  rw [hn] at hcu1
  clear hX h1 h2 h3 h4 hS hKE hn
  go_wp2
  go_loopw [30] (fun s30 wr => ∃ j : Nat, s30 = .int .i64 j ∧ j ≤ n ∧ Hid (∃ av', XS rs ab w wr F vr (.slice (some ⟨gu, 0, none⟩) n cu') vc vu ∧ RepR w.heap.size wr F vr ∧ AliR w.heap.size wr F (.slice (some ⟨gu, 0, none⟩) n cu') av' j ∧ ClsR w.heap.size wr F vc ∧ RulR 0 wr F vu nv 0)) (fun s30 _ => n - (intOf s30).toNat)
  case atStart => exact ⟨0, rfl, Nat.zero_le _, ⟨av, unhide HX0⟩⟩
  case round =>
    obtain ⟨j, rfl, hj, HR⟩ := hrel
    clear c10 HX0 hgu
    by_cases hlt : j < n
    · have hltz : (j : Int) < (n : Int) := by omega
      have hj0 : ¬ (j : Int) < 0 := by omega
      obtain ⟨av', hX, h1, h2, h3, h4⟩ := unhide HR
      have hjr : j < F.aliases.length := by rw [unhide HN]; exact hlt
      obtain ⟨r, hr⟩ : ∃ r, F.aliases[j]? = some r := ⟨_, List.getElem?_eq_getElem hjr⟩
      obtain ⟨v, hv⟩ : ∃ v, av'[j]? = some v := ⟨_, List.getElem?_eq_getElem (by rw [h2.2.1]; exact hjr)⟩
      have hfn := h2.2.2 j v r hv hr
      rw [if_neg (Nat.lt_irrefl j)] at hfn
      obtain ⟨g', c', e1, -, hgu, -, -, -, hcu⟩ := own_at h2.1 (by omega)
      injection e1 with e1 ea eb
      clear ea eb
      injection e1 with e1
      injection e1 with e1 ea eb
      clear ea eb
      subst e1
      have h41 := h2.1
      rw [unhide HN] at h41
      have q0 : wr.cell? ⟨gu, j, none⟩ = some v := (hcu _ (by omega)).trans hv
      obtain ⟨ao, m, c, rfl⟩ : ∃ a m c, v = .slice a m c := by
        rcases hfn with ⟨q, -⟩ | ⟨gq, cq, curq, q, -⟩
        · exact ⟨_, _, _, q⟩
        · exact ⟨_, _, _, q⟩
      have b1d : Below wr.heap.size wr wr.drew := (Below.refl _ wr).drew
      have c10 : wr.cell? ⟨ab, 10, none⟩ = some (.slice (some ⟨gu, 0, none⟩) n cu') := by simp [World.cell?, hX.hab, axL]
      have habl := lt_some hX.hab
      have hfd := fnx_kept hfn (below_kept b1d)
      have HCL := hide (clone_flg (w := wr.drew) (fnx_own hfd) (enc_one _) (by have := (unhide HSD).al r (List.mem_of_getElem? hr); unfold Sd at this; omega))
      have HST : Hid (∀ w3 u, w3.ownsRow wr.drew.heap.size 45 1 u r.length (r.map So.encF) → Below wr.drew.heap.size wr.drew w3 →
          ∀ W', W' = w3.setCell ⟨gu, j, none⟩ u → ∃ av'', XS rs ab w W' F vr (.slice (some ⟨gu, 0, none⟩) n cu') vc vu ∧ RepR w.heap.size W' F vr ∧ AliR w.heap.size W' F (.slice (some ⟨gu, 0, none⟩) n cu') av'' (j + 1) ∧ ClsR w.heap.size W' F vc ∧ RulR 0 W' F vu nv 0) := by
        intro w3 u o3 b3 W' hW
        have bb : Below wr.heap.size wr w3 := b1d.trans b3
        have hn0 := hX.low.size
        have kq : Kq ([] : List TypeId) noM wr w3 := Kq.below bb
        have h2' := h2.kq kq (by simp) (by simp)
        have hu : FNx w.heap.size w3 u r := (own_fnx o3).low hn0
        rw [← unhide HN] at h2'
        obtain ⟨r1, r2, r3⟩ := h2'.put hr hW hu
        rw [unhide HN] at r1
        have hX' := hX.kq kq (by simp) (bb.mono hn0)
        have l2 : Below w.heap.size w3 W' := by rw [hW]; exact (Below.refl _ _).setCell (p := ⟨gu, j, none⟩) r3 _
        exact ⟨_, hX'.kq r2 (by decide) l2, (h1.kq kq (by simp)).kq r2 (by decide), r1, (h3.kq kq (by simp)).kq r2 (by decide), (h4.kq kq (by simp) (by simp)).kq r2 (by decide) (by decide)⟩
      have HRW : Hid (∀ w3, Below wr.drew.heap.size wr.drew w3 → w3.cell? ⟨ab, 10, none⟩ = some (.slice (some ⟨gu, 0, none⟩) n cu') ∧ w3.cell? ⟨gu, j, none⟩ = some (.slice ao m c) ∧ w3.frozen? ⟨gu, j, none⟩ = false ∧ gu < w3.heap.size) := by
        intro w3 b3
        have bb : Below wr.heap.size wr w3 := b1d.trans b3
        obtain ⟨cur, hcur, -⟩ := own_blk h41
        have hcur3 := (below_kept bb _ _ hcur).trans hcur
        exact ⟨(bb.cell (p := ⟨ab, 10, none⟩) habl).trans c10, (bb.cell (p := ⟨gu, j, none⟩) hgu).trans q0, by simp [World.frozen?, hcur3], lt_some hcur3⟩
      clear HR hX h1 h2 h3 h4 h41 hv hr hfn hcu hfd b1d
      go_wp2
      rename_i K0 hK0
      have HK0 := hide hK0
      clear hK0
      refine Lst.region_last (ops1 := ?ops1) (o := ?op1) (S := fun w' => w'.cell? ⟨ab, 10, none⟩ = some (.slice (some ⟨gu, 0, none⟩) n cu')) (by kernel_rfl) ?hp1 ?hb1 ?hk1 (by exact c10) ?hn1
      case hp1 => (simp only [List.pop_toArray, List.dropLast_cons_cons, List.dropLast_singleton]; rfl)
      case hb1 => (simp only [List.back?_toArray, List.getLast?_cons_cons, List.getLast?_singleton]; rfl)
      case hk1 => kernel_rfl
      intro hHeld
      refine wpAnyH_take (i := 0) (v := ?v2) (by simp only [List.getElem?_toArray, List.getElem?_cons_zero]; rfl) (by kernel_rfl) (by kernel_rfl) (by kernel_rfl) (by exact fun _ _ _ h => h) (Or.inl ⟨by rfl, ?hy2⟩) (by assumption) ?_
      case hy2 => (intro w hSw; (try dsimp only at hSw); go_simp; first | done | (with_reducible rfl))
      (try simp only [Act.put, List.setIfInBounds_toArray, List.set_cons_zero, List.set_cons_succ])
      refine wpAnyH_take (i := 1) (v := ?v3) (by simp only [List.getElem?_toArray, List.getElem?_cons_succ, List.getElem?_cons_zero]; rfl) (by kernel_rfl) (by kernel_rfl) (by kernel_rfl) (by exact fun _ _ _ h => h) (Or.inl ⟨by rfl, ?hy3⟩) (by assumption) ?_
      case hy3 => (intro w hSw; (try dsimp only at hSw); go_simp; first | done | (with_reducible rfl))
      (try simp only [Act.put, List.setIfInBounds_toArray, List.set_cons_zero, List.set_cons_succ])
      refine wpAnyH_take (i := 2) (v := ?v4) (by simp only [List.getElem?_toArray, List.getElem?_cons_succ, List.getElem?_cons_zero]; rfl) (by kernel_rfl) (by kernel_rfl) (by kernel_rfl) (by exact fun _ _ _ h => h) (Or.inl ⟨by rfl, ?hy4⟩) (by assumption) ?_
      case hy4 => (intro w hSw; (try dsimp only at hSw); go_simp; first | done | (with_reducible rfl))
      (try simp only [Act.put, List.setIfInBounds_toArray, List.set_cons_zero, List.set_cons_succ])
      refine wpAnyH_take (i := 3) (v := ?v5) (by simp only [List.getElem?_toArray, List.getElem?_cons_succ, List.getElem?_cons_zero]; rfl) (by kernel_rfl) (by kernel_rfl) (by kernel_rfl) (by exact fun _ _ _ h => h) (Or.inl ⟨by rfl, ?hy5⟩) (by assumption) ?_
      case hy5 => (intro w hSw; (try dsimp only at hSw); go_simp; first | done | (with_reducible rfl))
      (try simp only [Act.put, List.setIfInBounds_toArray, List.set_cons_zero, List.set_cons_succ])
      refine wpAnyH_ready (rs := [4]) (by kernel_rfl) (by simp) ?_
      refine AllReadyH.cons (by simp only [List.getElem?_toArray, List.getElem?_cons_succ, List.getElem?_cons_zero]; rfl) (fun K hK => ?_) AllReadyH.nil
      go_simp
      go_wp2_with (go_at_call 32; refine (unhide HCL).mono ?_; rintro e w3 ⟨u, rfl, o3, b3⟩; obtain ⟨x1, x2, x3, x4⟩ := unhide HRW _ b3; have HNX := hide (unhide HST _ _ o3 b3); obtain ⟨au, cu2, rfl⟩ := own_slice o3; clear o3 b3)
      refine hK.out _ _ (x1) (fun hh3 => ?_)
      clear hK K
      (try simp only [Act.put, List.setIfInBounds_toArray, List.set_cons_zero, List.set_cons_succ])
      refine wpAnyH_take (i := 5) (v := ?v6) (by simp only [List.getElem?_toArray, List.getElem?_cons_succ, List.getElem?_cons_zero]; rfl) (by kernel_rfl) (by kernel_rfl) (by kernel_rfl) (by exact fun _ _ _ h => h) (Or.inl ⟨by rfl, ?hy6⟩) (by assumption) ?_
      case hy6 => (intro w hSw; (try dsimp only at hSw); go_simp; first | done | (with_reducible rfl))
      (try simp only [Act.put, List.setIfInBounds_toArray, List.set_cons_zero, List.set_cons_succ])
      refine wpAnyH_done (by kernel_rfl) ?_ _
      show Oper.wp _ _ _ _ _ _
      go_simp
      apply unhide HK0
      go_wp2
      go_roundw
      case rel => exact ⟨j + 1, by go_num, by omega, unhide HNX _ rfl⟩
      case measure => simp [intOf]; omega
    · obtain rfl : j = n := by omega
      have hltz : ¬ (j : Int) < (j : Int) := by omega
      obtain ⟨av', hX, h1, h2, h3, h4⟩ := unhide HR
      have HGO := hide (unhide HEND wr av' hX h1 (by rw [unhide HN]; exact h2) h3 h4)
      clear HR hX h1 h2 h3 h4 HEND HN
      go_wp2
      apply unhide HKE
      exact unhide HGO _ _ _ _ _ _ _ _ _ _ _ _ _ _ _ _ _ _ _ _ _ _ _ _ _ _ _ _ _ _ _ _ _ _ _ _ _ _ _ _ _ _ _ _ _ _ _ _ _ _ _ _ _ _ _ _ _ _ _ _ _ _
end Af
end Go.Proofs.YtlmahoogkogpdaaGreatDoor
