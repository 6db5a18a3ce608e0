/- aff.Read, whole. -/
import Derived.Test.YtkefjaifaonlbaaGreatDoorGz26
import Derived.Shelf.SlicesE.Clone
namespace Go.Proofs.YtkefjaifaonlbaaGreatDoor
open Go.RowKit
namespace Af
open RowB
/-- how Read answers -/
def FRes (w : World) (X : Except Er Fil) (e : Ending) (w' : World) : Prop :=
  Below w.heap.size w w' ∧ match X with
  | .ok F => ∃ B P, w.heap.size ≤ B ∧ e = .returned (.tuple #[.pointer (some ⟨P.fb, 0, none⟩), zF]) ∧ FAt B w' F P
  | .error er => e = .returned (.tuple #[.pointer none, .agg #[.int .i64 1, .int .i64 (er.1 : Nat), .int .i64 (er.2 : Nat)]])
theorem FRes.no {w w' : World} {X : Except Er Fil} {er : Er} (hX : X = .error er) (k : Below w.heap.size w w') : FRes w X (.returned (.tuple #[.pointer none, .agg #[.int .i64 1, .int .i64 (er.1 : Nat), .int .i64 (er.2 : Nat)]])) w' := by
  subst hX
  exact ⟨k, rfl⟩
theorem FRes.yes {w w' : World} {X : Except Er Fil} {F : Fil} {B : Nat} {P : Pts} (hX : X = .ok F) (k : Below w.heap.size w w') (hB : w.heap.size ≤ B) (h : FAt B w' F P) : FRes w X (.returned (.tuple #[.pointer (some ⟨P.fb, 0, none⟩), .agg #[.int .i64 0, .int .i64 0, .int .i64 0]])) w' := by
  subst hX
  exact ⟨k, B, P, hB, rfl, h⟩
set_option maxRecDepth 100000 in
set_option maxHeartbeats 4000000 in
theorem Read_any (s : ByteArray) (w : World) (hM : Mx w.heap.size w) : Calls Tryz.prog 17 #[.string s] w (FRes w (affR s.data.toList)) := by
  have b1 := (Below.refl w.heap.size w).alloc (Nat.le_refl _) (.cells #[.int .i64 0, .int .i64 0, .int .i64 0] 59)
  have HB1 := hide b1
  have HV := hide (alloc_new w (.cells #[.int .i64 0, .int .i64 0, .int .i64 0] 59))
  have HN : Hid (Calls Tryz.prog 34 #[] (w.alloc (.cells #[.int .i64 0, .int .i64 0, .int .i64 0] 59)) fun e w' => ∃ B rb P, e = .returned (ptr rb) ∧ RAt B w' rb Rdr0 P ∧ w.heap.size < B ∧ Below B (w.alloc (.cells #[.int .i64 0, .int .i64 0, .int .i64 0] 59)) w') := by
    refine (newReader_any _).mono ?_
    rintro e w' ⟨rfl, r, b⟩
    exact ⟨_, _, _, rfl, r, by simp, b⟩
  have HM : Hid (∀ (B : Nat) w2, w.heap.size < B → Below B (w.alloc (.cells #[.int .i64 0, .int .i64 0, .int .i64 0] 59)) w2 → Mx B w2 ∧ Below w.heap.size w w2 ∧ w2.heap[w.heap.size]? = some (.cells #[.int .i64 0, .int .i64 0, .int .i64 0] 59 (0, 0))) := by
    intro B w2 hB b2
    have b3 : Below w.heap.size w w2 := b1.trans (b2.mono (Nat.le_of_lt hB))
    obtain ⟨m1, m2⟩ := hM.low b3
    exact ⟨⟨by omega, m2⟩, b3, (b2.block _ hB).trans (unhide HV)⟩
  clear b1 hM
  cases hx : affR s.data.toList with
  | error er =>
    have HX := hide hx
    clear hx
    go_enter Tryz.func17, Tryz.ntmps17
    go_wp2_with (go_at_call 34; refine (unhide HN).mono ?_; rintro e w2 ⟨B, rb, P, rfl, r2, hB, b2⟩; have HR2 := hide r2; have HB2 := hide b2; have HBB := hide hB; clear r2 b2 hB)
    refine (read_any (unhide HR2) (unhide HM _ _ (unhide HBB) (unhide HB2)).1 s).mono ?_
    rintro e w3 ⟨kt, q⟩
    rw [unhide HX] at q
    simp only at q
    subst q
    have hv3 := (kt.low.block _ (unhide HBB)).trans (unhide HM _ _ (unhide HBB) (unhide HB2)).2.2
    have HB3 := hide ((unhide HM _ _ (unhide HBB) (unhide HB2)).2.1.trans (kt.low.mono (Nat.le_of_lt (unhide HBB))))
    obtain ⟨v0, v1, v2, vz⟩ := fault3 hv3
    have hvl := lt_some hv3
    have HV3 := hide hv3
    clear kt hv3
    go_wp2
    obtain ⟨n0, n1, n2, -⟩ := fault3 (alloc_new w3 (.cells #[.int .i64 1, .int .i64 (er.1 : Nat), .int .i64 (er.2 : Nat)] 59))
    have H3 := hide (And.intro n0 (And.intro n1 n2))
    have hfw := alloc_heap1 (fwr_heap er (unhide HV3)) (.cells #[.int .i64 1, .int .i64 (er.1 : Nat), .int .i64 (er.2 : Nat)] 59)
    have hfb := (((unhide HB3).trans (fwr_below w.heap.size w3 w.heap.size er (Nat.le_refl _))).alloc (by rw [fwr_size]; exact (unhide HB3).size) (.cells #[.int .i64 1, .int .i64 (er.1 : Nat), .int .i64 (er.2 : Nat)] 59)).drew
    have HF : Hid ((((fwr w3 w.heap.size er).alloc (.cells #[.int .i64 1, .int .i64 (er.1 : Nat), .int .i64 (er.2 : Nat)] 59)).drew).heap[w.heap.size]? = some (.cells #[.int .i64 1, .int .i64 (er.1 : Nat), .int .i64 (er.2 : Nat)] 59 (0, 0)) ∧ Below w.heap.size w (((fwr w3 w.heap.size er).alloc (.cells #[.int .i64 1, .int .i64 (er.1 : Nat), .int .i64 (er.2 : Nat)] 59)).drew)) := ⟨hfw, hfb⟩
    clear n0 n1 n2 hfw hfb
    refine Lst.region_last (ops1 := ?ops1) (o := ?op1) (S := fun w' => w'.cell? ⟨w3.heap.size, 0, none⟩ = some (.int .i64 1) ∧ w'.cell? ⟨w3.heap.size, 1, none⟩ = some (.int .i64 (er.1 : Nat)) ∧ w'.cell? ⟨w3.heap.size, 2, none⟩ = some (.int .i64 (er.2 : Nat))) (by kernel_rfl) ?hp1 ?hb1 ?hk1 (by exact unhide H3) ?hn1
    case hp1 => (simp only [List.pop_toArray, List.dropLast_cons_cons, List.dropLast_singleton]; rfl)
    case hb1 => (simp only [List.back?_toArray, List.getLast?_cons_cons, List.getLast?_singleton]; rfl)
    case hk1 => kernel_rfl
    intro hHeld
    refine wpAnyH_take (i := 1) (v := ?v2) (by simp only [List.getElem?_toArray, List.getElem?_cons_succ, List.getElem?_cons_zero]; rfl) (by kernel_rfl) (by kernel_rfl) (by kernel_rfl) (by exact fun _ _ _ h => h) (Or.inl ⟨by rfl, ?hy2⟩) (by assumption) ?_
    case hy2 => (intro w hSw; (try dsimp only at hSw); go_simp; first | done | (with_reducible rfl))
    (try simp only [Act.put, List.setIfInBounds_toArray, List.set_cons_zero, List.set_cons_succ])
    refine wpAnyH_take (i := 0) (v := ?v3) (by simp only [List.getElem?_toArray, List.getElem?_cons_zero]; rfl) (by kernel_rfl) (by kernel_rfl) (by kernel_rfl) (by exact fun _ _ _ h => h) (Or.inl ⟨by rfl, ?hy3⟩) (by assumption) ?_
    case hy3 => (intro w hSw; (try dsimp only at hSw); go_simp; first | done | (with_reducible rfl))
    (try simp only [Act.put, List.setIfInBounds_toArray, List.set_cons_zero, List.set_cons_succ])
    refine wpAnyH_done (by kernel_rfl) ?_ _
    show Oper.wp _ _ _ _ _ _
    go_simp
    rename_i K2 hK2
    apply hK2
    refine gen_world ?_
    intro V hV
    replace HF : Hid (V.heap[w.heap.size]? = some (.cells #[.int .i64 1, .int .i64 (er.1 : Nat), .int .i64 (er.2 : Nat)] 59 (0, 0)) ∧ Below w.heap.size w V) := by rw [hV]; exact HF
    clear hV
    obtain ⟨m0, m1, m2, mz⟩ := fault3 (unhide HF).1
    go_wp2
    refine bodyPost_ret (v := .tuple #[.pointer none, .agg #[.int .i64 1, .int .i64 (er.1 : Nat), .int .i64 (er.2 : Nat)]]) (by simp [results, Tryz.results17, go_sem, m0, m1, m2]) rfl ?_
    exact FRes.no rfl (unhide HF).2
  | ok F =>
    have HX := hide hx
    clear hx
    go_enter Tryz.func17, Tryz.ntmps17
    go_wp2_with (go_at_call 34; refine (unhide HN).mono ?_; rintro e w2 ⟨B, rb, P, rfl, r2, hB, b2⟩; have HR2 := hide r2; have HB2 := hide b2; have HBB := hide hB; clear r2 b2 hB)
    refine (read_any (unhide HR2) (unhide HM _ _ (unhide HBB) (unhide HB2)).1 s).mono ?_
    rintro e w3 ⟨kt, q⟩
    rw [unhide HX] at q
    simp only at q
    obtain ⟨rfl, R', P', hR', hF', hfb⟩ := q
    subst hF'
    have hv3 := (kt.low.block _ (unhide HBB)).trans (unhide HM _ _ (unhide HBB) (unhide HB2)).2.2
    have HB3 := hide ((unhide HM _ _ (unhide HBB) (unhide HB2)).2.1.trans (kt.low.mono (Nat.le_of_lt (unhide HBB))))
    obtain ⟨v0, v1, v2, vz⟩ := fault3 hv3
    obtain ⟨d0, -, -, -, -, -, -⟩ := hR'.cells
    have hvl := lt_some hv3
    have hrb := hR'.lt
    have HV3 := hide hv3
    have HR3 := hide hR'
    have hrbn : Hid (w.heap.size ≠ rb) := by
      have := hR'.rbB
      have := unhide HBB
      intro e
      omega
    clear kt hv3 hR'
    unfold zF
    go_wp2
    obtain ⟨z1, z2, z3⟩ := zwr_facts (B := w.heap.size) (unhide HV3) (Nat.le_refl _)
    have h1 := alloc_heap1 z1 (.cells #[.int .i64 0, .int .i64 0, .int .i64 0] 59)
    have kz : Kq [59] noM w3 (zwr w3 w.heap.size) := Kq.kp z2 (unhide HV3) (by simp)
    have hba : Below (zwr w3 w.heap.size).heap.size (zwr w3 w.heap.size) ((zwr w3 w.heap.size).alloc (.cells #[.int .i64 0, .int .i64 0, .int .i64 0] 59)) := (Below.refl _ _).alloc (Nat.le_refl _) _
    obtain ⟨m0, m1, m2, mz⟩ := fault3 h1
    show bodyPost _ _ _ Exit.ret _ ((zwr w3 w.heap.size).alloc (.cells #[.int .i64 0, .int .i64 0, .int .i64 0] 59))
    refine bodyPost_ret (v := .tuple #[.pointer (some ⟨P.fb, 0, none⟩), .agg #[.int .i64 0, .int .i64 0, .int .i64 0]]) (by simp [results, Tryz.results17, go_sem, m0, m1, m2]) rfl ?_
    have hf := (((unhide HR3).other kz).below hba).file
    rw [← hfb]
    exact FRes.yes rfl (((unhide HB3).trans z3).trans (hba.mono (by rw [show (zwr w3 w.heap.size).heap.size = w3.heap.size by simp [zwr, World.setCell]]; exact (unhide HB3).size))) (Nat.le_of_lt (unhide HBB)) hf
end Af
end Go.Proofs.YtkefjaifaonlbaaGreatDoor
/- Contracts of slices.Clone, of the shelf, laid at five types: no walk of ours. -/
namespace Go.Proofs
open Go.Shelf
def Tryz.laysCl_rep_ren : Go.Shelf.Ren := ⟨fun | 41 => 20 | n => n, fun | 4 => 4 | 22 => 39 | 23 => 65 | n => n, fun | n => n⟩
theorem Tryz.laysCl_rep : Go.Proofs.SlLaysE0.n41 Tryz.prog Tryz.laysCl_rep_ren := {
  mixed := by kernel_rfl
  f41 := ⟨"slices.Clone[[]hornbook/api.Rep,hornbook/api.Rep]", by decide, Tryz.func20.trans (congrArg some (by kernel_rfl))⟩
  t4 := Tryz.underlying4
  a4 := Tryz.isAgg4
  z4 := Tryz.sizeOf4
  v4 := Tryz.zeroValue4
  t22 := Tryz.underlying39
  a22 := Tryz.isAgg39
  z22 := Tryz.sizeOf39
  v22 := Tryz.zeroValue39 }
def Tryz.laysCl_cls_ren : Go.Shelf.Ren := ⟨fun | 41 => 21 | n => n, fun | 4 => 4 | 22 => 41 | 23 => 33 | n => n, fun | n => n⟩
theorem Tryz.laysCl_cls : Go.Proofs.SlLaysE0.n41 Tryz.prog Tryz.laysCl_cls_ren := {
  mixed := by kernel_rfl
  f41 := ⟨"slices.Clone[[]hornbook/api.Class,hornbook/api.Class]", by decide, Tryz.func21.trans (congrArg some (by kernel_rfl))⟩
  t4 := Tryz.underlying4
  a4 := Tryz.isAgg4
  z4 := Tryz.sizeOf4
  v4 := Tryz.zeroValue4
  t22 := Tryz.underlying41
  a22 := Tryz.isAgg41
  z22 := Tryz.sizeOf41
  v22 := Tryz.zeroValue41 }
def Tryz.laysCl_ali_ren : Go.Shelf.Ren := ⟨fun | 41 => 22 | n => n, fun | 4 => 4 | 22 => 40 | 23 => 22 | n => n, fun | n => n⟩
theorem Tryz.laysCl_ali : Go.Proofs.SlLaysE0.n41 Tryz.prog Tryz.laysCl_ali_ren := {
  mixed := by kernel_rfl
  f41 := ⟨"slices.Clone[[][]hornbook/api.Flag,[]hornbook/api.Flag]", by decide, Tryz.func22.trans (congrArg some (by kernel_rfl))⟩
  t4 := Tryz.underlying4
  a4 := Tryz.isAgg4
  z4 := Tryz.sizeOf4
  v4 := Tryz.zeroValue4
  t22 := Tryz.underlying40
  a22 := Tryz.isAgg40
  z22 := Tryz.sizeOf40
  v22 := Tryz.zeroValue40 }
def Tryz.laysCl_flg_ren : Go.Shelf.Ren := ⟨fun | 41 => 23 | n => n, fun | 4 => 4 | 22 => 22 | 23 => 31 | n => n, fun | n => n⟩
theorem Tryz.laysCl_flg : Go.Proofs.SlLaysE0.n41 Tryz.prog Tryz.laysCl_flg_ren := {
  mixed := by kernel_rfl
  f41 := ⟨"slices.Clone[[]hornbook/api.Flag,hornbook/api.Flag]", by decide, Tryz.func23.trans (congrArg some (by kernel_rfl))⟩
  t4 := Tryz.underlying4
  a4 := Tryz.isAgg4
  z4 := Tryz.sizeOf4
  v4 := Tryz.zeroValue4
  t22 := Tryz.underlying22
  a22 := Tryz.isAgg22
  z22 := Tryz.sizeOf22
  v22 := Tryz.zeroValue22 }
def Tryz.laysCl_rul_ren : Go.Shelf.Ren := ⟨fun | 41 => 24 | n => n, fun | 4 => 4 | 22 => 42 | 23 => 63 | n => n, fun | n => n⟩
theorem Tryz.laysCl_rul : Go.Proofs.SlLaysE0.n41 Tryz.prog Tryz.laysCl_rul_ren := {
  mixed := by kernel_rfl
  f41 := ⟨"slices.Clone[[]hornbook/api.Rule,hornbook/api.Rule]", by decide, Tryz.func24.trans (congrArg some (by kernel_rfl))⟩
  t4 := Tryz.underlying4
  a4 := Tryz.isAgg4
  z4 := Tryz.sizeOf4
  v4 := Tryz.zeroValue4
  t22 := Tryz.underlying42
  a22 := Tryz.isAgg42
  z22 := Tryz.sizeOf42
  v22 := Tryz.zeroValue42 }
end Go.Proofs
namespace Go.Proofs.YtkefjaifaonlbaaGreatDoor
open Go.RowKit
namespace Af
open RowB
theorem clone_rep {B n : Nat} {w : World} {v : Value} {xs : List Value} (h : w.ownsRow B 65 2 v n xs) (h1 : ∀ u ∈ xs, u.oneCell' = true) (hn : n ≤ 1048577) : Calls Tryz.prog 20 #[v] w fun e w' => ∃ v', e = .returned v' ∧ w'.ownsRow w.heap.size 65 2 v' n xs ∧ Below w.heap.size w w' := by
  obtain ⟨i, hi, hz'⟩ := Option.map_eq_some_iff.1 infoR
  simp only [Prod.mk.injEq] at hz'
  obtain ⟨hz0, hz1, hz2⟩ := hz'
  obtain ⟨hl, ⟨rfl, rfl⟩ | ⟨g, cap, cur, rfl, hg, hh, hc, hm, hs, ht⟩⟩ := h
  · refine (AnyE.slices_Clone_nil Tryz.laysCl_rep 0 0 w).mono ?_
    rintro e w' ⟨rfl, rfl⟩
    have : xs = [] := by cases xs with | nil => rfl | cons _ _ => simp at hl
    subst this
    exact ⟨_, rfl, World.ownsRow_nil _ _ _ _, Below.refl _ _⟩
  · refine (AnyE.slices_Clone Tryz.laysCl_rep i _ 2 32 hi hz0 hz1 hz2 rfl (by decide) Tryz.sizeOf65 g 0 n cap xs w hl (by omega) (by omega) (fun j u hj => ?_) h1).mono ?_
    · have hjl := (List.getElem?_eq_some_iff.1 hj).1
      rw [← ht, List.getElem?_take] at hj
      split at hj
      · simpa [World.cell?, hh] using hj
      · cases hj
    · rintro e w' ⟨v', rfl, o, -, b⟩
      exact ⟨v', rfl, o, b⟩
theorem clone_cls {B n : Nat} {w : World} {v : Value} {xs : List Value} (h : w.ownsRow B 33 5 v n xs) (h1 : ∀ u ∈ xs, u.oneCell' = true) (hn : n ≤ 1048577) : Calls Tryz.prog 21 #[v] w fun e w' => ∃ v', e = .returned v' ∧ w'.ownsRow w.heap.size 33 5 v' n xs ∧ Below w.heap.size w w' := by
  obtain ⟨i, hi, hz'⟩ := Option.map_eq_some_iff.1 infoC
  simp only [Prod.mk.injEq] at hz'
  obtain ⟨hz0, hz1, hz2⟩ := hz'
  obtain ⟨hl, ⟨rfl, rfl⟩ | ⟨g, cap, cur, rfl, hg, hh, hc, hm, hs, ht⟩⟩ := h
  · refine (AnyE.slices_Clone_nil Tryz.laysCl_cls 0 0 w).mono ?_
    rintro e w' ⟨rfl, rfl⟩
    have : xs = [] := by cases xs with | nil => rfl | cons _ _ => simp at hl
    subst this
    exact ⟨_, rfl, World.ownsRow_nil _ _ _ _, Below.refl _ _⟩
  · refine (AnyE.slices_Clone Tryz.laysCl_cls i _ 5 40 hi hz0 hz1 hz2 rfl (by decide) Tryz.sizeOf33 g 0 n cap xs w hl (by omega) (by omega) (fun j u hj => ?_) h1).mono ?_
    · have hjl := (List.getElem?_eq_some_iff.1 hj).1
      rw [← ht, List.getElem?_take] at hj
      split at hj
      · simpa [World.cell?, hh] using hj
      · cases hj
    · rintro e w' ⟨v', rfl, o, -, b⟩
      exact ⟨v', rfl, o, b⟩
theorem clone_ali {B n : Nat} {w : World} {v : Value} {xs : List Value} (h : w.ownsRow B 22 1 v n xs) (h1 : ∀ u ∈ xs, u.oneCell' = true) (hn : n ≤ 1048577) : Calls Tryz.prog 22 #[v] w fun e w' => ∃ v', e = .returned v' ∧ w'.ownsRow w.heap.size 22 1 v' n xs ∧ Below w.heap.size w w' := by
  obtain ⟨i, hi, hz'⟩ := Option.map_eq_some_iff.1 infoA
  simp only [Prod.mk.injEq] at hz'
  obtain ⟨hz0, hz1, hz2⟩ := hz'
  obtain ⟨hl, ⟨rfl, rfl⟩ | ⟨g, cap, cur, rfl, hg, hh, hc, hm, hs, ht⟩⟩ := h
  · refine (AnyE.slices_Clone_nil Tryz.laysCl_ali 0 0 w).mono ?_
    rintro e w' ⟨rfl, rfl⟩
    have : xs = [] := by cases xs with | nil => rfl | cons _ _ => simp at hl
    subst this
    exact ⟨_, rfl, World.ownsRow_nil _ _ _ _, Below.refl _ _⟩
  · refine (AnyE.slices_Clone Tryz.laysCl_ali i _ 1 24 hi hz0 hz1 hz2 rfl (by decide) Tryz.sizeOf22 g 0 n cap xs w hl (by omega) (by omega) (fun j u hj => ?_) h1).mono ?_
    · have hjl := (List.getElem?_eq_some_iff.1 hj).1
      rw [← ht, List.getElem?_take] at hj
      split at hj
      · simpa [World.cell?, hh] using hj
      · cases hj
    · rintro e w' ⟨v', rfl, o, -, b⟩
      exact ⟨v', rfl, o, b⟩
theorem clone_flg {B n : Nat} {w : World} {v : Value} {xs : List Value} (h : w.ownsRow B 31 1 v n xs) (h1 : ∀ u ∈ xs, u.oneCell' = true) (hn : n ≤ 1048577) : Calls Tryz.prog 23 #[v] w fun e w' => ∃ v', e = .returned v' ∧ w'.ownsRow w.heap.size 31 1 v' n xs ∧ Below w.heap.size w w' := by
  obtain ⟨i, hi, hz'⟩ := Option.map_eq_some_iff.1 So.infoF
  simp only [Prod.mk.injEq] at hz'
  obtain ⟨hz0, hz1, hz2⟩ := hz'
  obtain ⟨hl, ⟨rfl, rfl⟩ | ⟨g, cap, cur, rfl, hg, hh, hc, hm, hs, ht⟩⟩ := h
  · refine (AnyE.slices_Clone_nil Tryz.laysCl_flg 0 0 w).mono ?_
    rintro e w' ⟨rfl, rfl⟩
    have : xs = [] := by cases xs with | nil => rfl | cons _ _ => simp at hl
    subst this
    exact ⟨_, rfl, World.ownsRow_nil _ _ _ _, Below.refl _ _⟩
  · refine (AnyE.slices_Clone Tryz.laysCl_flg i _ 1 2 hi hz0 hz1 hz2 rfl (by decide) Tryz.sizeOf31 g 0 n cap xs w hl (by omega) (by omega) (fun j u hj => ?_) h1).mono ?_
    · have hjl := (List.getElem?_eq_some_iff.1 hj).1
      rw [← ht, List.getElem?_take] at hj
      split at hj
      · simpa [World.cell?, hh] using hj
      · cases hj
    · rintro e w' ⟨v', rfl, o, -, b⟩
      exact ⟨v', rfl, o, b⟩
theorem clone_rul {B n : Nat} {w : World} {v : Value} {xs : List Value} (h : w.ownsRow B 63 7 v n xs) (h1 : ∀ u ∈ xs, u.oneCell' = true) (hn : n ≤ 1048577) : Calls Tryz.prog 24 #[v] w fun e w' => ∃ v', e = .returned v' ∧ w'.ownsRow w.heap.size 63 7 v' n xs ∧ Below w.heap.size w w' := by
  obtain ⟨i, hi, hz'⟩ := Option.map_eq_some_iff.1 infoU
  simp only [Prod.mk.injEq] at hz'
  obtain ⟨hz0, hz1, hz2⟩ := hz'
  obtain ⟨hl, ⟨rfl, rfl⟩ | ⟨g, cap, cur, rfl, hg, hh, hc, hm, hs, ht⟩⟩ := h
  · refine (AnyE.slices_Clone_nil Tryz.laysCl_rul 0 0 w).mono ?_
    rintro e w' ⟨rfl, rfl⟩
    have : xs = [] := by cases xs with | nil => rfl | cons _ _ => simp at hl
    subst this
    exact ⟨_, rfl, World.ownsRow_nil _ _ _ _, Below.refl _ _⟩
  · refine (AnyE.slices_Clone Tryz.laysCl_rul i _ 7 88 hi hz0 hz1 hz2 rfl (by decide) Tryz.sizeOf63 g 0 n cap xs w hl (by omega) (by omega) (fun j u hj => ?_) h1).mono ?_
    · have hjl := (List.getElem?_eq_some_iff.1 hj).1
      rw [← ht, List.getElem?_take] at hj
      split at hj
      · simpa [World.cell?, hh] using hj
      · cases hj
    · rintro e w' ⟨v', rfl, o, -, b⟩
      exact ⟨v', rfl, o, b⟩
end Af
end Go.Proofs.YtkefjaifaonlbaaGreatDoor
/- Plain: what holds of all sets of flags in a file that was read. -/
namespace Go.Proofs.YtkefjaifaonlbaaGreatDoor
open Go.RowKit
namespace Af
/-- all sets in the file are such -/
structure Np (p : List Int → Prop) (F : Fil) : Prop where
  nx : ∀ r ∈ F.rules, p r.next
  al : ∀ a ∈ F.aliases, p a
section
variable {p : List Int → Prop} (p0 : p []) (pr : ∀ k s, p (So.rS k s))
include p0 pr
theorem flgS_np {F : Fil} (h : Np p F) (s : Bs) : p (flgS F s) := by
  unfold flgS
  split
  · exact pr _ _
  · split
    · cases hq : F.aliases[flgN F s - 1]? with
      | none => exact p0
      | some a => exact h.al a (List.mem_of_getElem? hq)
    · exact p0
theorem rule_np {F : Fil} (h : Np p F) {l : Nat} {c : Cls} {row : List Bs} {r : Rul} (hr : rule F l c row = .ok r) : p r.next := by
  have key : ∀ q, added F l c.kind (fld row 3) = .ok q → p q.2 := by
    intro q hq
    unfold added at hq
    split at hq
    · cases hq
    · split at hq
      · cases hq
      · split at hq
        · injection hq with hq; subst hq; exact p0
        · split at hq
          · cases hq
          · split at hq
            · cases hq
            · injection hq with hq; subst hq; exact flgS_np p0 pr h _
  unfold rule at hr
  split at hr
  · cases hr
  · split at hr
    · cases hr
    · split at hr
      · cases hr
      · rename_i q hq
        have := key q hq
        split at hr
        · split at hr
          · cases hr
          · injection hr with hr; subst hr; exact this
        · injection hr with hr; subst hr; exact this
omit p0 pr in
theorem repStep_np {key : Bs} {R R' : Rdr} (h : repStep key R = .ok R') (k : Np p R.file) : Np p R'.file := by
  unfold repStep at h
  split at h
  · cases h
  · rename_i row R1 hg
    obtain ⟨m, e⟩ := grow_mo hg
    split at h
    · cases h
    · injection h with h
      subst h
      exact ⟨by rw [e]; exact k.nx, by rw [e]; exact k.al⟩
theorem aliStep_np {key : Bs} {R R' : Rdr} (h : aliStep key R = .ok R') (k : Np p R.file) : Np p R'.file := by
  unfold aliStep at h
  split at h
  · cases h
  · rename_i row R1 hg
    obtain ⟨m, e⟩ := grow_mo hg
    split at h
    · cases h
    · rename_i q hq
      injection h with h
      subst h
      refine ⟨by rw [e]; exact k.nx, fun a ha => ?_⟩
      rw [e] at ha
      rcases List.mem_append.1 ha with z | z
      · exact k.al a z
      · simp at z
        subst z
        have := p0
        unfold aliRow at hq
        repeat' split at hq
        all_goals first | (cases hq; done) | (injection hq with hq; subst hq; exact pr _ _)
theorem rulStep_np {beg : List Bs} {c : Cls} {R R' : Rdr} (h : rulStep beg c R = .ok R') (k : Np p R.file) : Np p R'.file := by
  unfold rulStep at h
  split at h
  · cases h
  · rename_i row R1 hg
    obtain ⟨m, e⟩ := grow_mo hg
    split at h
    · cases h
    · rename_i q hq
      injection h with h
      subst h
      have kk : Np p R1.file := by rw [e]; exact k
      refine ⟨fun r hr => ?_, kk.al⟩
      rcases List.mem_append.1 hr with z | z
      · exact kk.nx r z
      · simp at z
        subst z
        exact rule_np p0 pr kk hq
theorem doKey_np {R R' : Rdr} {h : List Bs} {k : Key} (hk : doKey R h k = .ok R') (hn : Np p R.file) : Np p R'.file := by
  have triv : ∀ (f : Except Er Rdr) , f = .ok R' → (∀ R1, f = .ok R1 → R1.file.rules = R.file.rules ∧ R1.file.aliases = R.file.aliases) → Np p R'.file := by
    intro f hf q
    obtain ⟨e1, e2⟩ := q R' hf
    exact ⟨by rw [e1]; exact hn.nx, by rw [e2]; exact hn.al⟩
  cases k with
  | reps =>
    simp only [doKey, doReps] at hk
    split at hk
    · cases hk
    · exact times_rel (rel := fun R R' => Np p R.file → Np p R'.file) (fun R h => h) (fun a b c x y z => y (x z)) (fun R R' q => repStep_np q) _ _ _ hk hn
  | aliases =>
    simp only [doKey, doAliases] at hk
    split at hk
    · cases hk
    · split at hk
      · cases hk
      · exact times_rel (rel := fun R R' => Np p R.file → Np p R'.file) (fun R h => h) (fun a b c x y z => y (x z)) (fun R R' q => aliStep_np p0 pr q) _ _ _ hk hn
  | cls kk =>
    simp only [doKey, doClass] at hk
    split at hk
    · cases hk
    · split at hk
      · cases hk
      · split at hk
        · cases hk
        · split at hk
          · cases hk
          · exact times_rel (rel := fun R R' => Np p R.file → Np p R'.file) (fun R h => h) (fun a b c x y z => y (x z)) (fun R R' q => rulStep_np p0 pr q) _ _ _ hk ⟨hn.nx, hn.al⟩
  | _ =>
    refine triv _ hk fun R1 q => ?_
    simp only [doKey, doKind, doCharset, doLetters, doSpecial, doLeast] at q
    repeat' split at q
    all_goals first | (cases q; done) | (injection q with q; subst q; exact ⟨rfl, rfl⟩)
theorem heading_np {R R' : Rdr} {l : Nat} {hd : List Bs} (h : heading R l hd = .ok R') (hn : Np p R.file) : Np p R'.file := by
  unfold heading at h
  split at h
  · cases h
  · split at h
    · cases h
    · split at h
      · cases h
      · split at h
        · cases h
        · rename_i R2 hd2
          injection h with h
          subst h
          have := doKey_np p0 pr (R := { R with line := l }) hd2 hn
          exact this
theorem heads_np : ∀ {m : Nat} {R R' : Rdr}, heads m R = .ok R' → Np p R.file → Np p R'.file
  | 0, R, R', h, hn => by
    simp only [heads, Except.ok.injEq] at h
    subst h
    exact hn
  | m + 1, R, R', h, hn => by
    simp only [heads] at h
    split at h
    · injection h with h; subst h; exact hn
    · rename_i l hd t hr
      split at h
      · cases h
      · rename_i R1 h1
        have n1 := heading_np p0 pr h1 hn
        exact heads_np h n1
theorem affR_np {l : Bs} {F : Fil} (h : affR l = .ok F) : Np p F := by
  by_cases hl : 65536 < l.length
  · simp [affR, hl] at h
  · rw [affR_short hl] at h
    cases hh : heads (Rw.rowsOf l).length (start l) with
    | error e => rw [hh] at h; cases h
    | ok R =>
      rw [hh] at h
      have := heads_np p0 pr hh ⟨fun r hr => by simp [start] at hr, fun a ha => by simp [start] at ha⟩
      unfold affEnd at h
      simp only at h
      split at h
      · cases h
      · injection h with h
        subst h
        exact this
end
/-- each flag is a small number -/
theorem affR_small {l : Bs} {F : Fil} (h : affR l = .ok F) : Np (fun a => ∀ x ∈ a, 0 ≤ x ∧ x ≤ 65535) F :=
  affR_np (fun x hx => by cases hx) (fun k s => rS_nb k s) h
/-- each set is rising, each flag once, and not too great -/
def Sd (a : List Int) : Prop := So.setOf a = a ∧ a.length ≤ 64
theorem affR_sets {l : Bs} {F : Fil} (h : affR l = .ok F) : Np Sd F := by
  refine affR_np ⟨rfl, by simp⟩ (fun k s => ?_) h
  by_cases he : So.rE k s = 0
  · refine ⟨(rS_set k s he).1, ?_⟩
    unfold So.rS
    rw [if_pos he]
    have hl := (So.setOf_set (So.vals k s)).len
    have : (So.vals k s).length ≤ 64 := by
      unfold So.rE So.readE at he
      repeat (split at he <;> first | omega | skip)
    omega
  · unfold So.rS
    rw [if_neg he]
    exact ⟨rfl, by simp⟩
end Af
end Go.Proofs.YtkefjaifaonlbaaGreatDoor
/- The reader's file: Affixes: all that it says, in new memory: what it is; the end of the walk. -/
namespace Go.Proofs.YtkefjaifaonlbaaGreatDoor
open Go.RowKit
namespace Af
open RowB
def axL (F : Fil) (vr va vc vu : Value) : List Value := [.int .i64 F.kind, .string (Wd.str F.charset), .string (Wd.str F.letters), .int .u16 (F.specials.getD 0 0), .int .u16 (F.specials.getD 1 0), .int .u16 (F.specials.getD 2 0), .int .u16 (F.specials.getD 3 0), .int .u16 (F.specials.getD 4 0), .int .i64 (F.least : Nat), vr, va, vc, vu]
abbrev TA : TypeId := 44
/-- the lists of a file, in memory -/
def RepR (n : Nat) (W : World) (F : Fil) (v : Value) : Prop := W.ownsRow n 65 2 v F.reps.length (F.reps.flatMap repC)
def ClsR (n : Nat) (W : World) (F : Fil) (v : Value) : Prop := W.ownsRow n 33 5 v F.classes.length (F.classes.flatMap clsC)
def AliR (n : Nat) (W : World) (F : Fil) (v : Value) (av : List Value) (j : Nat) : Prop := W.ownsRow n 22 1 v F.aliases.length av ∧ av.length = F.aliases.length ∧ ∀ (i : Nat) u a, av[i]? = some u → F.aliases[i]? = some a → FNx (if i < j then n else 0) W u a
def RulR (n : Nat) (W : World) (F : Fil) (v : Value) (nv : List Value) (j : Nat) : Prop := W.ownsRow n 63 7 v F.rules.length ((F.rules.zip nv).flatMap fun p => rulC p.1 p.2) ∧ nv.length = F.rules.length ∧ ∀ (i : Nat) u r, nv[i]? = some u → F.rules[i]? = some r → FNx (if i < j then n else 0) W u r.next
/-- a value of all that a file says -/
def AxV (n : Nat) (W : World) (F : Fil) (v : Value) : Prop :=
  ∃ vr va vc vu av nv, v = .agg (axL F vr va vc vu).toArray ∧ RepR n W F vr ∧ AliR n W F va av F.aliases.length ∧ ClsR n W F vc ∧ RulR n W F vu nv F.rules.length
def AxRes (w : World) (F : Fil) (e : Ending) (w' : World) : Prop := Below w.heap.size w w' ∧ ∃ v, e = .returned v ∧ AxV w.heap.size w' F v
theorem RepR.kq {n : Nat} {W W' : World} {F : Fil} {v : Value} {T : List TypeId} {M : Nat → Prop} (h : RepR n W F v) (k : Kq T M W W') (ht : 65 ∉ T) : RepR n W' F v := own_kq h k ht
theorem ClsR.kq {n : Nat} {W W' : World} {F : Fil} {v : Value} {T : List TypeId} {M : Nat → Prop} (h : ClsR n W F v) (k : Kq T M W W') (ht : 33 ∉ T) : ClsR n W' F v := own_kq h k ht
theorem AliR.kq {n j : Nat} {W W' : World} {F : Fil} {v : Value} {av : List Value} {T : List TypeId} {M : Nat → Prop} (h : AliR n W F v av j) (k : Kq T M W W') (ht : 22 ∉ T) (ht2 : 31 ∉ T) : AliR n W' F v av j := ⟨own_kq h.1 k ht, h.2.1, fun i u a q1 q2 => fnx_kq (h.2.2 i u a q1 q2) k ht2⟩
theorem RulR.kq {n j : Nat} {W W' : World} {F : Fil} {v : Value} {nv : List Value} {T : List TypeId} {M : Nat → Prop} (h : RulR n W F v nv j) (k : Kq T M W W') (ht : 63 ∉ T) (ht2 : 31 ∉ T) : RulR n W' F v nv j := ⟨own_kq h.1 k ht, h.2.1, fun i u a q1 q2 => fnx_kq (h.2.2 i u a q1 q2) k ht2⟩
/-- thirteen cells -/
theorem cells13 {W : World} {b : Nat} {x0 x1 x2 x3 x4 x5 x6 x7 x8 x9 x10 x11 x12 : Value} {t : TypeId} (h : W.heap[b]? = some (.cells #[x0, x1, x2, x3, x4, x5, x6, x7, x8, x9, x10, x11, x12] t (0, 0))) :
    W.cell? ⟨b, 0, none⟩ = some x0 ∧ W.cell? ⟨b, 1, none⟩ = some x1 ∧ W.cell? ⟨b, 2, none⟩ = some x2 ∧ W.cell? ⟨b, 3, none⟩ = some x3 ∧ W.cell? ⟨b, 4, none⟩ = some x4 ∧ W.cell? ⟨b, 5, none⟩ = some x5 ∧ W.cell? ⟨b, 6, none⟩ = some x6 ∧ W.cell? ⟨b, 7, none⟩ = some x7 ∧ W.cell? ⟨b, 8, none⟩ = some x8 ∧ W.cell? ⟨b, 9, none⟩ = some x9 ∧ W.cell? ⟨b, 10, none⟩ = some x10 ∧ W.cell? ⟨b, 11, none⟩ = some x11 ∧ W.cell? ⟨b, 12, none⟩ = some x12 ∧ ∀ k, W.frozen? ⟨b, k, none⟩ = false := by
  refine ⟨?_, ?_, ?_, ?_, ?_, ?_, ?_, ?_, ?_, ?_, ?_, ?_, ?_, fun k => ?_⟩ <;> simp [World.cell?, World.frozen?, h]
/-- a list of cells is stored -/
def wrL (W : World) (b : Nat) : Nat → List Value → World
  | _, [] => W
  | i, x :: t => wrL (W.setCell ⟨b, i, none⟩ x) b (i + 1) t
theorem wrL_facts {B b : Nat} {t : TypeId} : ∀ (xs : List Value) (W : World) (pre old : List Value), old.length = xs.length → B ≤ b → W.heap[b]? = some (.cells (pre ++ old).toArray t (0, 0)) →
    (wrL W b pre.length xs).heap[b]? = some (.cells (pre ++ xs).toArray t (0, 0)) ∧ Kp b W (wrL W b pre.length xs) ∧ Below B W (wrL W b pre.length xs)
  | [], W, pre, old, hl, hB, h => by
    have : old = [] := List.length_eq_zero_iff.1 (by simpa using hl)
    subst this
    exact ⟨h, ⟨Nat.le_refl _, fun _ _ _ => rfl⟩, Below.refl _ _⟩
  | x :: xs, W, pre, [], hl, hB, h => by simp at hl
  | x :: xs, W, pre, y :: old, hl, hB, h => by
    have e : (W.setCell ⟨b, pre.length, none⟩ x).heap[b]? = some (.cells ((pre ++ [x]) ++ old).toArray t (0, 0)) := by
      rw [set_heap1 h]
      simp
    have ih := wrL_facts (B := B) xs (W.setCell ⟨b, pre.length, none⟩ x) (pre ++ [x]) old (by simpa using hl) hB e
    rw [List.length_append, List.length_singleton, List.append_assoc, List.singleton_append] at ih
    exact ⟨ih.1, kp_trans (kp_set W b pre.length x) ih.2.1, ((Below.refl B W).setCell (p := ⟨b, pre.length, none⟩) hB x).trans ih.2.2⟩
theorem own_slice {W : World} {B : Nat} {e : TypeId} {size n : Nat} {v : Value} {xs : List Value} (h : W.ownsRow B e size v n xs) : ∃ a c, v = .slice a n c := by
  obtain ⟨a, c, q, -, -⟩ := own_len h
  exact ⟨a, c, q⟩
noncomputable def ax18 : Code := dropSeq 9 (Tryz.f9.body.getD .skip)
set_option maxRecDepth 100000 in
set_option maxHeartbeats 4000000 in
theorem ax_end {rs ab : Nat} {w W : World} {F : Fil} {vr va vc vu : Value} {av nv : List Value} (low : Below w.heap.size w W) (hrs : W.heap[rs]? = some (.cells #[.int .i64 0, .string ⟨#[]⟩, .string ⟨#[]⟩, .int .u16 0, .int .u16 0, .int .u16 0, .int .u16 0, .int .u16 0, .int .i64 0, .slice none 0 0, .slice none 0 0, .slice none 0 0, .slice none 0 0] TA (0, 0))) (hle : w.heap.size ≤ rs) (hab : W.heap[ab]? = some (.cells (axL F vr va vc vu).toArray TA (0, 0)))
    (h1 : RepR w.heap.size W F vr) (h2 : AliR w.heap.size W F va av F.aliases.length) (h3 : ClsR w.heap.size W F vc) (h4 : RulR w.heap.size W F vu nv F.rules.length) (u0 u1 u4 u5 u6 u7 u8 u9 u10 u11 u12 u13 u14 u15 u16 u17 u18 u19 u20 u21 u22 u23 u24 u25 u26 u27 u28 u29 u30 u31 u32 u33 u34 u35 u36 u37 u38 u39 u40 u41 u42 u43 u44 u45 u46 u47 u48 u49 u50 u51 u52 u53 u54 u55 u56 u57 u58 u59 u60 u61 u62 u63 : Value) :
    Code.wp Tryz.prog ax18 (bodyPost Tryz.prog Tryz.f9 (AxRes w F)) ⟨#[u0, u1, .pointer (some ⟨rs, 0, none⟩), .pointer (some ⟨ab, 0, none⟩), u4, u5, u6, u7, u8, u9, u10, u11, u12, u13, u14, u15, u16, u17, u18, u19, u20, u21, u22, u23, u24, u25, u26, u27, u28, u29, u30, u31, u32, u33, u34, u35, u36, u37, u38, u39, u40, u41, u42, u43, u44, u45, u46, u47, u48, u49, u50, u51, u52, u53, u54, u55, u56, u57, u58, u59, u60, u61, u62, u63], []⟩ W := by
  conv => arg 2; whnf
  obtain ⟨ar, cr, er⟩ := own_slice h1
  obtain ⟨aa, ca, ea⟩ := own_slice h2.1
  obtain ⟨ac, cc, ec⟩ := own_slice h3
  obtain ⟨au, cu, eu⟩ := own_slice h4.1
  have HAX : Hid (∃ w' : World, w' = wrL W rs 0 (axL F vr va vc vu) ∧ Below w.heap.size w w' ∧ w'.heap[rs]? = some (.cells (axL F vr va vc vu).toArray TA (0, 0)) ∧ AxV w.heap.size w' F (.agg (axL F vr va vc vu).toArray)) := by
    obtain ⟨f1, f2, f3⟩ := wrL_facts (B := w.heap.size) (axL F vr va vc vu) W [] [.int .i64 0, .string ⟨#[]⟩, .string ⟨#[]⟩, .int .u16 0, .int .u16 0, .int .u16 0, .int .u16 0, .int .u16 0, .int .i64 0, .slice none 0 0, .slice none 0 0, .slice none 0 0, .slice none 0 0] rfl hle hrs
    have kq : Kq [TA] noM W (wrL W rs 0 (axL F vr va vc vu)) := Kq.kp f2 hrs (by simp)
    exact ⟨_, rfl, low.trans f3, f1, vr, va, vc, vu, av, nv, rfl, h1.kq kq (by decide), h2.kq kq (by decide) (by decide), h3.kq kq (by decide), h4.kq kq (by decide) (by decide)⟩
  obtain ⟨s0, e0⟩ : ∃ x, F.specials.getD 0 0 = x := ⟨_, rfl⟩
  obtain ⟨s1, e1⟩ : ∃ x, F.specials.getD 1 0 = x := ⟨_, rfl⟩
  obtain ⟨s2, e2⟩ : ∃ x, F.specials.getD 2 0 = x := ⟨_, rfl⟩
  obtain ⟨s3, e3⟩ : ∃ x, F.specials.getD 3 0 = x := ⟨_, rfl⟩
  obtain ⟨s4, e4⟩ : ∃ x, F.specials.getD 4 0 = x := ⟨_, rfl⟩
  have HEQ : Hid (axL F vr va vc vu = [.int .i64 F.kind, .string (Wd.str F.charset), .string (Wd.str F.letters), .int .u16 s0, .int .u16 s1, .int .u16 s2, .int .u16 s3, .int .u16 s4, .int .i64 (F.least : Nat), .slice ar F.reps.length cr, .slice aa F.aliases.length ca, .slice ac F.classes.length cc, .slice au F.rules.length cu]) := by
    rw [Hid, axL, e0, e1, e2, e3, e4, er, ea, ec, eu]
  rw [unhide HEQ] at hab HAX
  obtain ⟨c0, c1, c2, c3, c4, c5, c6, c7, c8, c9, c10, c11, c12, -⟩ := cells13 hab
  obtain ⟨d0, d1, d2, d3, d4, d5, d6, d7, d8, d9, d10, d11, d12, dz⟩ := cells13 hrs
  have hlt := lt_some hrs
  clear hrs hle low h1 h2 h3 h4 hab er ea ec eu e0 e1 e2 e3 e4 HEQ
  generalize Wd.str F.charset = k1 at *
  generalize Wd.str F.letters = k2 at *
  generalize F.kind = k0 at *
  generalize F.least = k8 at *
  generalize F.reps.length = nr at *
  generalize F.aliases.length = na at *
  generalize F.classes.length = nc at *
  generalize F.rules.length = nu at *
  go_wp2
  obtain ⟨w', hw', b, hh, hx⟩ := unhide HAX
  obtain ⟨m0, m1, m2, m3, m4, m5, m6, m7, m8, m9, m10, m11, m12, -⟩ := cells13 hh
  have HH := hide (And.intro b hx)
  clear c0 c1 c2 c3 c4 c5 c6 c7 c8 c9 c10 c11 c12 d0 d1 d2 d3 d4 d5 d6 d7 d8 d9 d10 d11 d12 dz hlt HAX b hx hh
  show bodyPost _ _ _ Exit.ret _ (wrL W rs 0 [.int .i64 k0, .string k1, .string k2, .int .u16 s0, .int .u16 s1, .int .u16 s2, .int .u16 s3, .int .u16 s4, .int .i64 (k8 : Nat), .slice ar nr cr, .slice aa na ca, .slice ac nc cc, .slice au nu cu])
  rw [← hw']
  refine bodyPost_ret (v := .agg #[.int .i64 k0, .string k1, .string k2, .int .u16 s0, .int .u16 s1, .int .u16 s2, .int .u16 s3, .int .u16 s4, .int .i64 (k8 : Nat), .slice ar nr cr, .slice aa na ca, .slice ac nc cc, .slice au nu cu]) (by simp [results, Tryz.results9, go_sem, m0, m1, m2, m3, m4, m5, m6, m7, m8, m9, m10, m11, m12]) rfl ?_
  exact ⟨(unhide HH).1, _, rfl, (unhide HH).2⟩
end Af
end Go.Proofs.YtkefjaifaonlbaaGreatDoor
/- The reader's file: Affixes: the rules' sets are copied, one by one. -/
namespace Go.Proofs.YtkefjaifaonlbaaGreatDoor
open Go.RowKit
namespace Af
open RowB
/-- what stands while the copies are made -/
structure XS (rs ab : Nat) (w W : World) (F : Fil) (vr va vc vu : Value) : Prop where
  low : Below w.heap.size w W
  hrs : W.heap[rs]? = some (.cells #[.int .i64 0, .string ⟨#[]⟩, .string ⟨#[]⟩, .int .u16 0, .int .u16 0, .int .u16 0, .int .u16 0, .int .u16 0, .int .i64 0, .slice none 0 0, .slice none 0 0, .slice none 0 0, .slice none 0 0] TA (0, 0))
  hle : w.heap.size ≤ rs
  hab : W.heap[ab]? = some (.cells (axL F vr va vc vu).toArray TA (0, 0))
  hla : w.heap.size ≤ ab
  hne : ab ≠ rs
theorem XS.kq {rs ab : Nat} {w W W' : World} {F : Fil} {vr va vc vu : Value} {T : List TypeId} (h : XS rs ab w W F vr va vc vu) (k : Kq T noM W W') (hT : TA ∉ T) (l : Below w.heap.size W W') : XS rs ab w W' F vr va vc vu :=
  ⟨h.low.trans l, (k.cells _ _ _ _ h.hrs hT).trans h.hrs, h.hle, (k.cells _ _ _ _ h.hab hT).trans h.hab, h.hla, h.hne⟩
theorem fnx_own {B : Nat} {W : World} {v : Value} {l : List Int} (h : FNx B W v l) : W.ownsRow B 31 1 v l.length (l.map So.encF) := by
  rcases h with ⟨rfl, rfl⟩ | h
  · exact World.ownsRow_nil _ _ _ _
  · exact h.owns
theorem own_fnx {B : Nat} {W : World} {v : Value} {l : List Int} (h : W.ownsRow B 31 1 v l.length (l.map So.encF)) : FNx B W v l := by
  obtain ⟨hl, ⟨e1, e2⟩ | ⟨g, cap, cur, e1, hg, hh, h1, h2, h3, h4⟩⟩ := h
  · exact .inl ⟨e1, List.length_eq_zero_iff.1 e2⟩
  · refine .inr ⟨g, cap, cur, e1, hg, hh, h1, h2, by omega, ?_⟩
    rw [Nat.mul_one] at h4
    exact h4
theorem enc_one (l : List Int) : ∀ u ∈ l.map So.encF, u.oneCell' = true := by
  intro u hu
  obtain ⟨x, -, rfl⟩ := List.mem_map.1 hu
  rfl
/-- a store into a list of one's own -/
theorem own_set {W : World} {B g cap : Nat} {e : TypeId} {size n : Nat} {xs : List Value} (h : W.ownsRow B e size (.slice (some ⟨g, 0, none⟩) n cap) n xs) (k : Nat) (_hk : k < n * size) (u : Value) : (W.setCell ⟨g, k, none⟩ u).ownsRow B e size (.slice (some ⟨g, 0, none⟩) n cap) n (xs.set k u) := by
  obtain ⟨hl, ⟨e1, -⟩ | ⟨g', cap', cur, e1, hg, hh, h1, h2, h3, h4⟩⟩ := h
  · cases e1
  · injection e1 with e1 _ e2
    injection e1 with e1
    injection e1 with e1 _ _
    subst e1 e2
    refine ⟨by simpa using hl, .inr ⟨g, cap, cur.setIfInBounds k u, rfl, hg, set_heap1 hh u, h1, h2, by simpa using h3, ?_⟩⟩
    rw [Array.toList_setIfInBounds, List.take_set, h4]
theorem own_blk {W : World} {B g cap : Nat} {e : TypeId} {size n : Nat} {xs : List Value} (h : W.ownsRow B e size (.slice (some ⟨g, 0, none⟩) n cap) n xs) : ∃ cur, W.heap[g]? = some (.cells cur e (0, 0)) ∧ B ≤ g := by
  obtain ⟨hl, ⟨e1, -⟩ | ⟨g', cap', cur, e1, hg, hh, -⟩⟩ := h
  · cases e1
  · injection e1 with e1 _ e2
    injection e1 with e1
    injection e1 with e1 _ _
    subst e1
    exact ⟨cur, hh, hg⟩
theorem zip_set {u : Value} : ∀ (rs : List Rul) (nv : List Value) (j : Nat), j < rs.length → nv.length = rs.length → ((rs.zip (nv.set j u)).flatMap fun p => rulC p.1 p.2) = ((rs.zip nv).flatMap fun p => rulC p.1 p.2).set (j * 7 + 6) u
  | [], _, _, h, _ => by simp at h
  | r :: rs, [], _, _, h => by simp at h
  | r :: rs, v :: nv, 0, h, h2 => by
    simp [rulC]
  | r :: rs, v :: nv, j + 1, h, h2 => by
    have ih := zip_set (u := u) rs nv j (by simpa using h) (by simpa using h2)
    simp only [List.set_cons_succ, List.zip_cons_cons, List.flatMap_cons, ih]
    rw [List.set_append_right _ _ (by simp [rulC]; omega)]
    congr 2
    simp [rulC]
    omega
theorem RulR.put {n0 j : Nat} {W W' : World} {F : Fil} {g cap : Nat} {nv : List Value} {u : Value} {r : Rul} (h : RulR n0 W F (.slice (some ⟨g, 0, none⟩) F.rules.length cap) nv j) (hr : F.rules[j]? = some r) (hW : W' = W.setCell ⟨g, j * 7 + 6, none⟩ u) (hu : FNx n0 W u r.next) : RulR n0 W' F (.slice (some ⟨g, 0, none⟩) F.rules.length cap) (nv.set j u) (j + 1) ∧ Kq [63] noM W W' ∧ n0 ≤ g := by
  subst hW
  obtain ⟨cur, hh, hg⟩ := own_blk h.1
  have k : Kq [63] noM W (W.setCell ⟨g, j * 7 + 6, none⟩ u) := Kq.kp (kp_set _ _ _ _) hh (by simp)
  have hj := (List.getElem?_eq_some_iff.1 hr).1
  refine ⟨⟨?_, by simpa using h.2.1, fun i v q h1 h2 => ?_⟩, k, hg⟩
  · rw [zip_set _ _ _ hj h.2.1]
    exact own_set h.1 _ (by omega) u
  · by_cases hi : i = j
    · subst hi
      rw [List.getElem?_set_self (by rw [h.2.1]; exact hj)] at h1
      injection h1 with h1
      subst h1
      rw [hr] at h2
      injection h2 with h2
      subst h2
      rw [if_pos (by omega)]
      exact fnx_kq hu k (by decide)
    · rw [List.getElem?_set_ne (fun e => hi e.symm)] at h1
      have := fnx_kq (h.2.2 i v q h1 h2) k (by decide)
      by_cases q1 : i < j
      · rw [if_pos q1] at this
        rw [if_pos (by omega)]
        exact this
      · rw [if_neg q1] at this
        rw [if_neg (by omega)]
        exact this
noncomputable def ax13 : Code := dropSeq 8 (Tryz.f9.body.getD .skip)
set_option maxRecDepth 100000 in
set_option maxHeartbeats 4000000 in
theorem ax_rules {rs ab : Nat} {w W : World} {F : Fil} {vr va vc vu : Value} {av nv : List Value} (hX : XS rs ab w W F vr va vc vu) (h1 : RepR w.heap.size W F vr) (h2 : AliR w.heap.size W F va av F.aliases.length) (h3 : ClsR w.heap.size W F vc) (h4 : RulR w.heap.size W F vu nv 0) (hS : Np Sd F) (u0 u1 u4 u5 u6 u7 u8 u9 u10 u11 u12 u13 u14 u15 u16 u17 u18 u19 u20 u21 u22 u23 u24 u25 u26 u27 u28 u29 u30 u31 u32 u33 u34 u35 u36 u37 u38 u39 u40 u41 u42 u43 u44 u45 u46 u47 u48 u49 u50 u51 u52 u53 u54 u55 u56 u57 u58 u59 u60 u61 u62 u63 : Value) :
    Code.wp Tryz.prog ax13 (bodyPost Tryz.prog Tryz.f9 (AxRes w F)) ⟨#[u0, u1, .pointer (some ⟨rs, 0, none⟩), .pointer (some ⟨ab, 0, none⟩), u4, u5, u6, u7, u8, u9, u10, u11, u12, u13, u14, u15, u16, u17, u18, u19, u20, u21, u22, u23, u24, u25, u26, u27, u28, u29, u30, u31, u32, u33, u34, u35, u36, u37, u38, u39, u40, u41, u42, u43, u44, u45, u46, u47, u48, u49, u50, u51, u52, u53, u54, u55, u56, u57, u58, u59, u60, u61, u62, u63], []⟩ W := by
  have HEND : Hid (∀ W nv', XS rs ab w W F vr va vc vu → RepR w.heap.size W F vr → AliR w.heap.size W F va av F.aliases.length → ClsR w.heap.size W F vc → RulR w.heap.size W F vu nv' F.rules.length → ∀ (u0 u1 u4 u5 u6 u7 u8 u9 u10 u11 u12 u13 u14 u15 u16 u17 u18 u19 u20 u21 u22 u23 u24 u25 u26 u27 u28 u29 u30 u31 u32 u33 u34 u35 u36 u37 u38 u39 u40 u41 u42 u43 u44 u45 u46 u47 u48 u49 u50 u51 u52 u53 u54 u55 u56 u57 u58 u59 u60 u61 u62 u63 : Value), Code.wp Tryz.prog ax18 (bodyPost Tryz.prog Tryz.f9 (AxRes w F)) ⟨#[u0, u1, .pointer (some ⟨rs, 0, none⟩), .pointer (some ⟨ab, 0, none⟩), u4, u5, u6, u7, u8, u9, u10, u11, u12, u13, u14, u15, u16, u17, u18, u19, u20, u21, u22, u23, u24, u25, u26, u27, u28, u29, u30, u31, u32, u33, u34, u35, u36, u37, u38, u39, u40, u41, u42, u43, u44, u45, u46, u47, u48, u49, u50, u51, u52, u53, u54, u55, u56, u57, u58, u59, u60, u61, u62, u63], []⟩ W) :=
    fun W nv' x a b c d u0 u1 u4 u5 u6 u7 u8 u9 u10 u11 u12 u13 u14 u15 u16 u17 u18 u19 u20 u21 u22 u23 u24 u25 u26 u27 u28 u29 u30 u31 u32 u33 u34 u35 u36 u37 u38 u39 u40 u41 u42 u43 u44 u45 u46 u47 u48 u49 u50 u51 u52 u53 u54 u55 u56 u57 u58 u59 u60 u61 u62 u63 => ax_end (rs := rs) (ab := ab) x.low x.hrs x.hle x.hab a b c d u0 u1 u4 u5 u6 u7 u8 u9 u10 u11 u12 u13 u14 u15 u16 u17 u18 u19 u20 u21 u22 u23 u24 u25 u26 u27 u28 u29 u30 u31 u32 u33 u34 u35 u36 u37 u38 u39 u40 u41 u42 u43 u44 u45 u46 u47 u48 u49 u50 u51 u52 u53 u54 u55 u56 u57 u58 u59 u60 u61 u62 u63
  have HCODE : ax13 = Code.seq (match ax13 with | .seq a _ => a | c => c) ax18 := by kernel_rfl
  rw [HCODE]
  clear HCODE
  refine wp_seq_k (fun KE hKE => ?_)
  conv => arg 2; whnf
  have c12 : W.cell? ⟨ab, 12, none⟩ = some vu := by simp [World.cell?, hX.hab, axL]
  obtain ⟨au, cu, eu⟩ := own_slice h4.1
  obtain ⟨n, hn⟩ : ∃ n, F.rules.length = n := ⟨_, rfl⟩
  have HN := hide hn
  rcases Nat.eq_zero_or_pos n with hz | hpos
  · subst hz
    have hz0 : ¬ (0 : Int) < 0 := by omega
    have HGO := hide (unhide HEND W nv hX h1 h2 h3 (by rw [hn]; exact h4))
    rw [hn] at eu
    subst eu
    have HKE := hide hKE
    clear hX h1 h2 h3 h4 hS HEND hKE
    go_wp2
    go_loopw [49] (fun s49 wr => s49 = .int .i64 0 ∧ wr = W) (fun _ _ => 0)
    case atStart => exact ⟨rfl, rfl⟩
    case round =>
      obtain ⟨rfl, rfl⟩ := hrel
      go_wp2
      apply unhide HKE
      exact unhide HGO _ _ _ _ _ _ _ _ _ _ _ _ _ _ _ _ _ _ _ _ _ _ _ _ _ _ _ _ _ _ _ _ _ _ _ _ _ _ _ _ _ _ _ _ _ _ _ _ _ _ _ _ _ _ _ _ _ _ _ _ _ _
  obtain ⟨gu, cu', e1, -, hgu, hcu1, hcu2, -, -⟩ := own_at h4.1 (by omega)
  rw [hn] at e1
  subst e1
  clear eu au cu
  have HKE := hide hKE
  have HSD := hide hS
  have HX0 := hide (And.intro hX (And.intro h1 (And.intro h2 (And.intro h3 h4))))
  unfold maxLen at hcu2
  rw [hn] at hcu1
  clear hX h1 h2 h3 h4 hS hKE hn
  go_wp2
  go_loopw [49] (fun s49 wr => ∃ j : Nat, s49 = .int .i64 j ∧ j ≤ n ∧ Hid (∃ nv', XS rs ab w wr F vr va vc (.slice (some ⟨gu, 0, none⟩) n cu') ∧ RepR w.heap.size wr F vr ∧ AliR w.heap.size wr F va av F.aliases.length ∧ ClsR w.heap.size wr F vc ∧ RulR w.heap.size wr F (.slice (some ⟨gu, 0, none⟩) n cu') nv' j)) (fun s49 _ => n - (intOf s49).toNat)
  case atStart => exact ⟨0, rfl, Nat.zero_le _, ⟨nv, unhide HX0⟩⟩
  case round =>
    obtain ⟨j, rfl, hj, HR⟩ := hrel
    clear c12 HX0 hgu
    by_cases hlt : j < n
    · have hltz : (j : Int) < (n : Int) := by omega
      have hj0 : ¬ (j : Int) < 0 := by omega
      obtain ⟨nv', hX, h1, h2, h3, h4⟩ := unhide HR
      have hjr : j < F.rules.length := by rw [unhide HN]; exact hlt
      obtain ⟨r, hr⟩ : ∃ r, F.rules[j]? = some r := ⟨_, List.getElem?_eq_getElem hjr⟩
      obtain ⟨v, hv⟩ : ∃ v, nv'[j]? = some v := ⟨_, List.getElem?_eq_getElem (by rw [h4.2.1]; exact hjr)⟩
      have hfn := h4.2.2 j v r hv hr
      rw [if_neg (Nat.lt_irrefl j)] at hfn
      obtain ⟨g', c', e1, -, hgu, -, -, -, hcu⟩ := own_at h4.1 (by omega)
      injection e1 with e1 ea eb
      clear ea eb
      injection e1 with e1
      injection e1 with e1 ea eb
      clear ea eb
      subst e1
      have h41 := h4.1
      rw [unhide HN] at h41
      have q : ∀ k, k < 7 → wr.cell? ⟨gu, j * 7 + k, none⟩ = (rulC r v)[k]? := fun k hk => (hcu _ (by omega)).trans (flat_get (f := fun p : Rul × Value => rulC p.1 p.2) (m := 7) (fun _ => rfl) (zip_get hr hv) hk)
      have q0 := q 0 (by decide)
      have q1 := q 1 (by decide)
      have q2 := q 2 (by decide)
      have q3 := q 3 (by decide)
      have q4 := q 4 (by decide)
      have q5 := q 5 (by decide)
      have q6 := q 6 (by decide)
      simp only [rulC, List.getElem?_cons_zero, List.getElem?_cons_succ, Nat.add_zero] at q0 q1 q2 q3 q4 q5 q6
      obtain ⟨ao, m, c, rfl⟩ : ∃ a m c, v = .slice a m c := by
        rcases hfn with ⟨q, -⟩ | ⟨gq, cq, curq, q, -⟩
        · exact ⟨_, _, _, q⟩
        · exact ⟨_, _, _, q⟩
      have b1 : Below wr.heap.size wr (wr.alloc (.cells (rulC r (.slice ao m c)).toArray 63)) := (Below.refl _ wr).alloc (Nat.le_refl _) _
      have b1d := b1.drew
      have c12 : wr.cell? ⟨ab, 12, none⟩ = some (.slice (some ⟨gu, 0, none⟩) n cu') := by simp [World.cell?, hX.hab, axL]
      have habl := lt_some hX.hab
      have h12a := (b1d.cell (p := ⟨ab, 12, none⟩) habl).trans c12
      obtain ⟨-, -, -, -, -, -, t76⟩ : True ∧ True ∧ True ∧ True ∧ True ∧ True ∧ ((wr.alloc (.cells (rulC r (.slice ao m c)).toArray 63)).drew).cell? ⟨wr.heap.size, 6, none⟩ = some (.slice ao m c) := by
        refine ⟨trivial, trivial, trivial, trivial, trivial, trivial, ?_⟩
        have e := alloc_new wr (.cells (rulC r (.slice ao m c)).toArray 63)
        show (wr.alloc (.cells (rulC r (.slice ao m c)).toArray 63)).cell? ⟨wr.heap.size, 6, none⟩ = _
        unfold World.cell?
        simp only
        rw [e]
        rfl
      have hfd := fnx_kept hfn (below_kept b1d)
      have HCL := hide (clone_flg (w := (wr.alloc (.cells (rulC r (.slice ao m c)).toArray 63)).drew) (fnx_own hfd) (enc_one _) (by have := (unhide HSD).nx r (List.mem_of_getElem? hr); unfold Sd at this; omega))
      have HST : Hid (∀ w3 u, w3.ownsRow (wr.alloc (.cells (rulC r (.slice ao m c)).toArray 63)).drew.heap.size 31 1 u r.next.length (r.next.map So.encF) → Below (wr.alloc (.cells (rulC r (.slice ao m c)).toArray 63)).drew.heap.size (wr.alloc (.cells (rulC r (.slice ao m c)).toArray 63)).drew w3 →
          ∀ W', W' = w3.setCell ⟨gu, j * 7 + 6, none⟩ u → ∃ nv'', XS rs ab w W' F vr va vc (.slice (some ⟨gu, 0, none⟩) n cu') ∧ RepR w.heap.size W' F vr ∧ AliR w.heap.size W' F va av F.aliases.length ∧ ClsR w.heap.size W' F vc ∧ RulR w.heap.size W' F (.slice (some ⟨gu, 0, none⟩) n cu') nv'' (j + 1)) := by
        intro w3 u o3 b3 W' hW
        have bb : Below wr.heap.size wr w3 := b1d.trans (b3.mono b1d.size)
        have hn0 := hX.low.size
        have kq : Kq ([] : List TypeId) noM wr w3 := Kq.below bb
        have h4' := h4.kq kq (by simp) (by simp)
        have hu : FNx w.heap.size w3 u r.next := (own_fnx o3).low (Nat.le_trans hn0 b1d.size)
        rw [← unhide HN] at h4'
        obtain ⟨r1, r2, r3⟩ := h4'.put hr hW hu
        rw [unhide HN] at r1
        have hX' := hX.kq kq (by simp) (bb.mono hn0)
        have l2 : Below w.heap.size w3 W' := by rw [hW]; exact (Below.refl _ _).setCell (p := ⟨gu, j * 7 + 6, none⟩) r3 _
        exact ⟨_, hX'.kq r2 (by decide) l2, (h1.kq kq (by simp)).kq r2 (by decide), (h2.kq kq (by simp) (by simp)).kq r2 (by decide) (by decide), (h3.kq kq (by simp)).kq r2 (by decide), r1⟩
      have HRW : Hid (∀ w3, Below (wr.alloc (.cells (rulC r (.slice ao m c)).toArray 63)).drew.heap.size (wr.alloc (.cells (rulC r (.slice ao m c)).toArray 63)).drew w3 → w3.cell? ⟨ab, 12, none⟩ = some (.slice (some ⟨gu, 0, none⟩) n cu') ∧ w3.cell? ⟨wr.heap.size, 6, none⟩ = some (.slice ao m c) ∧ w3.cell? ⟨gu, j * 7 + 6, none⟩ = some (.slice ao m c) ∧ w3.frozen? ⟨gu, j * 7 + 6, none⟩ = false ∧ gu < w3.heap.size) := by
        intro w3 b3
        have bb : Below wr.heap.size wr w3 := b1d.trans (b3.mono b1d.size)
        obtain ⟨cur, hcur, -⟩ := own_blk h41
        have hcur3 := (below_kept bb _ _ hcur).trans hcur
        refine ⟨(bb.cell (p := ⟨ab, 12, none⟩) habl).trans c12, (b3.cell (p := ⟨wr.heap.size, 6, none⟩) (World.block_lt_of_cell? _ _ t76)).trans t76, (bb.cell (p := ⟨gu, j * 7 + 6, none⟩) hgu).trans q6, by simp [World.frozen?, hcur3], lt_some hcur3⟩
      have HQ := hide (And.intro h12a t76)
      clear HR hX h1 h2 h3 h4 h41 hv hr hfn hcu q hfd b1 b1d h12a t76
      unfold rulC at HCL HST HRW HQ
      go_wp2
      rename_i K0 hK0
      have HK0 := hide hK0
      clear hK0
      refine Lst.region_last (ops1 := ?ops1) (o := ?op1) (S := fun w' => w'.cell? ⟨ab, 12, none⟩ = some (.slice (some ⟨gu, 0, none⟩) n cu') ∧ w'.cell? ⟨wr.heap.size, 6, none⟩ = some (.slice ao m c)) (by kernel_rfl) ?hp1 ?hb1 ?hk1 (by exact unhide HQ) ?hn1
      case hp1 => (simp only [List.pop_toArray, List.dropLast_cons_cons, List.dropLast_singleton]; rfl)
      case hb1 => (simp only [List.back?_toArray, List.getLast?_cons_cons, List.getLast?_singleton]; rfl)
      case hk1 => kernel_rfl
      intro hHeld
      refine wpAnyH_take (i := 0) (v := ?v2) (by simp only [List.getElem?_toArray, List.getElem?_cons_zero]; rfl) (by kernel_rfl) (by kernel_rfl) (by kernel_rfl) (by exact fun _ _ _ h => h) (Or.inl ⟨by rfl, ?hy2⟩) (by assumption) ?_
      case hy2 => (intro w hSw; (try dsimp only at hSw); go_simp; first | done | (with_reducible rfl))
      (try simp only [Act.put, List.setIfInBounds_toArray, List.set_cons_zero, List.set_cons_succ])
      refine wpAnyH_take (i := 1) (v := ?v3) (by simp only [List.getElem?_toArray, List.getElem?_cons_succ, List.getElem?_cons_zero]; rfl) (by kernel_rfl) (by kernel_rfl) (by kernel_rfl) (by exact fun _ _ _ h => h) (Or.inl ⟨by rfl, ?hy3⟩) (by assumption) ?_
      case hy3 => (intro w hSw; (try dsimp only at hSw); go_simp; first | done | (with_reducible rfl))
      (try simp only [Act.put, List.setIfInBounds_toArray, List.set_cons_zero, List.set_cons_succ])
      refine wpAnyH_take (i := 2) (v := ?v4) (by simp only [List.getElem?_toArray, List.getElem?_cons_succ, List.getElem?_cons_zero]; rfl) (by kernel_rfl) (by kernel_rfl) (by kernel_rfl) (by exact fun _ _ _ h => h) (Or.inl ⟨by rfl, ?hy4⟩) (by assumption) ?_
      case hy4 => (intro w hSw; (try dsimp only at hSw); go_simp; first | done | (with_reducible rfl))
      (try simp only [Act.put, List.setIfInBounds_toArray, List.set_cons_zero, List.set_cons_succ])
      refine wpAnyH_take (i := 3) (v := ?v5) (by simp only [List.getElem?_toArray, List.getElem?_cons_succ, List.getElem?_cons_zero]; rfl) (by kernel_rfl) (by kernel_rfl) (by kernel_rfl) (by exact fun _ _ _ h => h) (Or.inl ⟨by rfl, ?hy5⟩) (by assumption) ?_
      case hy5 => (intro w hSw; (try dsimp only at hSw); go_simp; first | done | (with_reducible rfl))
      (try simp only [Act.put, List.setIfInBounds_toArray, List.set_cons_zero, List.set_cons_succ])
      refine wpAnyH_take (i := 4) (v := ?v6) (by simp only [List.getElem?_toArray, List.getElem?_cons_succ, List.getElem?_cons_zero]; rfl) (by kernel_rfl) (by kernel_rfl) (by kernel_rfl) (by exact fun _ _ _ h => h) (Or.inl ⟨by rfl, ?hy6⟩) (by assumption) ?_
      case hy6 => (intro w hSw; (try dsimp only at hSw); go_simp; first | done | (with_reducible rfl))
      (try simp only [Act.put, List.setIfInBounds_toArray, List.set_cons_zero, List.set_cons_succ])
      refine wpAnyH_ready (rs := [5]) (by kernel_rfl) (by simp) ?_
      refine AllReadyH.cons (by simp only [List.getElem?_toArray, List.getElem?_cons_succ, List.getElem?_cons_zero]; rfl) (fun K hK => ?_) AllReadyH.nil
      go_simp
      go_wp2_with (go_at_call 23; refine (unhide HCL).mono ?_; rintro e w3 ⟨u, rfl, o3, b3⟩; obtain ⟨x1, x2, x3, x4, x5⟩ := unhide HRW _ b3; have HNX := hide (unhide HST _ _ o3 b3); obtain ⟨au, cu2, rfl⟩ := own_slice o3; clear o3 b3)
      refine hK.out _ _ (⟨x1, x2⟩) (fun hh3 => ?_)
      clear hK K
      (try simp only [Act.put, List.setIfInBounds_toArray, List.set_cons_zero, List.set_cons_succ])
      refine wpAnyH_take (i := 6) (v := ?v7) (by simp only [List.getElem?_toArray, List.getElem?_cons_succ, List.getElem?_cons_zero]; rfl) (by kernel_rfl) (by kernel_rfl) (by kernel_rfl) (by exact fun _ _ _ h => h) (Or.inl ⟨by rfl, ?hy7⟩) (by assumption) ?_
      case hy7 => (intro w hSw; (try dsimp only at hSw); go_simp; first | done | (with_reducible rfl))
      (try simp only [Act.put, List.setIfInBounds_toArray, List.set_cons_zero, List.set_cons_succ])
      refine wpAnyH_take (i := 7) (v := ?v8) (by simp only [List.getElem?_toArray, List.getElem?_cons_succ, List.getElem?_cons_zero]; rfl) (by kernel_rfl) (by kernel_rfl) (by kernel_rfl) (by exact fun _ _ _ h => h) (Or.inl ⟨by rfl, ?hy8⟩) (by assumption) ?_
      case hy8 => (intro w hSw; (try dsimp only at hSw); go_simp; first | done | (with_reducible rfl))
      (try simp only [Act.put, List.setIfInBounds_toArray, List.set_cons_zero, List.set_cons_succ])
      refine wpAnyH_done (by kernel_rfl) ?_ _
      show Oper.wp _ _ _ _ _ _
      go_simp
      apply unhide HK0
      go_wp2
      go_roundw
      case rel => exact ⟨j + 1, by go_num, by omega, unhide HNX _ rfl⟩
      case measure => simp [intOf]; omega
    · obtain rfl : j = n := by omega
      have hltz : ¬ (j : Int) < (j : Int) := by omega
      obtain ⟨nv', hX, h1, h2, h3, h4⟩ := unhide HR
      have HGO := hide (unhide HEND wr nv' hX h1 h2 h3 (by rw [unhide HN]; exact h4))
      clear HR hX h1 h2 h3 h4 HEND HN
      go_wp2
      apply unhide HKE
      exact unhide HGO _ _ _ _ _ _ _ _ _ _ _ _ _ _ _ _ _ _ _ _ _ _ _ _ _ _ _ _ _ _ _ _ _ _ _ _ _ _ _ _ _ _ _ _ _ _ _ _ _ _ _ _ _ _ _ _ _ _ _ _ _ _
end Af
end Go.Proofs.YtkefjaifaonlbaaGreatDoor
