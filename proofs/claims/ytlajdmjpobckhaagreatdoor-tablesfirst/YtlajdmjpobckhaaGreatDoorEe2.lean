/- tables.Read. -/
import Derived.Test.YtlajdmjpobckhaaGreatDoorEe1
namespace Go.Proofs.YtlajdmjpobckhaaGreatDoor
open Go.RowKit
namespace Af
open RowB
def tbC (fb wb : Nat) (F : Fil) (vu ve : Value) : Array Value := #[.pointer (some ⟨fb, 0, none⟩), .pointer (some ⟨wb, 0, none⟩), .int .u16 (F.specials.getD 0 0), .int .u16 (F.specials.getD 1 0), .int .u16 (F.specials.getD 2 0), .int .u16 (F.specials.getD 3 0), .int .u16 (F.specials.getD 4 0), vu, ve]
/-- tables in memory -/
structure TbAt (w : World) (tb B : Nat) (F : Fil) (P : Pts) (n wb : Nat) (E : List Ent) (Q : WPts) (vu ve : Value) (nv fv : List Value) : Prop where
  hd : w.heap[tb]? = some (.cells (tbC P.fb wb F vu ve) 71 (0, 0))
  file : FAt B w F P
  wa : WA n w wb E E Q
  rul : RulR 0 w F vu nv F.rules.length
  ent : EntR 0 w E ve fv E.length
theorem RulR.low {n n' j : Nat} {W : World} {F : Fil} {v : Value} {nv : List Value} (h : RulR n W F v nv j) (k : n' ≤ n) : RulR n' W F v nv j := by
  refine ⟨own_low h.1 k, h.2.1, fun i u r a b => fnx_low (h.2.2 i u r a b) ?_⟩
  split <;> omega
theorem EntR.low {n n' j : Nat} {W : World} {E : List Ent} {v : Value} {nv : List Value} (h : EntR n W E v nv j) (k : n' ≤ n) : EntR n' W E v nv j := by
  refine ⟨own_low h.1 k, h.2.1, fun i u r a b => fnx_low (h.2.2 i u r a b) ?_⟩
  split <;> omega
theorem TbAt.stay {w w' : World} {tb B n wb : Nat} {F : Fil} {P : Pts} {E : List Ent} {Q : WPts} {vu ve : Value} {nv fv : List Value} (h : TbAt w tb B F P n wb E Q vu ve nv fv) (k : Kq [29] noM w w') : TbAt w' tb B F P n wb E Q vu ve nv fv :=
  ⟨(k.cells _ _ _ _ h.hd (by decide)).trans h.hd, h.file.stay k (by decide) (by decide) (by decide) (by decide) (by decide) (by decide) (fun q => q), h.wa.frame k (by decide) (by decide) (by decide) (by decide) (fun q => q), h.rul.kq k (by decide) (by decide), h.ent.kq k (by decide) (by decide)⟩
theorem TbAt.below {w w' : World} {tb B n wb : Nat} {F : Fil} {P : Pts} {E : List Ent} {Q : WPts} {vu ve : Value} {nv fv : List Value} (h : TbAt w tb B F P n wb E Q vu ve nv fv) (k : Below w.heap.size w w') : TbAt w' tb B F P n wb E Q vu ve nv fv := h.stay (Kq.below k)
/-- what both texts say -/
def tabR (a s : Bs) : Except (Nat × Er) (Fil × List Ent) := match affR a with
  | .error e => .error (1, e)
  | .ok F => match dicR F s with
    | .error e => .error (2, e)
    | .ok E => .ok (F, E)
def TRes (w : World) (X : Except (Nat × Er) (Fil × List Ent)) (e : Ending) (w' : World) : Prop :=
  Below w.heap.size w w' ∧ match X with
  | .ok (F, E) => ∃ tb B P n wb Q vu ve nv fv, e = .returned (.tuple #[.pointer (some ⟨tb, 0, none⟩), zF]) ∧ TbAt w' tb B F P n wb E Q vu ve nv fv
  | .error (f, er) => e = .returned (.tuple #[.pointer none, .agg #[.int .i64 (f : Nat), .int .i64 (er.1 : Nat), .int .i64 (er.2 : Nat)]])
set_option maxRecDepth 100000 in
set_option maxHeartbeats 4000000 in
theorem tread_aff {w : World} (a s : ByteArray) (hM : Mx w.heap.size w) {er : Er} (hx : affR a.data.toList = .error er) :
    Calls Tryz.prog 23 #[.string a, .string s] w fun e w' => e = .returned (.tuple #[.pointer none, .agg #[.int .i64 1, .int .i64 (er.1 : Nat), .int .i64 (er.2 : Nat)]]) ∧ Below w.heap.size w w' := by
  have b1 : Below w.heap.size w (w.alloc (.cells #[.int .i64 0, .int .i64 0, .int .i64 0] 29)) := (Below.refl _ _).alloc (Nat.le_refl _) _
  have HA : Hid (Calls Tryz.prog 12 #[.string a] (w.alloc (.cells #[.int .i64 0, .int .i64 0, .int .i64 0] 29)) fun e w' => e = .returned (.tuple #[.pointer none, .agg #[.int .i64 1, .int .i64 (er.1 : Nat), .int .i64 (er.2 : Nat)]]) ∧ Below (w.heap.size + 1) (w.alloc (.cells #[.int .i64 0, .int .i64 0, .int .i64 0] 29)) w') := by
    have hM1 : Mx (w.alloc (.cells #[.int .i64 0, .int .i64 0, .int .i64 0] 29)).heap.size (w.alloc (.cells #[.int .i64 0, .int .i64 0, .int .i64 0] 29)) := by
      obtain ⟨h1, h2⟩ := hM.low b1
      exact ⟨Nat.lt_of_lt_of_le h1 b1.size, h2⟩
    refine (Read_any a _ hM1).mono ?_
    rintro e w' ⟨b, q⟩
    rw [hx] at q
    rw [World.size_alloc] at b
    exact ⟨q, b⟩
  have HV := hide (alloc_new w (.cells #[.int .i64 0, .int .i64 0, .int .i64 0] 29))
  have HB1 := hide b1
  clear b1 hM hx
  go_enter Tryz.func23, Tryz.ntmps23
  go_wp2_with fail
  refine (unhide HA).mono ?_
  rintro e w1 ⟨rfl, b2⟩
  have hv1 := (b2.block w.heap.size (by omega)).trans (unhide HV)
  have HB2 := hide ((unhide HB1).trans (b2.mono (by omega)))
  obtain ⟨v0, v1, v2, vz⟩ := fault3 hv1
  have hvl := lt_some hv1
  have HV1 := hide hv1
  clear b2 hv1 HA HV HB1
  go_wp2_with fail
  refine gen_world ?_
  intro V hV
  have HVV : Hid (V.heap[w.heap.size]? = some (.cells #[.int .i64 0, .int .i64 0, .int .i64 0] 29 (0, 0)) ∧ V.heap[w1.heap.size]? = some (.cells #[.int .i64 1, .int .i64 (er.1 : Nat), .int .i64 (er.2 : Nat)] 29 (0, 0)) ∧ Below w.heap.size w V ∧ w.heap.size < w1.heap.size) := by
    rw [hV]
    have b := (Below.refl w1.heap.size w1).alloc (Nat.le_refl _) (.cells #[.int .i64 1, .int .i64 (er.1 : Nat), .int .i64 (er.2 : Nat)] 29)
    exact ⟨(b.block _ hvl).trans (unhide HV1), alloc_new w1 _, (unhide HB2).trans (b.mono (unhide HB2).size), hvl⟩
  clear hV v0 v1 v2 vz HV1 HB2 hvl
  obtain ⟨r0, r1, r2, rz⟩ := fault3 (unhide HVV).1
  obtain ⟨q0, q1, q2, qz⟩ := fault3 (unhide HVV).2.1
  have hl0 := lt_some (unhide HVV).1
  have hl1 := lt_some (unhide HVV).2.1
  have S0 := hide (And.intro q0 (And.intro q1 q2))
  refine Lst.region_last (ops1 := ?ops1) (o := ?op1) (S := fun w' => w'.cell? ⟨w1.heap.size, 0, none⟩ = some (.int .i64 1) ∧ w'.cell? ⟨w1.heap.size, 1, none⟩ = some (.int .i64 (er.1 : Nat)) ∧ w'.cell? ⟨w1.heap.size, 2, none⟩ = some (.int .i64 (er.2 : Nat))) (by kernel_rfl) ?hp1 ?hb1 ?hk1 (by exact unhide S0) ?hn1
  case hp1 => (simp only [List.pop_toArray, List.dropLast_cons_cons, List.dropLast_singleton]; rfl)
  case hb1 => (simp only [List.back?_toArray, List.getLast?_cons_cons, List.getLast?_singleton]; rfl)
  case hk1 => kernel_rfl
  intro hHeld
  refine wpAnyH_take (i := 1) (v := ?v2) (by simp only [List.getElem?_toArray, List.getElem?_cons_succ, List.getElem?_cons_zero]; rfl) (by kernel_rfl) (by kernel_rfl) (by kernel_rfl) (by exact fun _ _ _ h => h) (Or.inl ⟨by rfl, ?hy2⟩) (by assumption) ?_
  case hy2 => (intro w hSw; (try dsimp only at hSw); go_simp; first | done | (with_reducible rfl))
  (try simp only [Act.put, List.setIfInBounds_toArray, List.set_cons_zero, List.set_cons_succ])
  refine wpAnyH_take (i := 0) (v := ?v3) (by simp only [List.getElem?_toArray, List.getElem?_cons_zero]; rfl) (by kernel_rfl) (by kernel_rfl) (by kernel_rfl) (by exact fun _ _ _ h => h) (Or.inl ⟨by rfl, ?hy3⟩) (by assumption) ?_
  case hy3 => (intro w hSw; (try dsimp only at hSw); go_simp; first | done | (with_reducible rfl))
  (try simp only [Act.put, List.setIfInBounds_toArray, List.set_cons_zero, List.set_cons_succ])
  refine wpAnyH_done (by kernel_rfl) ?_ _
  show Oper.wp _ _ _ _ _ _
  go_simp
  rename_i K2 hK2
  apply hK2
  refine gen_world ?_
  intro V2 hV2
  obtain ⟨f1, f2, f3⟩ := swr_facts (n0 := w.heap.size) (unhide HVV).1 (Nat.le_refl _) (.int .i64 1) (.int .i64 (er.1 : Nat)) (.int .i64 (er.2 : Nat))
  have HF : Hid (V2.heap[w.heap.size]? = some (.cells #[.int .i64 1, .int .i64 (er.1 : Nat), .int .i64 (er.2 : Nat)] 29 (0, 0)) ∧ Below w.heap.size w V2) := by
    rw [hV2]
    exact ⟨f1, ((unhide HVV).2.2.1.trans f2).drew⟩
  clear hV2 f1 f2 f3
  obtain ⟨m0, m1, m2, mz⟩ := fault3 (unhide HF).1
  go_wp2
  refine bodyPost_ret (v := .tuple #[.pointer none, .agg #[.int .i64 1, .int .i64 (er.1 : Nat), .int .i64 (er.2 : Nat)]]) (by simp [results, Tryz.results23, go_sem, m0, m1, m2]) rfl ?_
  exact ⟨rfl, (unhide HF).2⟩
end Af
end Go.Proofs.YtlajdmjpobckhaaGreatDoor
