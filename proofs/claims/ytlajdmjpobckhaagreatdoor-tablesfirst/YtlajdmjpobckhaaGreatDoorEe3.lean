/- tables.Read: the affix file is read. -/
import Derived.Test.YtlajdmjpobckhaaGreatDoorEe2
namespace Go.Proofs.YtlajdmjpobckhaaGreatDoor
open Go.RowKit
namespace Af
open RowB
/-- how aff.Read of a good text goes -/
theorem aff_at {w : World} {a : ByteArray} {F : Fil} (hM : Mx w.heap.size w) (h : affR a.data.toList = .ok F) : Calls Tryz.prog 12 #[.string a] w fun e w1 => ∃ B P, e = .returned (.tuple #[.pointer (some ⟨P.fb, 0, none⟩), .agg #[.int .i64 0, .int .i64 0, .int .i64 0]]) ∧ FAt B w1 F P ∧ Mx B w1 ∧ B ≤ w1.heap.size ∧ Below w.heap.size w w1 := by
  refine (Read_any a w hM).mono ?_
  rintro e w1 ⟨b, q⟩
  rw [h] at q
  obtain ⟨B, P, hB, rfl, hF⟩ := q
  obtain ⟨m1, m2⟩ := hM.low b
  exact ⟨B, P, rfl, hF, ⟨Nat.lt_of_lt_of_le m1 hB, m2⟩, Nat.le_of_lt (Nat.lt_of_le_of_lt hF.fbB (lt_some hF.fil)), b⟩
set_option maxRecDepth 100000 in
set_option maxHeartbeats 4000000 in
theorem tread_dic {w : World} (a s : ByteArray) (hM : Mx w.heap.size w) {F : Fil} (ha : affR a.data.toList = .ok F) {er : Er} (hx : dicR F s.data.toList = .error er) :
    Calls Tryz.prog 23 #[.string a, .string s] w fun e w' => e = .returned (.tuple #[.pointer none, .agg #[.int .i64 2, .int .i64 (er.1 : Nat), .int .i64 (er.2 : Nat)]]) ∧ Below w.heap.size w w' := by
  have b1 : Below w.heap.size w (w.alloc (.cells #[.int .i64 0, .int .i64 0, .int .i64 0] 29)) := (Below.refl _ _).alloc (Nat.le_refl _) _
  have hM1 : Mx (w.alloc (.cells #[.int .i64 0, .int .i64 0, .int .i64 0] 29)).heap.size (w.alloc (.cells #[.int .i64 0, .int .i64 0, .int .i64 0] 29)) := by
    obtain ⟨h1, h2⟩ := hM.low b1
    exact ⟨Nat.lt_of_lt_of_le h1 b1.size, h2⟩
  have HA := hide (aff_at hM1 ha)
  rw [World.size_alloc] at HA
  have HV := hide (alloc_new w (.cells #[.int .i64 0, .int .i64 0, .int .i64 0] 29))
  have HDD := hide (fun B P W (h1 : FAt B W F P) h2 h3 => dic_of ha h1 h2 h3 s)
  have HB1 := hide b1
  have HX := hide hx
  clear b1 hM hM1 hx
  go_enter Tryz.func23, Tryz.ntmps23
  go_wp2_with fail
  refine (unhide HA).mono ?_
  rintro e w1 ⟨B, P, rfl, hF1, hMB, hBs, b2⟩
  have h01 := (b2.block w.heap.size (by omega)).trans (unhide HV)
  have hlt1 : w.heap.size < w1.heap.size := lt_some h01
  have HB2 := hide ((unhide HB1).trans (b2.mono (by omega)))
  obtain ⟨V, hV⟩ : ∃ V, V = w1.alloc (.cells #[.int .i64 0, .int .i64 0, .int .i64 0] 29) := ⟨_, rfl⟩
  have bV : Below w1.heap.size w1 V := by rw [hV]; exact (Below.refl _ _).alloc (Nat.le_refl _) _
  have h0V := (bV.block _ hlt1).trans h01
  have h1V : V.heap[w1.heap.size]? = some (.cells #[.int .i64 0, .int .i64 0, .int .i64 0] 29 (0, 0)) := by rw [hV]; exact alloc_new w1 _
  have hl1V := lt_some h1V
  have HFV := hide (hF1.below bV)
  have HMV := hide (hMB.low (bV.mono hBs))
  have HD := hide (unhide HDD B P V (unhide HFV) (unhide HMV) (Nat.le_trans hBs bV.size))
  have HBV := hide ((unhide HB2).trans (bV.mono (Nat.le_of_lt hlt1)))
  have HVH := hide hV
  clear hF1 hMB b2 h01 bV hV HA HV HDD HB1 HB2
  go_wp2_with fail
  refine gen_call ?_
  intro V' hV'
  obtain rfl : V' = V := hV'.trans (unhide HVH).symm
  clear hV' HVH
  refine (unhide HD).mono ?_
  rintro e w3 ⟨b3, q⟩
  rw [unhide HX] at q
  simp only at q
  subst q
  have h03 := (b3.block w.heap.size (by omega)).trans h0V
  have h13 := (b3.block w1.heap.size (by omega)).trans h1V
  have HB3 := hide ((unhide HBV).trans (b3.mono (unhide HBV).size))
  obtain ⟨v0, v1, v2, vz⟩ := fault3 h03
  obtain ⟨u0, u1, u2, uz⟩ := fault3 h13
  have hl0 := lt_some h03
  have hl1 := lt_some h13
  have HC := hide (And.intro h03 h13)
  clear b3 h0V h1V h03 h13 HD HBV
  go_wp2_with fail
  refine gen_world ?_
  intro V2 hV2
  obtain ⟨g1, g2, g3⟩ := swr_facts (n0 := w.heap.size) (unhide HC).2 (Nat.le_of_lt hlt1) (.int .i64 2) (.int .i64 (er.1 : Nat)) (.int .i64 (er.2 : Nat))
  have HVV : Hid (V2.heap[w.heap.size]? = some (.cells #[.int .i64 0, .int .i64 0, .int .i64 0] 29 (0, 0)) ∧ V2.heap[w1.heap.size]? = some (.cells #[.int .i64 2, .int .i64 (er.1 : Nat), .int .i64 (er.2 : Nat)] 29 (0, 0)) ∧ Below w.heap.size w V2) := by
    rw [hV2]
    exact ⟨(g3.2 _ hl0 (by omega)).trans (unhide HC).1, g1, (unhide HB3).trans g2⟩
  clear hV2 g1 g2 g3 v0 v1 v2 vz u0 u1 u2 uz HC HB3 hl0 hl1
  obtain ⟨r0, r1, r2, rz⟩ := fault3 (unhide HVV).1
  obtain ⟨q0, q1, q2, qz⟩ := fault3 (unhide HVV).2.1
  have hl0 := lt_some (unhide HVV).1
  have S0 := hide (And.intro q0 (And.intro q1 q2))
  refine Lst.region_last (ops1 := ?ops1) (o := ?op1) (S := fun w' => w'.cell? ⟨w1.heap.size, 0, none⟩ = some (.int .i64 2) ∧ w'.cell? ⟨w1.heap.size, 1, none⟩ = some (.int .i64 (er.1 : Nat)) ∧ w'.cell? ⟨w1.heap.size, 2, none⟩ = some (.int .i64 (er.2 : Nat))) (by kernel_rfl) ?hp1 ?hb1 ?hk1 (by exact unhide S0) ?hn1
  case hp1 => (simp only [List.pop_toArray, List.dropLast_cons_cons, List.dropLast_singleton]; rfl)
  case hb1 => (simp only [List.back?_toArray, List.getLast?_cons_cons, List.getLast?_singleton]; rfl)
  case hk1 => kernel_rfl
  intro hHeld
  refine wpAnyH_take (i := 1) (v := ?v2) (by simp only [List.getElem?_toArray, List.getElem?_cons_succ, List.getElem?_cons_zero]; rfl) (by kernel_rfl) (by kernel_rfl) (by kernel_rfl) (by exact fun _ _ _ h => h) (Or.inl ⟨by rfl, ?hy2⟩) (by assumption) ?_
  case hy2 => (intro w hSw; (try dsimp only at hSw); go_simp; first | done | (with_reducible rfl))
  (try simp only [Act.put, List.setIfInBounds_toArray, List.set_cons_zero, List.set_cons_succ])
  refine wpAnyH_take (i := 0) (v := ?v3) (by simp only [List.getElem?_toArray, List.getElem?_cons_zero]; rfl) (by kernel_rfl) (by kernel_rfl) (by kernel_rfl) (by exact fun _ _ _ h => h) (Or.inl ⟨by rfl, ?hy3⟩) (by assumption) ?_
  case hy3 => (intro w hSw; (try dsimp only at hSw); go_simp; first | done | (with_reducible rfl))
  (try simp only [Act.put, List.setIfInBounds_toArray, List.set_cons_zero, List.set_cons_succ])
  refine wpAnyH_done (by kernel_rfl) ?_ _
  show Oper.wp _ _ _ _ _ _
  go_simp
  rename_i K2 hK2
  apply hK2
  refine gen_world ?_
  intro V3 hV3
  obtain ⟨f1, f2, f3⟩ := swr_facts (n0 := w.heap.size) (unhide HVV).1 (Nat.le_refl _) (.int .i64 2) (.int .i64 (er.1 : Nat)) (.int .i64 (er.2 : Nat))
  have HF : Hid (V3.heap[w.heap.size]? = some (.cells #[.int .i64 2, .int .i64 (er.1 : Nat), .int .i64 (er.2 : Nat)] 29 (0, 0)) ∧ Below w.heap.size w V3) := by
    rw [hV3]
    exact ⟨f1, ((unhide HVV).2.2.trans f2).drew⟩
  clear hV3 f1 f2 f3
  obtain ⟨m0, m1, m2, mz⟩ := fault3 (unhide HF).1
  go_wp2
  refine bodyPost_ret (v := .tuple #[.pointer none, .agg #[.int .i64 2, .int .i64 (er.1 : Nat), .int .i64 (er.2 : Nat)]]) (by simp [results, Tryz.results23, go_sem, m0, m1, m2]) rfl ?_
  exact ⟨rfl, (unhide HF).2⟩
end Af
end Go.Proofs.YtlajdmjpobckhaaGreatDoor
