/- The walk of TablesFirst, behind the law's wakes. -/
import Derived.Test.YtlajdmjpobckhaaGreatDoorEe4
namespace Go.Proofs.YtlajdmjpobckhaaGreatDoor
open Go.RowKit
namespace Af
open RowB
theorem Mx.up {w W : World} (h : Mx w.heap.size w) (b : Below w.heap.size w W) : Mx W.heap.size W := by
  obtain ⟨h1, h2⟩ := h.low b
  exact ⟨Nat.lt_of_lt_of_le h1 b.size, h2⟩
/-- how dic.Read goes behind it -/
def DicOk (w1 : World) (fb : Nat) (F : Fil) : Prop := ∀ W, Below w1.heap.size w1 W → ∀ s : ByteArray, Calls Tryz.prog 13 #[.pointer (some ⟨fb, 0, none⟩), .string s] W (DRes W (dicR F s.data.toList))
theorem DicOk.yes {w1 W : World} {fb : Nat} {F : Fil} (h : DicOk w1 fb F) (b : Below w1.heap.size w1 W) {s : ByteArray} {E : List Ent} (hx : dicR F s.data.toList = .ok E) : Calls Tryz.prog 13 #[.pointer (some ⟨fb, 0, none⟩), .string s] W fun e w' => ∃ wb, e = .returned (.tuple #[.pointer (some ⟨wb, 0, none⟩), .agg #[.int .i64 0, .int .i64 0, .int .i64 0]]) ∧ Below W.heap.size W w' := by
  refine (h W b s).mono ?_
  rintro e w' ⟨q1, q2⟩
  rw [hx] at q2
  obtain ⟨n0, wb, Q, -, q3, -⟩ := q2
  exact ⟨wb, q3, q1⟩
/-- how aff.Read of a good text goes -/
def AffOk (w : World) (a : ByteArray) (F : Fil) : Prop := Calls Tryz.prog 12 #[.string a] w fun e w1 => ∃ fb, e = .returned (.tuple #[.pointer (some ⟨fb, 0, none⟩), .agg #[.int .i64 0, .int .i64 0, .int .i64 0]]) ∧ Below w.heap.size w w1 ∧ DicOk w1 fb F
theorem affOk {w : World} {a : ByteArray} {F : Fil} (hM : Mx w.heap.size w) (h : affR a.data.toList = .ok F) : AffOk w a F := by
  refine (Read_any a w hM).mono ?_
  rintro e w1 ⟨b, q⟩
  rw [h] at q
  obtain ⟨B, P, hB, rfl, hF⟩ := q
  refine ⟨P.fb, rfl, b, fun W bW s => ?_⟩
  have hFB : B ≤ w1.heap.size := Nat.le_of_lt (Nat.lt_of_le_of_lt hF.fbB (lt_some hF.fil))
  have hMB : Mx B W := by
    obtain ⟨m1, m2⟩ := (hM.low b).low (bW.mono b.size)
    exact ⟨Nat.lt_of_lt_of_le m1 hB, m2⟩
  exact dic_of h (hF.below bW) hMB (Nat.le_trans hFB bW.size) s
/-- how tables.Read and dic.Read tell the same fault -/
theorem tread_f {w : World} (a s : ByteArray) (hM : Mx w.heap.size w) {F : Fil} (ha : affR a.data.toList = .ok F) : ∃ f l c : Int, f ≠ 1 ∧ (∀ W, Below w.heap.size w W → Calls Tryz.prog 23 #[.string a, .string s] W fun e w' => ∃ p, e = .returned (.tuple #[.pointer p, .agg #[.int .i64 f, .int .i64 l, .int .i64 c]]) ∧ Below W.heap.size W w') ∧ (∀ w1 fb, DicOk w1 fb F → ∀ W, Below w1.heap.size w1 W → Calls Tryz.prog 13 #[.pointer (some ⟨fb, 0, none⟩), .string s] W fun e w' => ∃ p, e = .returned (.tuple #[.pointer p, .agg #[.int .i64 f, .int .i64 l, .int .i64 c]]) ∧ Below W.heap.size W w') := by
  cases hx : dicR F s.data.toList with
  | error er =>
    refine ⟨2, (er.1 : Nat), (er.2 : Nat), by decide, fun W b => ?_, fun w1 fb h W b => ?_⟩
    · refine (tread_any a s (hM.up b)).mono ?_
      rintro e w' ⟨b2, q⟩
      have ht : tabR a.data.toList s.data.toList = .error (2, er) := by simp [tabR, ha, hx]
      rw [ht] at q
      exact ⟨_, q, b2⟩
    · refine (h W b s).mono ?_
      rintro e w' ⟨b2, q⟩
      rw [hx] at q
      exact ⟨_, q, b2⟩
  | ok E =>
    refine ⟨0, 0, 0, by decide, fun W b => ?_, fun w1 fb h W b => ?_⟩
    · refine (tread_any a s (hM.up b)).mono ?_
      rintro e w' ⟨b2, q⟩
      have ht : tabR a.data.toList s.data.toList = .ok (F, E) := by simp [tabR, ha, hx]
      rw [ht] at q
      obtain ⟨tb, B, P, n, wb, Q, vu, ve, nv, fv, rfl, -⟩ := q
      exact ⟨_, rfl, b2⟩
    · refine (h.yes b hx).mono ?_
      rintro e w' ⟨wb, rfl, b2⟩
      exact ⟨_, rfl, b2⟩
/-- what the law's wakes answers -/
def Wk13 (w : World) : Prop := ∀ W, Below w.heap.size w W → Calls Tryz.prog 22 #[] W fun e w' => e = .returned (.bool true) ∧ Below W.heap.size W w'
def TFirst (a s t : ByteArray) (w : World) : Prop := Calls Tryz.prog 8 #[.string a, .string s, .string t] w fun e w' => e = .returned (.bool true) ∧ Below w.heap.size w w'
theorem flt_go {w w3 w4 : World} {a b c : Value} (hB : Below w.heap.size w w3) (h : Below (w3.alloc (.cells #[a, b, c] 29)).heap.size (w3.alloc (.cells #[a, b, c] 29)) w4) : Below w.heap.size w w4 ∧ w4.heap[w3.heap.size]? = some (.cells #[a, b, c] 29 (0, 0)) ∧ Below w3.heap.size w3 w4 := by
  have h1 : Below w3.heap.size w3 (w3.alloc (.cells #[a, b, c] 29)) := (Below.refl _ _).alloc (Nat.le_refl _) _
  have hb := h.block w3.heap.size (by simp)
  rw [alloc_new] at hb
  have h2 := h1.trans (h.mono (by simp))
  exact ⟨btr hB h2, hb, h2⟩
set_option maxRecDepth 100000 in
set_option maxHeartbeats 4000000 in
theorem tfirst_ok (a s t : ByteArray) (w : World) (hM : Mx w.heap.size w) (hW : Wk13 w) {F : Fil} (ha : affR a.data.toList = .ok F) : TFirst a s t w := by
  have HWk := hide hW
  have HA := hide (fun W (b : Below w.heap.size w W) => affOk (hM.up b) ha)
  obtain ⟨f1, l1, c1, hf1, hT1, hD1⟩ := tread_f a s hM ha
  obtain ⟨f2, l2, c2, hf2, hT2, -⟩ := tread_f a t hM ha
  have HT1 := hide hT1
  have HT2 := hide hT2
  have HD1 := hide hD1
  have hq1 : (f1 != 1) = true := by simpa using hf1
  have hq2 : (f2 != 1) = true := by simpa using hf2
  clear hT1 hT2 hD1 hW hM ha
  unfold AffOk at HA
  unfold Wk13 at HWk
  go_enter Tryz.func8, Tryz.ntmps8
  go_wp2_with fail
  refine (unhide HWk w (Below.refl _ _)).mono ?_
  rintro e w1 ⟨rfl, b1⟩
  have B1 := hide b1
  clear b1
  go_wp2_with fail
  refine (unhide HA _ (unhide B1)).mono ?_
  rintro e w2 ⟨fb, rfl, b2, hD⟩
  have B2 := hide (btr (unhide B1) b2)
  have HD := hide hD
  clear b2 hD
  go_wp2_with fail
  refine (unhide HT1 _ ((unhide B2).alloc (unhide B2).size _)).mono ?_
  rintro e w3 ⟨p3, rfl, b3⟩
  obtain ⟨b3a, h8, b3b⟩ := flt_go (unhide B2) b3
  have B3 := hide b3a
  have B23 := hide b3b
  clear b3 b3a b3b h8
  go_wp2_with fail
  refine (unhide HT2 _ ((unhide B3).alloc (unhide B3).size _)).mono ?_
  rintro e w4 ⟨p4, rfl, b4⟩
  obtain ⟨b4a, h10, b4b⟩ := flt_go (unhide B3) b4
  have B4 := hide b4a
  have B24 := hide (btr (unhide B23) b4b)
  have H10 := hide h10
  clear b4 b4a b4b h10
  go_wp2_with fail
  refine (unhide HD1 _ _ (unhide HD) _ ((unhide B24).alloc (unhide B24).size _)).mono ?_
  rintro e w5 ⟨p5, rfl, b5⟩
  obtain ⟨b5a, h12, b5b⟩ := flt_go (unhide B4) b5
  have h10 := (b5b.block _ (lt_some (unhide H10))).trans (unhide H10)
  obtain ⟨x0, x1, x2, xz⟩ := fault3 h10
  obtain ⟨y0, y1, y2, yz⟩ := fault3 h12
  have lx := lt_some h10
  have ly := lt_some h12
  have B5 := hide b5a
  clear b5 b5a b5b h10 h12 H10 HD HD1 HT1 HT2 B23 B24 HA HWk
  go_wp2
  go_ret
  exact ⟨rfl, (unhide B5).alloc (unhide B5).size _⟩
theorem aff_no {w : World} (a : ByteArray) (hM : Mx w.heap.size w) {er : Er} (ha : affR a.data.toList = .error er) : Calls Tryz.prog 12 #[.string a] w fun e w' => e = .returned (.tuple #[.pointer none, .agg #[.int .i64 1, .int .i64 (er.1 : Nat), .int .i64 (er.2 : Nat)]]) ∧ Below w.heap.size w w' := by
  refine (Read_any a w hM).mono ?_
  rintro e w' ⟨b, q⟩
  rw [ha] at q
  exact ⟨q, b⟩
set_option maxRecDepth 100000 in
set_option maxHeartbeats 4000000 in
theorem tfirst_no (a s t : ByteArray) (w : World) (hM : Mx w.heap.size w) (hW : Wk13 w) {er : Er} (ha : affR a.data.toList = .error er) : TFirst a s t w := by
  have HWk := hide hW
  have HA := hide (fun W (b : Below w.heap.size w W) => aff_no a (hM.up b) ha)
  have HT1 := hide (fun W (b : Below w.heap.size w W) => tread_aff a s (hM.up b) ha)
  have HT2 := hide (fun W (b : Below w.heap.size w W) => tread_aff a t (hM.up b) ha)
  clear hW hM ha
  unfold Wk13 at HWk
  go_enter Tryz.func8, Tryz.ntmps8
  go_wp2_with fail
  refine (unhide HWk w (Below.refl _ _)).mono ?_
  rintro e w1 ⟨rfl, b1⟩
  have B1 := hide b1
  clear b1
  go_wp2_with fail
  refine (unhide HA _ (unhide B1)).mono ?_
  rintro e w2 ⟨rfl, b2⟩
  have B2 := hide (btr (unhide B1) b2)
  clear b2
  go_wp2_with fail
  refine (unhide HT1 _ ((unhide B2).alloc (unhide B2).size _)).mono ?_
  rintro e w3 ⟨rfl, b3⟩
  obtain ⟨b3a, h8, b3b⟩ := flt_go (unhide B2) b3
  have B3 := hide b3a
  have H8 := hide h8
  clear b3 b3a b3b h8
  go_wp2_with fail
  refine (unhide HT2 _ ((unhide B3).alloc (unhide B3).size _)).mono ?_
  rintro e w4 ⟨rfl, b4⟩
  obtain ⟨b4a, h10, b4b⟩ := flt_go (unhide B3) b4
  have h8 := (b4b.block _ (lt_some (unhide H8))).trans (unhide H8)
  have B4 := hide b4a
  obtain ⟨x0, x1, x2, xz⟩ := fault3 h10
  obtain ⟨y0, y1, y2, yz⟩ := fault3 h8
  have lx := lt_some h10
  have ly := lt_some h8
  clear b4 b4a b4b h10 h8 H8 HT1 HT2 HA HWk
  go_wp2
  go_ret
  exact ⟨rfl, (unhide B4).alloc (unhide B4).size _⟩
theorem tfirst_of (a s t : ByteArray) (w : World) (hM : Mx w.heap.size w) (hW : Wk13 w) : TFirst a s t w := by
  cases ha : affR a.data.toList with
  | error er => exact tfirst_no a s t w hM hW ha
  | ok F => exact tfirst_ok a s t w hM hW ha
end Af
end Go.Proofs.YtlajdmjpobckhaaGreatDoor
