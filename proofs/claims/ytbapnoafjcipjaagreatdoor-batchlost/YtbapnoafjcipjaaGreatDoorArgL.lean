/- Layer 6: what it is that a Loss came in. No walk. -/
import Derived.Test.YtbapnoafjcipjaaGreatDoorArgT
import Derived.Lib.SmallJoins
namespace Go.Proofs.YtbapnoafjcipjaaGreatDoor
open Go.RowKit Go.WideShapes Go.ChangeShapes
namespace ArgB
section
variable {H : Type} {enc : TypeId × Value → H} {w : World}
set_option maxRecDepth 100000 in
theorem int_of {v : Value} {n : Nat} {x : DataW H × List MemPlace} (h : DataW.trod enc Tryz.prog w 0 (fun _ => true) true n 3 [v] = some x) : ∃ k : Int, v = .int .i64 k ∧ -9223372036854775808 ≤ k ∧ k ≤ 9223372036854775807 := by
  obtain ⟨k, hk, _, hw⟩ := DataW.trod_int Tryz.underlying3 h
  exact ⟨k, by simpa using hk, bounds_i64 hw⟩
set_option maxRecDepth 100000 in
theorem open_loss {r : Reach} {b0 : Nat} {v : Value} {d : DataW H} {p : List MemPlace} (hv : Value.okWide Tryz.prog w r b0 39 v) (h : DataW.Trod enc Tryz.prog w 0 (fun _ => true) true 39 v d p) :
    ∃ (u : Value) (L : List ByteArray) (bl n c : Int), v = .agg #[u, .int .i64 bl, .int .i64 n, .int .i64 c] ∧ ArgOf Value.string w u L ∧ (-9223372036854775808 ≤ bl ∧ bl ≤ 9223372036854775807) ∧ (-9223372036854775808 ≤ n ∧ n ≤ 9223372036854775807) ∧ (-9223372036854775808 ≤ c ∧ c ≤ 9223372036854775807) := by
  obtain ⟨v0, v1, v2, v3, y0, y1, y2, y3, k, rfl, _, _, h0, h1, h2, h3⟩ := Go.Joins.open_agg4 Tryz.underlying39 (by kernel_rfl) (by kernel_rfl) hv h
  obtain ⟨i1, rfl, a1⟩ := int_of h1
  obtain ⟨i2, rfl, a2⟩ := int_of h2
  obtain ⟨i3, rfl, a3⟩ := int_of h3
  have key : ∃ a len cap, v0 = .slice a len cap := by
    rcases Go.Deep.open_slice1 Tryz.underlying33 (by kernel_rfl) h0 with ⟨hcs, _⟩ | ⟨x, len', cap', m, n, V, D, Pl, hcs, _⟩
    · exact ⟨_, _, _, by simpa using hcs⟩
    · exact ⟨_, _, _, by simpa using hcs⟩
  obtain ⟨a, len, cap, rfl⟩ := key
  obtain ⟨L, S, hL, _⟩ := open_arg Value.string datS Tryz.underlying33 (by kernel_rfl) (el_string Tryz.underlying9) (d := y0.1) (p := y0.2) (⟨k, by simpa [Value.cells] using h0⟩)
  exact ⟨_, L, i1, i2, i3, rfl, hL, a1, a2, a3⟩
end
end ArgB
end Go.Proofs.YtbapnoafjcipjaaGreatDoor
