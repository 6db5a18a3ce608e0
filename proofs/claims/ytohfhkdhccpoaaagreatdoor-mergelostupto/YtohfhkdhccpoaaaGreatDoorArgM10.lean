/- Layer 10: what it is that a Loss or a Two came in. No walk. -/
import Derived.Test.YtohfhkdhccpoaaaGreatDoorArgT
import Derived.Lib.SmallJoins
namespace Go.Proofs.YtohfhkdhccpoaaaGreatDoor
open Go.RowKit Go.WideShapes Go.ChangeShapes
namespace ArgB
section
variable {H : Type} {enc : TypeId × Value → H} {P : Program} {w : World} {base : Nat} {spare : Nat → Bool} {held : Bool}
theorem array5 {α : Type} {cs : Array α} (h : cs.size = 5) : ∃ c0 c1 c2 c3 c4, cs = #[c0, c1, c2, c3, c4] := by
  obtain ⟨l⟩ := cs
  match l, h with
  | [c0, c1, c2, c3, c4], _ => exact ⟨c0, c1, c2, c3, c4, rfl⟩
theorem open_agg5 {r : Reach} {b0 : Nat} {t : TypeId} {f0 f1 f2 f3 f4 : Field} {v : Value} {d : DataW H} {p : List MemPlace} (hs : P.underlying t = some (.struct #[f0, f1, f2, f3, f4])) (hone : Go.Deep.oneCellFields P #[f0, f1, f2, f3, f4] = true) (hC : P.cellsOf t = 5)
    (hv : Value.okWide P w r b0 t v) (h : DataW.Trod enc P w base spare held t v d p) :
    ∃ (v0 v1 v2 v3 v4 : Value) (y0 y1 y2 y3 y4 : DataW H × List MemPlace) (n : Nat), v = .agg #[v0, v1, v2, v3, v4] ∧ DataW.trod enc P w base spare held n f0.type [v0] = some y0 ∧ DataW.trod enc P w base spare held n f1.type [v1] = some y1 ∧ DataW.trod enc P w base spare held n f2.type [v2] = some y2 ∧ DataW.trod enc P w base spare held n f3.type [v3] = some y3 ∧ DataW.trod enc P w base spare held n f4.type [v4] = some y4 := by
  obtain ⟨cs, rfl, hsz⟩ := okWide_struct hs hv
  obtain ⟨c0, c1, c2, c3, c4, rfl⟩ := array5 (hsz.trans hC)
  obtain ⟨fuel, hf⟩ := h
  obtain ⟨xs, n, _, _, _, hlen, hg⟩ := DataW.trod_struct hs hf
  obtain ⟨o0, k0⟩ := Go.Deep.hone_of hone 0 f0 rfl
  obtain ⟨o1, k1⟩ := Go.Deep.hone_of hone 1 f1 rfl
  obtain ⟨o2, k2⟩ := Go.Deep.hone_of hone 2 f2 rfl
  obtain ⟨o3, k3⟩ := Go.Deep.hone_of hone 3 f3 rfl
  obtain ⟨o4, k4⟩ := Go.Deep.hone_of hone 4 f4 rfl
  match xs, hlen with
  | [y0, y1, y2, y3, y4], _ =>
    exact ⟨c0, c1, c2, c3, c4, y0, y1, y2, y3, y4, n, rfl, by simpa [Value.cells, o0, k0] using hg 0 f0 rfl, by simpa [Value.cells, o1, k1] using hg 1 f1 rfl, by simpa [Value.cells, o2, k2] using hg 2 f2 rfl, by simpa [Value.cells, o3, k3] using hg 3 f3 rfl, by simpa [Value.cells, o4, k4] using hg 4 f4 rfl⟩
theorem array7 {α : Type} {cs : Array α} (h : cs.size = 7) : ∃ c0 c1 c2 c3 c4 c5 c6, cs = #[c0, c1, c2, c3, c4, c5, c6] := by
  obtain ⟨l⟩ := cs
  match l, h with
  | [c0, c1, c2, c3, c4, c5, c6], _ => exact ⟨c0, c1, c2, c3, c4, c5, c6, rfl⟩
theorem open_agg7 {r : Reach} {b0 : Nat} {t : TypeId} {f0 f1 f2 f3 f4 f5 f6 : Field} {v : Value} {d : DataW H} {p : List MemPlace} (hs : P.underlying t = some (.struct #[f0, f1, f2, f3, f4, f5, f6])) (hone : Go.Deep.oneCellFields P #[f0, f1, f2, f3, f4, f5, f6] = true) (hC : P.cellsOf t = 7)
    (hv : Value.okWide P w r b0 t v) (h : DataW.Trod enc P w base spare held t v d p) :
    ∃ (v0 v1 v2 v3 v4 v5 v6 : Value) (y0 y1 y2 y3 y4 y5 y6 : DataW H × List MemPlace) (n : Nat), v = .agg #[v0, v1, v2, v3, v4, v5, v6] ∧ DataW.trod enc P w base spare held n f0.type [v0] = some y0 ∧ DataW.trod enc P w base spare held n f1.type [v1] = some y1 ∧ DataW.trod enc P w base spare held n f2.type [v2] = some y2 ∧ DataW.trod enc P w base spare held n f3.type [v3] = some y3 ∧ DataW.trod enc P w base spare held n f4.type [v4] = some y4 ∧ DataW.trod enc P w base spare held n f5.type [v5] = some y5 ∧ DataW.trod enc P w base spare held n f6.type [v6] = some y6 := by
  obtain ⟨cs, rfl, hsz⟩ := okWide_struct hs hv
  obtain ⟨c0, c1, c2, c3, c4, c5, c6, rfl⟩ := array7 (hsz.trans hC)
  obtain ⟨fuel, hf⟩ := h
  obtain ⟨xs, n, _, _, _, hlen, hg⟩ := DataW.trod_struct hs hf
  obtain ⟨o0, k0⟩ := Go.Deep.hone_of hone 0 f0 rfl
  obtain ⟨o1, k1⟩ := Go.Deep.hone_of hone 1 f1 rfl
  obtain ⟨o2, k2⟩ := Go.Deep.hone_of hone 2 f2 rfl
  obtain ⟨o3, k3⟩ := Go.Deep.hone_of hone 3 f3 rfl
  obtain ⟨o4, k4⟩ := Go.Deep.hone_of hone 4 f4 rfl
  obtain ⟨o5, k5⟩ := Go.Deep.hone_of hone 5 f5 rfl
  obtain ⟨o6, k6⟩ := Go.Deep.hone_of hone 6 f6 rfl
  match xs, hlen with
  | [y0, y1, y2, y3, y4, y5, y6], _ =>
    exact ⟨c0, c1, c2, c3, c4, c5, c6, y0, y1, y2, y3, y4, y5, y6, n, rfl, by simpa [Value.cells, o0, k0] using hg 0 f0 rfl, by simpa [Value.cells, o1, k1] using hg 1 f1 rfl, by simpa [Value.cells, o2, k2] using hg 2 f2 rfl, by simpa [Value.cells, o3, k3] using hg 3 f3 rfl, by simpa [Value.cells, o4, k4] using hg 4 f4 rfl, by simpa [Value.cells, o5, k5] using hg 5 f5 rfl, by simpa [Value.cells, o6, k6] using hg 6 f6 rfl⟩
end
section
variable {H : Type} {enc : TypeId × Value → H} {w : World}
set_option maxRecDepth 100000 in
theorem int_of {v : Value} {n : Nat} {x : DataW H × List MemPlace} (h : DataW.trod enc Tryz.prog w 0 (fun _ => true) true n 3 [v] = some x) : ∃ k : Int, v = .int .i64 k ∧ -9223372036854775808 ≤ k ∧ k ≤ 9223372036854775807 := by
  obtain ⟨k, hk, _, hw⟩ := DataW.trod_int Tryz.underlying3 h
  exact ⟨k, by simpa using hk, bounds_i64 hw⟩
/-- a number that came in -/
abbrev Num : Type := { k : Int // -9223372036854775808 ≤ k ∧ k ≤ 9223372036854775807 }
theorem el_num (n : Nat) (u : Value) (d : DataW H) (p : List MemPlace) (h : DataW.trod enc Tryz.prog w 0 (fun _ => true) true n 3 [u] = some (d, p)) : ∃ x : Num, u = .int .i64 x.1 ∧ d = .lit (.int .i64 x.1) := by
  obtain ⟨k, hk, hd, hw⟩ := DataW.trod_int Tryz.underlying3 h
  simp at hk hd
  exact ⟨⟨k, bounds_i64 hw⟩, hk, hd.1⟩
theorem sl_of {t e : TypeId} (ht : Tryz.prog.underlying t = some (.slice e)) (hc : Tryz.prog.cellsOf e = 1) {v : Value} {n : Nat} {x : DataW H × List MemPlace} (h : DataW.trod enc Tryz.prog w 0 (fun _ => true) true n t [v] = some x) : ∃ a len cap, v = .slice a len cap := by
  rcases Go.Deep.open_slice1 ht hc h with ⟨hcs, _⟩ | ⟨x, len', cap', m, n, V, D, Pl, hcs, _⟩
  · exact ⟨_, _, _, by simpa using hcs⟩
  · exact ⟨_, _, _, by simpa using hcs⟩
set_option maxRecDepth 100000 in
theorem open_two {r : Reach} {b0 : Nat} {v : Value} {d : DataW H} {p : List MemPlace} (hv : Value.okWide Tryz.prog w r b0 51 v) (h : DataW.Trod enc Tryz.prog w 0 (fun _ => true) true 51 v d p) :
    ∃ (u : Value) (L : List ByteArray) (o : Value) (K : List Num) (i2 i3 i4 i5 i6 : Int), v = .agg #[u, o, .int .i64 i2, .int .i64 i3, .int .i64 i4, .int .i64 i5, .int .i64 i6] ∧ ArgOf Value.string w u L ∧ ArgOf (fun k : Num => Value.int .i64 k.1) w o K ∧ (-9223372036854775808 ≤ i2 ∧ i2 ≤ 9223372036854775807) ∧ (-9223372036854775808 ≤ i3 ∧ i3 ≤ 9223372036854775807) ∧ (-9223372036854775808 ≤ i4 ∧ i4 ≤ 9223372036854775807) ∧ (-9223372036854775808 ≤ i5 ∧ i5 ≤ 9223372036854775807) ∧ (-9223372036854775808 ≤ i6 ∧ i6 ≤ 9223372036854775807) := by
  obtain ⟨v0, v1, v2, v3, v4, v5, v6, y0, y1, y2, y3, y4, y5, y6, k, rfl, h0, h1, h2, h3, h4, h5, h6⟩ := open_agg7 Tryz.underlying51 (by kernel_rfl) (by kernel_rfl) hv h
  obtain ⟨i2, rfl, a2⟩ := int_of h2
  obtain ⟨i3, rfl, a3⟩ := int_of h3
  obtain ⟨i4, rfl, a4⟩ := int_of h4
  obtain ⟨i5, rfl, a5⟩ := int_of h5
  obtain ⟨i6, rfl, a6⟩ := int_of h6
  obtain ⟨a, len, cap, rfl⟩ := sl_of Tryz.underlying29 (by kernel_rfl) h0
  obtain ⟨b, len2, cap2, rfl⟩ := sl_of Tryz.underlying28 (by kernel_rfl) h1
  obtain ⟨L, S, hL, _⟩ := open_arg Value.string datS Tryz.underlying29 (by kernel_rfl) (el_string Tryz.underlying9) (d := y0.1) (p := y0.2) (⟨k, by simpa [Value.cells] using h0⟩)
  obtain ⟨K, S2, hK, _⟩ := open_arg (fun k : Num => Value.int .i64 k.1) (fun k : Num => DataW.lit (.int .i64 k.1)) Tryz.underlying28 (by kernel_rfl) el_num (d := y1.1) (p := y1.2) (⟨k, by simpa [Value.cells] using h1⟩)
  exact ⟨_, L, _, K, i2, i3, i4, i5, i6, rfl, hL, hK, a2, a3, a4, a5, a6⟩
set_option maxRecDepth 100000 in
theorem open_loss10 {r : Reach} {b0 : Nat} {v : Value} {d : DataW H} {p : List MemPlace} (hv : Value.okWide Tryz.prog w r b0 54 v) (h : DataW.Trod enc Tryz.prog w 0 (fun _ => true) true 54 v d p) :
    ∃ (u : Value) (L : List ByteArray) (i1 i2 i3 i4 : Int), v = .agg #[u, .int .i64 i1, .int .i64 i2, .int .i64 i3, .int .i64 i4] ∧ ArgOf Value.string w u L ∧ (-9223372036854775808 ≤ i1 ∧ i1 ≤ 9223372036854775807) ∧ (-9223372036854775808 ≤ i2 ∧ i2 ≤ 9223372036854775807) ∧ (-9223372036854775808 ≤ i3 ∧ i3 ≤ 9223372036854775807) ∧ (-9223372036854775808 ≤ i4 ∧ i4 ≤ 9223372036854775807) := by
  obtain ⟨v0, v1, v2, v3, v4, y0, y1, y2, y3, y4, k, rfl, h0, h1, h2, h3, h4⟩ := open_agg5 Tryz.underlying54 (by kernel_rfl) (by kernel_rfl) hv h
  obtain ⟨i1, rfl, a1⟩ := int_of h1
  obtain ⟨i2, rfl, a2⟩ := int_of h2
  obtain ⟨i3, rfl, a3⟩ := int_of h3
  obtain ⟨i4, rfl, a4⟩ := int_of h4
  obtain ⟨a, len, cap, rfl⟩ := sl_of Tryz.underlying29 (by kernel_rfl) h0
  obtain ⟨L, S, hL, _⟩ := open_arg Value.string datS Tryz.underlying29 (by kernel_rfl) (el_string Tryz.underlying9) (d := y0.1) (p := y0.2) (⟨k, by simpa [Value.cells] using h0⟩)
  exact ⟨_, L, i1, i2, i3, i4, rfl, hL, a1, a2, a3, a4⟩
end
end ArgB
end Go.Proofs.YtohfhkdhccpoaaaGreatDoor
