/- Layer 10: what it is that a Loss came in, and how much it holds. No walk. -/
import Derived.Test.YtohfhkdhccpoaaaGreatDoorArgM10
namespace Go.Proofs.YtohfhkdhccpoaaaGreatDoor
open Go.RowKit Go.WideShapes Go.ChangeShapes
namespace ArgB
section
variable {H : Type} {enc : TypeId × Value → H} {P : Program} {w : World} {base : Nat} {spare : Nat → Bool} {held : Bool}
theorem open_agg5d {r : Reach} {b0 : Nat} {t : TypeId} {f0 f1 f2 f3 f4 : Field} {v : Value} {d : DataW H} {p : List MemPlace} (hs : P.underlying t = some (.struct #[f0, f1, f2, f3, f4])) (hone : Go.Deep.oneCellFields P #[f0, f1, f2, f3, f4] = true) (hC : P.cellsOf t = 5)
    (hv : Value.okWide P w r b0 t v) (h : DataW.Trod enc P w base spare held t v d p) :
    ∃ (v0 v1 v2 v3 v4 : Value) (y0 y1 y2 y3 y4 : DataW H × List MemPlace) (n : Nat), v = .agg #[v0, v1, v2, v3, v4] ∧ d = .agg [y0.1, y1.1, y2.1, y3.1, y4.1] ∧ DataW.trod enc P w base spare held n f0.type [v0] = some y0 ∧ DataW.trod enc P w base spare held n f1.type [v1] = some y1 ∧ DataW.trod enc P w base spare held n f2.type [v2] = some y2 ∧ DataW.trod enc P w base spare held n f3.type [v3] = some y3 ∧ DataW.trod enc P w base spare held n f4.type [v4] = some y4 := by
  obtain ⟨cs, rfl, hsz⟩ := okWide_struct hs hv
  obtain ⟨c0, c1, c2, c3, c4, rfl⟩ := array5 (hsz.trans hC)
  obtain ⟨fuel, hf⟩ := h
  obtain ⟨xs, n, _, hx, _, hlen, hg⟩ := DataW.trod_struct hs hf
  obtain ⟨o0, k0⟩ := Go.Deep.hone_of hone 0 f0 rfl
  obtain ⟨o1, k1⟩ := Go.Deep.hone_of hone 1 f1 rfl
  obtain ⟨o2, k2⟩ := Go.Deep.hone_of hone 2 f2 rfl
  obtain ⟨o3, k3⟩ := Go.Deep.hone_of hone 3 f3 rfl
  obtain ⟨o4, k4⟩ := Go.Deep.hone_of hone 4 f4 rfl
  match xs, hlen with
  | [y0, y1, y2, y3, y4], _ =>
    simp only [Prod.mk.injEq] at hx
    exact ⟨c0, c1, c2, c3, c4, y0, y1, y2, y3, y4, n, rfl, by simpa using hx.1, by simpa [Value.cells, o0, k0] using hg 0 f0 rfl, by simpa [Value.cells, o1, k1] using hg 1 f1 rfl, by simpa [Value.cells, o2, k2] using hg 2 f2 rfl, by simpa [Value.cells, o3, k3] using hg 3 f3 rfl, by simpa [Value.cells, o4, k4] using hg 4 f4 rfl⟩
end
section
variable {H : Type} {enc : TypeId × Value → H} {w : World}
set_option maxRecDepth 100000 in
theorem open_lossu {r : Reach} {b0 : Nat} {v : Value} {d : DataW H} {p : List MemPlace} (hv : Value.okWide Tryz.prog w r b0 54 v) (h : DataW.Trod enc Tryz.prog w 0 (fun _ => true) true 54 v d p) :
    ∃ (u : Value) (L : List ByteArray) (i1 i2 i3 i4 : Int), v = .agg #[u, .int .i64 i1, .int .i64 i2, .int .i64 i3, .int .i64 i4] ∧ ArgOf Value.string w u L ∧ L.length ≤ Rows.uptoBulk d ∧ (-9223372036854775808 ≤ i1 ∧ i1 ≤ 9223372036854775807) ∧ (-9223372036854775808 ≤ i2 ∧ i2 ≤ 9223372036854775807) ∧ (-9223372036854775808 ≤ i3 ∧ i3 ≤ 9223372036854775807) ∧ (-9223372036854775808 ≤ i4 ∧ i4 ≤ 9223372036854775807) := by
  obtain ⟨v0, v1, v2, v3, v4, y0, y1, y2, y3, y4, k, rfl, hd, h0, h1, h2, h3, h4⟩ := open_agg5d Tryz.underlying54 (by kernel_rfl) (by kernel_rfl) hv h
  obtain ⟨i1, rfl, a1⟩ := int_of h1
  obtain ⟨i2, rfl, a2⟩ := int_of h2
  obtain ⟨i3, rfl, a3⟩ := int_of h3
  obtain ⟨i4, rfl, a4⟩ := int_of h4
  obtain ⟨a, len, cap, rfl⟩ := sl_of Tryz.underlying29 (by kernel_rfl) h0
  obtain ⟨L, S, hL, hdd⟩ := open_arg Value.string datS Tryz.underlying29 (by kernel_rfl) (el_string Tryz.underlying9) (d := y0.1) (p := y0.2) (⟨k, by simpa [Value.cells] using h0⟩)
  have hb := bulk_arg hdd
  refine ⟨_, L, i1, i2, i3, i4, rfl, hL, ?_, a1, a2, a3, a4⟩
  rw [hd]
  simp only [Rows.uptoBulk, Rows.uptoBulkAll]
  omega
end
end ArgB
end Go.Proofs.YtohfhkdhccpoaaaGreatDoor
