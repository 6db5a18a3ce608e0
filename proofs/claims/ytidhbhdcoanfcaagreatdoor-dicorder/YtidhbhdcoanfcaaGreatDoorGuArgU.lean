import Derived.Test.YtidhbhdcoanfcaaGreatDoorRows
import Derived.Lib.SmallJoins
namespace Go.Proofs.YtidhbhdcoanfcaaGreatDoor
open Go.RowKit Go.WideShapes Go.ChangeShapes
namespace ArgU
theorem laidOut : laidOutB Tryz.prog = true := by kernel_rfl
section
variable {H : Type} {enc : TypeId × Value → H} {P : Program} {w : World} {base : Nat} {spare : Nat → Bool} {held : Bool}
theorem array4 {α : Type} {cs : Array α} (h : cs.size = 4) : ∃ c0 c1 c2 c3, cs = #[c0, c1, c2, c3] := by
 obtain ⟨l⟩ := cs
 match l, h with
 | [c0, c1, c2, c3], _ => exact ⟨c0, c1, c2, c3, rfl⟩
theorem open_agg4 {r : Reach} {b0 : Nat} {t : TypeId} {f0 f1 f2 f3 : Field} {v : Value} {d : DataW H} {p : List MemPlace} (hs : P.underlying t = some (.struct #[f0, f1, f2, f3])) (hone : Go.Deep.oneCellFields P #[f0, f1, f2, f3] = true) (hC : P.cellsOf t = 4)
  (hv : Value.okWide P w r b0 t v) (h : DataW.Trod enc P w base spare held t v d p) :
  ∃ (v0 v1 v2 v3 : Value) (y0 y1 y2 y3 : DataW H × List MemPlace) (n : Nat), v = .agg #[v0, v1, v2, v3] ∧ d = .agg [y0.1, y1.1, y2.1, y3.1] ∧ DataW.trod enc P w base spare held n f0.type [v0] = some y0 ∧ DataW.trod enc P w base spare held n f1.type [v1] = some y1 ∧ DataW.trod enc P w base spare held n f2.type [v2] = some y2 ∧ DataW.trod enc P w base spare held n f3.type [v3] = some y3 := by
 obtain ⟨cs, rfl, hsz⟩ := okWide_struct hs hv
 obtain ⟨c0, c1, c2, c3, rfl⟩ := array4 (hsz.trans hC)
 obtain ⟨fuel, hf⟩ := h
 obtain ⟨xs, n, _, hx, _, hlen, hg⟩ := DataW.trod_struct hs hf
 obtain ⟨o0, k0⟩ := Go.Deep.hone_of hone 0 f0 rfl
 obtain ⟨o1, k1⟩ := Go.Deep.hone_of hone 1 f1 rfl
 obtain ⟨o2, k2⟩ := Go.Deep.hone_of hone 2 f2 rfl
 obtain ⟨o3, k3⟩ := Go.Deep.hone_of hone 3 f3 rfl
 match xs, hlen with
 | [y0, y1, y2, y3], _ =>
  simp only [Prod.mk.injEq] at hx
  exact ⟨c0, c1, c2, c3, y0, y1, y2, y3, n, rfl, hx.1, by simpa [Value.cells, o0, k0] using hg 0 f0 rfl, by simpa [Value.cells, o1, k1] using hg 1 f1 rfl, by simpa [Value.cells, o2, k2] using hg 2 f2 rfl, by simpa [Value.cells, o3, k3] using hg 3 f3 rfl⟩
end
section
variable {H : Type} {enc : TypeId × Value → H} {w : World}
set_option maxRecDepth 100000 in
theorem open_turn {r : Reach} {b0 : Nat} {v : Value} {d : DataW H} {p : List MemPlace} (hv : Value.okWide Tryz.prog w r b0 59 v) (h : DataW.Trod enc Tryz.prog w 0 (fun _ => true) true 59 v d p) :
  ∃ (a s : ByteArray) (i j : Int), v = .agg #[.string a, .string s, .int .i64 i, .int .i64 j] := by
 obtain ⟨v0, v1, v2, v3, y0, y1, y2, y3, n, rfl, -, h0, h1, h2, h3⟩ := open_agg4 Tryz.underlying59 (by kernel_rfl) (by kernel_rfl) hv h
 obtain ⟨a, ha, -, -⟩ := DataW.trod_string Tryz.underlying9 h0
 obtain ⟨s, hs, -, -⟩ := DataW.trod_string Tryz.underlying9 h1
 obtain ⟨i, hi, -, -⟩ := DataW.trod_int Tryz.underlying3 h2
 obtain ⟨j, hj, -, -⟩ := DataW.trod_int Tryz.underlying3 h3
 simp only [List.cons.injEq, and_true] at ha hs hi hj
 subst ha
 subst hs
 subst hi
 subst hj
 exact ⟨a, s, i, j, rfl⟩
end
end ArgU
end Go.Proofs.YtidhbhdcoanfcaaGreatDoor
