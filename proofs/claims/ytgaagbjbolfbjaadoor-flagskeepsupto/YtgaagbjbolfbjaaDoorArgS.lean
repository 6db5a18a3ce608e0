/- What it is that a list of texts lies somewhere in memory; no walk. -/
import Derived.Test.YtgaagbjbolfbjaaDoorSoA
namespace Go.Proofs.YtgaagbjbolfbjaaDoor
open Go.RowKit
namespace ArgS
def StrsAt (W : World) (v : Value) (L : List ByteArray) : Prop :=
  ∃ ao cap, v = .slice ao L.length cap ∧ L.length ≤ cap ∧ (0 < L.length → ∃ g off, ao = some ⟨g, off, none⟩ ∧ g < W.heap.size ∧ ∀ (j : Nat) x, L[j]? = some x → W.cell? ⟨g, off + j, none⟩ = some (.string x))
theorem StrsAt.form {W : World} {v : Value} {L : List ByteArray} (h : StrsAt W v L) : ∃ ao cap, v = .slice ao L.length cap ∧ L.length ≤ cap ∧ ∀ (j : Nat) x, L[j]? = some x → ∃ g off, ao = some ⟨g, off, none⟩ ∧ g < W.heap.size ∧ W.cell? ⟨g, off + j, none⟩ = some (.string x) := by
  obtain ⟨ao, cap, e, h1, h2⟩ := h
  refine ⟨ao, cap, e, h1, fun j x hx => ?_⟩
  have hj : j < L.length := (List.getElem?_eq_some_iff.1 hx).1
  obtain ⟨g, off, e2, hg, hc⟩ := h2 (by omega)
  exact ⟨g, off, e2, hg, hc j x hx⟩
end ArgS
end Go.Proofs.YtgaagbjbolfbjaaDoor
