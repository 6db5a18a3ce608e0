/- Contracts: the document's Fits of any rule, against the plain meaning (Ta). -/
import Derived.Test.YtjcchogilbekoabTb3
namespace Go.Proofs.Ytjcchogilbekoab
open Go.RowKit
namespace Pt
open Cd

theorem box8 {w w1 : World} {v0 v1 v2 v3 v4 v5 v6 v7 : Value} {T : TypeId} (hb : Below (w.alloc (.cells #[v0, v1, v2, v3, v4, v5, v6, v7] T)).heap.size (w.alloc (.cells #[v0, v1, v2, v3, v4, v5, v6, v7] T)) w1) :
    w1.cell? ⟨w.heap.size, 0, none⟩ = some v0 ∧ w1.cell? ⟨w.heap.size, 1, none⟩ = some v1 ∧ w1.cell? ⟨w.heap.size, 2, none⟩ = some v2 ∧ w1.cell? ⟨w.heap.size, 3, none⟩ = some v3 ∧ w1.cell? ⟨w.heap.size, 4, none⟩ = some v4 ∧ w1.cell? ⟨w.heap.size, 5, none⟩ = some v5 ∧ w1.cell? ⟨w.heap.size, 6, none⟩ = some v6 ∧ w1.cell? ⟨w.heap.size, 7, none⟩ = some v7 := by
  have h : ∀ j u, (#[v0, v1, v2, v3, v4, v5, v6, v7] : Array Value).toList[j]? = some u → w1.cell? ⟨w.heap.size, j, none⟩ = some u := fun j u hu => by
    have := new_cells w _ T j u hu
    rw [Go.WideShapes.add_plain, Nat.zero_add] at this
    exact (hb.cell (p := ⟨w.heap.size, j, none⟩) (by simp)).trans this
  exact ⟨h 0 _ rfl, h 1 _ rfl, h 2 _ rfl, h 3 _ rfl, h 4 _ rfl, h 5 _ rfl, h 6 _ rfl, h 7 _ rfl⟩

end Pt
end Go.Proofs.Ytjcchogilbekoab
