/- Layer 10: the law MergeAgain. -/
import Derived.Laws.Cover1
import Derived.Test.YtohfhkdhccpoaaaGreatDoorMo
import Derived.Test.YtohfhkdhccpoaaaGreatDoorMq0
import Derived.Test.YtohfhkdhccpoaaaGreatDoorMr0
namespace Go.Proofs.YtohfhkdhccpoaaaGreatDoor
open Go.RowKit Go.Shelf
namespace Rs
open Sm (Tx ofS)
/-- three numbers in an array of their own -/
def arrT (lb : Nat) (x y z : Int) : Thing :=
  ⟨fun w F => F lb ∧ (∀ b, F b → b < w.heap.size) ∧ w.heap[lb]? = some (.cells #[.int .i64 x, .int .i64 y, .int .i64 z] 62 (0, 0)), fun h => h.2.1, fun h a b c => ⟨b _ h.1, c, (a _ h.1).trans h.2.2⟩⟩
section
variable {w wr : World} {L : List Thing} {D : Nat → Nat} {i lb : Nat} {x y z : Int}
theorem sep_arr_new (h : Sep w L D wr) : Sep w (L ++ [arrT wr.heap.size 0 0 0]) (fun _ => wr.heap.size + 1) (wr.alloc (.cells #[.int .i64 0, .int .i64 0, .int .i64 0] 62)) := by
  have q := h.add (T := arrT wr.heap.size 0 0 0) (w' := wr.alloc (.cells #[.int .i64 0, .int .i64 0, .int .i64 0] 62)) (G := fun b => b = wr.heap.size) ⟨rfl, fun b e => by rw [e]; simp, (MapKept.heap_alloc wr _).1⟩ (fun b e => Nat.le_of_eq e.symm) ((Below.refl _ wr).alloc (Nat.le_refl _) _)
  rw [World.size_alloc] at q
  exact q
theorem sep_arr_at (h : Sep w L D wr) (hi : L[i]? = some (arrT lb x y z)) : wr.heap[lb]? = some (.cells #[.int .i64 x, .int .i64 y, .int .i64 z] 62 (0, 0)) := by
  obtain ⟨F, k1, -⟩ := h.call (Below.refl _ _) hi
  exact k1.2.2
theorem sep_arr_get (h : Sep w L D wr) (hi : L[i]? = some (arrT lb x y z)) : wr.cell? ⟨lb, 0, none⟩ = some (.int .i64 x) ∧ wr.cell? ⟨lb, 1, none⟩ = some (.int .i64 y) ∧ wr.cell? ⟨lb, 2, none⟩ = some (.int .i64 z) ∧ (∀ j, wr.frozen? ⟨lb, j, none⟩ = false) := by
  have q := sep_arr_at h hi
  refine ⟨?_, ?_, ?_, fun j => frozen_of_row wr lb j _ _ q⟩
  · rw [cell_of_row wr lb 0 _ _ (0, 0) q]; rfl
  · rw [cell_of_row wr lb 1 _ _ (0, 0) q]; rfl
  · rw [cell_of_row wr lb 2 _ _ (0, 0) q]; rfl
theorem sep_arr_set (h : Sep w L D wr) (hi : L[i]? = some (arrT lb x y z)) (j : Nat) (v x' y' z' : Int) (he : (#[.int .i64 x, .int .i64 y, .int .i64 z] : Array Value).setIfInBounds j (.int .i64 v) = #[.int .i64 x', .int .i64 y', .int .i64 z']) : Sep w (L.set i (arrT lb x' y' z')) (fun _ => wr.heap.size) (wr.setCell ⟨lb, j, none⟩ (.int .i64 v)) := by
  obtain ⟨F, k1, k2, k3, k4⟩ := h.call (Below.refl _ _) hi
  have c : Chg F wr (wr.setCell ⟨lb, j, none⟩ (.int .i64 v)) := (Chg.refl F wr).setCell (p := ⟨lb, j, none⟩) (.inl k1.1) _
  have q := (k4 (arrT lb x' y' z') _ ⟨.inl k1.1, fun b hb => ?_, ?_⟩ c _ (Chg.refl _ _)).reset
  · rw [World.size_setCell] at q
    exact q
  · rw [World.size_setCell]
    rcases hb with e | e
    · exact (k2 b e).2.1
    · have := e.2; rw [World.size_setCell] at this; exact this
  · rw [heap_setCell_same wr lb j _ _ _ k1.2.2, he]
end
end Rs
end Go.Proofs.YtohfhkdhccpoaaaGreatDoor
