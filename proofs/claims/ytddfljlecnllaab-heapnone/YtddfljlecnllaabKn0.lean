/- Layer 7: a script as it lies in memory. No walk. -/
import Derived.Test.YtddfljlecnllaabHt
namespace Go.Proofs.Ytddfljlecnllaab
open Go.RowKit
namespace Hp
abbrev Op7 := Int × List It × Value
def sumX (os : List Op7) : Nat := (os.map fun o => o.2.1.length).sum
theorem sumX_snoc (os : List Op7) (o : Op7) : sumX (os ++ [o]) = sumX os + o.2.1.length := by simp [sumX]
theorem sumX_app (a b : List Op7) : sumX (a ++ b) = sumX a + sumX b := by simp [sumX]
theorem sumX_take {os : List Op7} {k : Nat} {o : Op7} (h : os[k]? = some o) : sumX (os.take (k + 1)) = sumX (os.take k) + o.2.1.length := by
  rw [List.take_succ_eq_append_getElem (List.getElem?_eq_some_iff.1 h).1, (List.getElem?_eq_some_iff.1 h).2, sumX_snoc]
theorem sumX_le (os : List Op7) (k : Nat) : sumX (os.take k) ≤ sumX os := by
  have := sumX_app (os.take k) (os.drop k)
  rw [List.take_append_drop] at this
  omega
/-- a script -/
def Scr (w : World) (v : Value) (os : List Op7) : Prop :=
  ∃ ao cap, v = .slice ao os.length cap ∧ (∀ o ∈ os, Its w o.2.2 o.2.1 (fun b => w.heap.size ≤ b)) ∧ (0 < os.length → ∃ g off, ao = some ⟨g, off, none⟩ ∧ g < w.heap.size ∧ ∀ (j : Nat) (o : Op7), os[j]? = some o → w.cell? ⟨g, off + j * 2, none⟩ = some (.int .i64 o.1) ∧ w.cell? ⟨g, off + j * 2 + 1, none⟩ = some o.2.2)
end Hp
end Go.Proofs.Ytddfljlecnllaab
