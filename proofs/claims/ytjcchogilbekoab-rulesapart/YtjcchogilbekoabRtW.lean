/- Contracts: the document's Starts and Ends at any text. -/
import Derived.Test.YtjcchogilbekoabRsW
import Derived.Test.YtjcchogilbekoabRtB
namespace Go.Proofs.Ytjcchogilbekoab
open Go.RowKit
namespace Pt
open Cd

theorem each_take (fs : List (UInt8 → Bool)) (l : List UInt8) : each fs (l.take fs.length) = each fs l := by
  induction fs generalizing l with
  | nil => cases l <;> rfl
  | cons f t ih =>
    cases l with
    | nil => rfl
    | cons b u =>
      rw [List.length_cons, List.take_succ_cons]
      simp only [each]
      rw [ih]
theorem texts_slice {W : World} {v : Value} {P : List (List UInt8)} (h : TextsAt W v P) : ∃ a cap, v = .slice a P.length cap := by
  rcases h with ⟨rfl, rfl⟩ | ⟨g, cap, rfl, _⟩
  · exact ⟨none, 0, rfl⟩
  · exact ⟨_, cap, rfl⟩
theorem ends_starts (fs : List (UInt8 → Bool)) (l : List UInt8) (h : fs.length ≤ l.length) : startsB fs (l.drop (l.length - fs.length)) = endsB fs l := by
  unfold startsB endsB
  rw [List.take_of_length_le (by rw [List.length_drop]; omega), List.length_drop]
  have : fs.length ≤ l.length - (l.length - fs.length) := by omega
  simp [h, this]
end Pt
end Go.Proofs.Ytjcchogilbekoab
