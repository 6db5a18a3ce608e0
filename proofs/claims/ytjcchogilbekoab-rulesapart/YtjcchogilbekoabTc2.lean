/- Contracts: the document's Apply and Undo of any rule, against the plain meaning (Ta). -/
import Derived.Test.YtjcchogilbekoabTc1
namespace Go.Proofs.Ytjcchogilbekoab
open Go.RowKit
namespace Pt
open Cd

theorem rstr_toList (l : List UInt8) : (str l).toList = l := by rw [ByteArray.toList_eq, str_list]
theorem rstr_self (t : ByteArray) : str t.data.toList = t := by simp [str]
theorem cat_left (t a : ByteArray) (n : Nat) : t.extract 0 n ++ a = str (t.data.toList.take n ++ a.data.toList) := by
  rw [str_app, Lib.extract_data, List.drop_zero, Nat.sub_zero]
theorem cat_right (a t : ByteArray) (n : Nat) : a ++ t.extract n t.size = str (a.data.toList ++ t.data.toList.drop n) := by
  rw [str_app, Lib.extract_data, List.take_of_length_le (by simp)]

/-- the document's Undo ends as the word that it tries is made or not -/
theorem dend {m : Option (List UInt8)} {t : ByteArray} : (m = some t.data.toList ∧ ansV m = .tuple #[.string t, .bool true]) ∨ (m = none ∧ ansV m = .tuple #[.string ⟨#[]⟩, .bool false]) ∨ ∃ x, m = some x ∧ ¬ x = t.data.toList ∧ ansV m = .tuple #[.string (str x), .bool true] := by
  cases m with
  | none => exact .inr (.inl ⟨rfl, rfl⟩)
  | some x =>
    by_cases h : x = t.data.toList
    · subst h
      exact .inl ⟨rfl, by simp only [ansV, rstr_self]⟩
    · exact .inr (.inr ⟨x, rfl, h, rfl⟩)
end Pt
end Go.Proofs.Ytjcchogilbekoab
