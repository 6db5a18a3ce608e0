/- Contracts: the document's Read: its closing, and the pieces. -/
import Derived.Test.YtjcchogilbekoabSeX
namespace Go.Proofs.Ytjcchogilbekoab
open Go.RowKit
namespace Pt
open Cd

theorem starts_any (fs : List (UInt8 → Bool)) (t : ByteArray) (w : World) (h16 : fs.length ≤ 16) :
    Calls Try.prog 20 #[.agg (patC fs), .string t] w fun e w' => e = .returned (.bool (startsB fs t.data.toList)) ∧ Below w.heap.size w w' := by
  have hl : t.data.toList.length = t.size := by simp
  unfold startsB
  by_cases h : fs.length ≤ t.size
  · rw [hl, decide_eq_true h, Bool.true_and]
    exact starts_long fs t w h16 h
  · rw [hl, decide_eq_false h, Bool.false_and]
    exact starts_short fs t w h16 (by omega)
theorem ends_any (fs : List (UInt8 → Bool)) (t : ByteArray) (w : World) (h16 : fs.length ≤ 16) (hm : t.size ≤ maxLen) :
    Calls Try.prog 21 #[.agg (patC fs), .string t] w fun e w' => e = .returned (.bool (endsB fs t.data.toList)) ∧ Below w.heap.size w w' := by
  have hl : t.data.toList.length = t.size := by simp
  unfold endsB
  by_cases h : fs.length ≤ t.size
  · rw [hl, decide_eq_true h, Bool.true_and]
    exact ends_long fs t w h16 h hm
  · rw [hl, decide_eq_false h, Bool.false_and]
    exact ends_short fs t w h16 (by omega)

/-- where the next closing bracket stands -/
def clo (l : List UInt8) (i : Nat) : Int := if 93 ∈ l.drop i then ((i + ((l.drop i).takeWhile (· != 93)).length : Nat) : Int) else -1
theorem drop_cons (s : ByteArray) (k : Nat) (h : k < s.size) : s.data.toList.drop k = s[k] :: s.data.toList.drop (k + 1) := by
  rw [List.drop_eq_getElem_cons (by simpa using h)]; rfl
theorem clo_hit (s : ByteArray) (k : Nat) (h : k < s.size) (hc : s[k] = 93) : clo s.data.toList k = (k : Int) := by
  unfold clo
  rw [drop_cons s k h, hc]
  simp
theorem clo_miss (s : ByteArray) (k : Nat) (h : k < s.size) (hc : s[k] ≠ 93) : clo s.data.toList k = clo s.data.toList (k + 1) := by
  unfold clo
  rw [drop_cons s k h]
  have h1 : (s[k] != 93) = true := by simpa using hc
  have h2 : ¬ 93 = s[k] := fun e => hc e.symm
  rw [List.takeWhile_cons, if_pos h1]
  by_cases h3 : 93 ∈ s.data.toList.drop (k + 1)
  · rw [if_pos (by simp [h3]), if_pos h3, List.length_cons]
    congr 1
    omega
  · rw [if_neg (by simp [h3, h2]), if_neg h3]
theorem clo_end (s : ByteArray) (k : Nat) (h : s.size ≤ k) : clo s.data.toList k = -1 := by
  unfold clo
  rw [List.drop_of_length_le (by simpa using h)]
  simp
theorem byte_z {a : UInt8} {n : Nat} (h : a.toNat = n) : ((a.toNat : Int) == (n : Int)) = true := by simp [h]
theorem ret_int {a b : Int} (h : a = b) : Ending.returned (.int .i64 a) = .returned (.int .i64 b) := by rw [h]

end Pt
end Go.Proofs.Ytjcchogilbekoab
