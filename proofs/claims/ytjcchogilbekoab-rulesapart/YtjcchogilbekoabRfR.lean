/- Contract: the document's Read. -/
import Derived.Test.YtjcchogilbekoabReW
namespace Go.Proofs.Ytjcchogilbekoab
open Go.RowKit
namespace Pt
open Cd

def txt (P : List (List UInt8)) : List Value := P.map fun p => Value.string (str p)
theorem txt_snoc (P : List (List UInt8)) (p : List UInt8) : txt P ++ [.string (str p)] = txt (P ++ [p]) := by simp [txt]
/-- where the piece at i ends, and that it is one -/
theorem piece_plain (s : ByteArray) (i : Nat) (h : i < s.size) (hc : s[i] ≠ 91) : cut1 (s.data.toList.drop i) = some ([s[i]], s.data.toList.drop (i + 1)) ∧ s.extract i (i + 1) = str [s[i]] := by
  rw [extract_str, drop_cons s i h]
  refine ⟨by simp [cut1, hc], ?_⟩
  rw [show i + 1 - i = 1 by omega]
  simp
theorem tw_drop {r : List UInt8} (h : 93 ∈ r) : ∃ m rest, m = (r.takeWhile (· != 93)).length ∧ m < r.length ∧ r.dropWhile (· != 93) = 93 :: rest ∧ rest = r.drop (m + 1) ∧ r.take (m + 1) = r.takeWhile (· != 93) ++ [93] := by
  obtain ⟨rest, hr⟩ := dw_some h
  obtain ⟨h1, h2, h3⟩ := tw_facts h
  refine ⟨_, rest, rfl, h1, hr, by rw [h3, hr]; rfl, ?_⟩
  have e := List.takeWhile_append_dropWhile (p := fun x : UInt8 => x != 93) (l := r)
  rw [hr] at e
  have e2 : r = (r.takeWhile (· != 93) ++ [93]) ++ rest := by rw [List.append_assoc]; exact e.symm
  have e3 : (r.takeWhile (· != 93) ++ [93]).length = (r.takeWhile (· != 93)).length + 1 := by simp
  rw [← e3]
  generalize r.takeWhile (· != 93) ++ [93] = q at *
  rw [e2]
  simp
/-- a bracket at i: the place of its end; what is asked of it -/
theorem piece_brack (s : ByteArray) (i : Nat) (h : i < s.size) (hc : s[i] = 91) :
    (clo s.data.toList i = -1 ∧ cut1 (s.data.toList.drop i) = none) ∨
    ∃ k : Nat, clo s.data.toList i = (k : Int) ∧ i < k ∧ k < s.size ∧
      ((k = i + 1 ∧ cut1 (s.data.toList.drop i) = none) ∨
       (k = i + 2 ∧ (∃ h1 : i + 1 < s.size, s[i + 1] = 94) ∧ cut1 (s.data.toList.drop i) = none) ∨
       (k ≠ i + 1 ∧ (k = i + 2 → ∃ h1 : i + 1 < s.size, s[i + 1] ≠ 94) ∧ ∃ p, cut1 (s.data.toList.drop i) = some (p, s.data.toList.drop (k + 1)) ∧ s.extract i (k + 1) = str p)) := by
  have hl : s.data.toList.length = s.size := by simp
  rw [drop_cons s i h, hc]
  unfold clo
  rw [drop_cons s i h, hc]
  by_cases h93 : 93 ∈ s.data.toList.drop (i + 1)
  · right
    obtain ⟨m, rest, hm, hml, hr, hrest, htk⟩ := tw_drop h93
    rw [List.length_drop, hl] at hml
    have hd1 : rest = s.data.toList.drop (i + 1 + m + 1) := by rw [hrest, List.drop_drop]; congr 1
    refine ⟨i + 1 + m, ?_, by omega, by omega, ?_⟩
    · rw [if_pos (by simp [h93]), List.takeWhile_cons, if_pos (by decide), List.length_cons, ← hm]
      congr 1
      omega
    · have hex : s.extract i (i + 1 + m + 1) = str (91 :: ((s.data.toList.drop (i + 1)).takeWhile (· != 93) ++ [93])) := by
        rw [extract_str, drop_cons s i h, hc, show i + 1 + m + 1 - i = m + 1 + 1 by omega, List.take_succ_cons, htk]
      cases htw : (s.data.toList.drop (i + 1)).takeWhile (· != 93) with
      | nil =>
        left
        rw [htw] at hm
        exact ⟨by simp at hm; omega, by simp [cut1, htw, hr]⟩
      | cons d q =>
        rw [htw] at hm hex
        have hi1 : i + 1 < s.size := by omega
        have hd : s[i + 1] = d := by
          have e := drop_cons s (i + 1) hi1
          rw [e, List.takeWhile_cons] at htw
          split at htw
          · exact (List.cons.inj htw).1
          · cases htw
        by_cases hq : q = [] ∧ d = 94
        · obtain ⟨rfl, rfl⟩ := hq
          right; left
          exact ⟨by simp at hm; omega, ⟨hi1, hd⟩, by simp [cut1, htw, hr]⟩
        · right; right
          refine ⟨by simp at hm; omega, fun e => ⟨hi1, fun e2 => hq ⟨?_, by rw [← hd, e2]⟩⟩, _, ?_, hex⟩
          · apply List.eq_nil_of_length_eq_zero
            simp at hm
            omega
          · have hn : ¬ (d = 94 ∧ q = []) := fun e => hq ⟨e.2, e.1⟩
            simp [cut1, htw, hr, hn, hd1]
  · left
    refine ⟨by rw [if_neg (by simp [h93])], by simp [cut1, dw_none h93]⟩
theorem rd_none {l : List UInt8} (h : l = [] ∨ 512 < l.length) : rd l = ([], 40) := by unfold rd; rw [if_pos h]
theorem rd_bad {l : List UInt8} (h0 : l ≠ []) (h1 : l.length ≤ 512) (h2 : l ≠ [46]) (h : pcs l = none) : rd l = ([], 41) := by
  unfold rd; rw [if_neg (fun e => e.elim h0 (fun e => by omega)), if_neg h2, h]
theorem rd_many {l : List UInt8} {P : List (List UInt8)} (h0 : l ≠ []) (h1 : l.length ≤ 512) (h2 : l ≠ [46]) (h : pcs l = some P) (h3 : 16 < P.length) : rd l = ([], 42) := by
  unfold rd; rw [if_neg (fun e => e.elim h0 (fun e => by omega)), if_neg h2, h]; simp only; rw [if_pos h3]
theorem rd_few {l : List UInt8} {P : List (List UInt8)} (h0 : l ≠ []) (h1 : l.length ≤ 512) (h2 : l ≠ [46]) (h : pcs l = some P) (h3 : P.length ≤ 16) : rd l = (P, 0) := by
  unfold rd; rw [if_neg (fun e => e.elim h0 (fun e => by omega)), if_neg h2, h]; simp only; rw [if_neg (by omega)]
theorem ret_ref {v : Value} {a b : Int} (h : a = b) : Ending.returned (.tuple #[v, .int .i64 a]) = .returned (.tuple #[v, .int .i64 b]) := by rw [h]

end Pt
end Go.Proofs.Ytjcchogilbekoab
