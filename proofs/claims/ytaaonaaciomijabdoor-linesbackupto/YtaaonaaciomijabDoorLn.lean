/- Plain mathematics of the lines of a text: no program is named here. -/
import Derived.Lib.IndexMore
import Derived.Lib.Strings
import Derived.Test.YtaaonaaciomijabDoorFld
namespace Go.Proofs.YtaaonaaciomijabDoor.Ln

def ended (l : List UInt8) : List UInt8 := if l.getLast? = some 13 then l.dropLast else l
def stp (p : List (List UInt8) × List UInt8) (c : UInt8) : List (List UInt8) × List UInt8 := if c = 10 then (p.1 ++ [ended p.2], []) else (p.1, p.2 ++ [c])
def fin (p : List (List UInt8) × List UInt8) : List (List UInt8) := if p.2.isEmpty then p.1 else p.1 ++ [ended p.2]
def ln (l : List UInt8) : List (List UInt8) := fin (l.foldl stp ([], []))
def mark : List UInt8 := [239, 187, 191]
def unmark (l : List UInt8) : List UInt8 := Lib.trimPrefix l mark
def linesOf (l : List UInt8) : List (List UInt8) := ln (unmark l)

def bef : List UInt8 → List UInt8
  | [] => []
  | c :: t => if c = 10 then [] else c :: bef t
def aft : List UInt8 → List UInt8
  | [] => []
  | c :: t => if c = 10 then t else aft t
theorem index_eq (l : List UInt8) : (0 ≤ Lib.index l [10] → l.take (Lib.index l [10]).toNat = bef l ∧ l.drop ((Lib.index l [10]).toNat + 1) = aft l) ∧ (¬ 0 ≤ Lib.index l [10] → l = bef l ∧ aft l = []) ∧ (-1 ≤ Lib.index l [10]) := by
  induction l with
  | nil => simp [Lib.index, bef, aft]
  | cons c t ih =>
    obtain ⟨ih1, ih2, ih3⟩ := ih
    by_cases hc : c = 10
    · subst hc
      simp [Lib.index, bef, aft]
    · have hp : ([10] : List UInt8).isPrefixOf (c :: t) = false := by
        simp only [List.isPrefixOf, Bool.and_true]
        simp [Ne.symm hc]
      simp only [Lib.index, hp, bef, aft, if_neg hc]
      by_cases h1 : Lib.index t [10] = -1
      · have h2 := ih2 (by omega)
        simp only [h1]
        simp
        exact h2
      · have h3 : 0 ≤ Lib.index t [10] := by omega
        have h4 := ih1 h3
        have hb : (Lib.index t [10] == -1) = false := by simp [h1]
        simp only [hb]
        refine ⟨fun _ => ?_, fun h => absurd (by simp; omega) h, by simp; omega⟩
        have e : (Lib.index t [10] + 1).toNat = (Lib.index t [10]).toNat + 1 := by omega
        simp only [Bool.false_eq_true, if_false, e, List.take_succ_cons, List.drop_succ_cons]
        exact ⟨by rw [h4.1], h4.2⟩
theorem cut_eq (l : List UInt8) : (Lib.cut l [10]).1 = bef l ∧ (Lib.cut l [10]).2.1 = aft l := by
  obtain ⟨h1, h2, _⟩ := index_eq l
  unfold Lib.cut
  split
  · rename_i h
    exact h1 h
  · rename_i h
    exact ⟨(h2 h).1, (h2 h).2.symm⟩
theorem ended_eq (l : List UInt8) : Lib.trimSuffix l [13] = ended l := by
  unfold Lib.trimSuffix Lib.hasSuffix ended
  rcases List.eq_nil_or_concat l with rfl | ⟨a, c, rfl⟩
  · rfl
  · rw [List.concat_eq_append, show (a ++ [c]).getLast? = some c from by simp, show (a ++ [c]).dropLast = a from by simp]
    have : ([13] : List UInt8).isSuffixOf (a ++ [c]) = decide (c = 13) := by
      simp only [List.isSuffixOf, List.reverse_append, List.reverse_cons, List.reverse_nil, List.nil_append, List.isPrefixOf, List.cons_append, Bool.and_true]
      by_cases h : c = 13
      · simp [h]
      · simp [h, Ne.symm h]
    rw [this]
    by_cases h : c = 13
    · subst h; simp
    · simp [h]
theorem fold_acc (l : List UInt8) : ∀ (d : List (List UInt8)) (cur : List UInt8), fin (l.foldl stp (d, cur)) = d ++ fin (l.foldl stp ([], cur)) := by
  induction l with
  | nil => intro d cur; cases cur <;> simp [fin]
  | cons c t ih =>
    intro d cur
    simp only [List.foldl_cons, stp]
    split
    · rw [ih (d ++ [ended cur]), ih ([] ++ [ended cur])]; simp
    · exact ih d (cur ++ [c])
theorem ln_from (l : List UInt8) : ∀ cur : List UInt8, (l ≠ [] ∨ cur ≠ []) → fin (l.foldl stp ([], cur)) = ended (cur ++ bef l) :: ln (aft l) := by
  induction l with
  | nil =>
    intro cur h
    have hc : cur ≠ [] := by rcases h with h | h; exact absurd rfl h; exact h
    have : cur.isEmpty = false := by cases cur with | nil => exact absurd rfl hc | cons _ _ => rfl
    simp [fin, bef, aft, ln, this]
  | cons c t ih =>
    intro cur _
    simp only [List.foldl_cons, stp, bef, aft]
    by_cases hc : c = 10
    · rw [if_pos hc, if_pos hc, if_pos hc, fold_acc]
      simp [ln]
    · rw [if_neg hc, if_neg hc, if_neg hc, ih (cur ++ [c]) (.inr (by simp))]
      simp
theorem ln_cons (l : List UInt8) (h : l ≠ []) : ln l = ended (bef l) :: ln (aft l) := by
  have := ln_from l [] (.inl h)
  simpa [ln] using this
theorem ln_nil : ln [] = [] := rfl
theorem aft_lt (l : List UInt8) (h : l ≠ []) : (aft l).length < l.length := by
  induction l with
  | nil => exact absurd rfl h
  | cons c t ih =>
    simp only [aft]
    split
    · simp
    · cases t with
      | nil => simp [aft]
      | cons d u => have := ih (by simp); simp at this ⊢; omega
theorem bef_le (l : List UInt8) : (bef l).length ≤ l.length := by
  induction l with
  | nil => simp [bef]
  | cons c t ih =>
    simp only [bef]
    split
    · simp
    · simp; omega
theorem ln_len : ∀ (n : Nat) (l : List UInt8), l.length ≤ n → (ln l).length ≤ l.length
  | 0, l, h => by have : l = [] := List.eq_nil_of_length_eq_zero (by omega); subst this; simp [ln_nil]
  | n + 1, l, h => by
    by_cases hl : l = []
    · subst hl; simp [ln_nil]
    · have h1 := aft_lt l hl
      have h2 := ln_len n (aft l) (by omega)
      rw [ln_cons l hl]
      simp
      omega
theorem unmark_le (l : List UInt8) : (unmark l).length ≤ l.length := by
  unfold unmark Lib.trimPrefix
  split
  · simp
  · exact Nat.le_refl _
theorem linesOf_len (l : List UInt8) : (linesOf l).length ≤ l.length := Nat.le_trans (ln_len _ _ (Nat.le_refl _)) (unmark_le l)

/-! numbered lines -/
def num : Nat → List (List UInt8) → List (Nat × ByteArray)
  | _, [] => []
  | k, l :: t => (k, Fld.str l) :: num (k + 1) t
theorem num_length (L : List (List UInt8)) : ∀ k, (num k L).length = L.length := by
  induction L with
  | nil => intro k; rfl
  | cons l t ih => intro k; simp [num, ih]
theorem num_snd (L : List (List UInt8)) : ∀ k, (num k L).map (·.2) = L.map Fld.str := by
  induction L with
  | nil => intro k; rfl
  | cons l t ih => intro k; simp [num, ih]
theorem num_get (L : List (List UInt8)) : ∀ k j x, (num k L)[j]? = some x → x.1 = k + j ∧ ∃ l, L[j]? = some l ∧ x.2 = Fld.str l := by
  induction L with
  | nil => intro k j x h; simp [num] at h
  | cons l t ih =>
    intro k j x h
    cases j with
    | zero => simp [num] at h; subst h; simp
    | succ j =>
      simp [num] at h
      obtain ⟨h1, l', h2, h3⟩ := ih (k + 1) j x h
      exact ⟨by omega, l', by simpa using h2, h3⟩
def items (l : List UInt8) : List (Nat × ByteArray) := num 1 (linesOf l)
theorem items_length (l : List UInt8) : (items l).length = (linesOf l).length := num_length _ _
end Go.Proofs.YtaaonaaciomijabDoor.Ln
