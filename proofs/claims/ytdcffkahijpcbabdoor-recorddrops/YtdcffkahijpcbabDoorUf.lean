/- Layer 6, the plain part of frames. No walk. -/
import Derived.Test.YtdcffkahijpcbabDoorUm
namespace Go.Proofs.YtdcffkahijpcbabDoor
open Go.RowKit
namespace Um

def fr (r : List UInt8) : List UInt8 := uL r.length ++ r
def frs (rs : List (List UInt8)) : List UInt8 := rs.flatMap fr
theorem frs_nil : frs [] = [] := rfl
theorem frs_cons (r : List UInt8) (rs : List (List UInt8)) : frs (r :: rs) = fr r ++ frs rs := rfl
theorem frs_app (a b : List (List UInt8)) : frs (a ++ b) = frs a ++ frs b := by simp [frs]
theorem fr_len (r : List UInt8) : (fr r).length = (uL r.length).length + r.length := by simp [fr]
theorem fr_le {r : List UInt8} (h : r.length ≤ 255) : (fr r).length ≤ r.length + 2 := by
  rw [fr_len]
  have := uL_len 1 r.length (by omega)
  omega
theorem fr_ne (r : List UInt8) : fr r ≠ [] := by
  intro e
  have := congrArg List.length e
  rw [fr_len, List.length_nil] at this
  have := uL_pos r.length
  omega
def fit (rs : List (List UInt8)) : Bool := rs.all fun r => decide (r.length ≤ 255)
theorem fit_cons (r : List UInt8) (rs : List (List UInt8)) : fit (r :: rs) = (decide (r.length ≤ 255) && fit rs) := rfl
theorem fit_mem {rs : List (List UInt8)} (h : fit rs = true) {r : List UInt8} (hr : r ∈ rs) : r.length ≤ 255 := by
  unfold fit at h
  simpa using List.all_eq_true.1 h r hr
/-- the first frame: the fault, the record, the rest -/
def un1 (T : List UInt8) : Nat × List UInt8 × List UInt8 :=
  if (rdN T).2.2 ≠ 0 then ((rdN T).2.2, [], [])
  else if 255 < (rdN T).1 then (62, [], [])
  else if (T.drop (rdN T).2.1).length < (rdN T).1 then (60, [], [])
  else (0, (T.drop (rdN T).2.1).take (rdN T).1, (T.drop (rdN T).2.1).drop (rdN T).1)
theorem un1_ok {T : List UInt8} (h : (un1 T).1 = 0) : T = fr (un1 T).2.1 ++ (un1 T).2.2 ∧ (un1 T).2.1.length ≤ 255 := by
  unfold un1 at h ⊢
  by_cases h1 : (rdN T).2.2 ≠ 0
  · rw [if_pos h1] at h; exact absurd h h1
  rw [if_neg h1] at h ⊢
  by_cases h2 : 255 < (rdN T).1
  · rw [if_pos h2] at h; simp at h
  rw [if_neg h2] at h ⊢
  by_cases h3 : (T.drop (rdN T).2.1).length < (rdN T).1
  · rw [if_pos h3] at h; simp at h
  rw [if_neg h3]
  obtain ⟨e1, e2, e3, e4, e5, e6⟩ := rdN_ok (by simpa using h1)
  have hl : ((T.drop (rdN T).2.1).take (rdN T).1).length = (rdN T).1 := by rw [List.length_take]; omega
  simp only
  refine ⟨?_, by omega⟩
  unfold fr
  rw [hl, e5, e1, List.append_assoc, List.take_append_drop, List.take_append_drop]
theorem un1_fr {r : List UInt8} (h : r.length ≤ 255) (S : List UInt8) : un1 (fr r ++ S) = (0, r, S) := by
  have e : rdN (fr r ++ S) = (r.length, (uL r.length).length, 0) := by
    unfold fr
    rw [List.append_assoc]
    exact rdN_uL (by omega) _
  have ed : (fr r ++ S).drop (uL r.length).length = r ++ S := by
    unfold fr
    rw [List.append_assoc, List.drop_left]
  unfold un1
  rw [e]
  simp only
  rw [ed, if_neg (by simp), if_neg (by omega), if_neg (by rw [List.length_append]; omega), List.take_left, List.drop_left]
theorem un1_short {T : List UInt8} (h : (un1 T).1 = 0) : (un1 T).2.2.length < T.length := by
  obtain ⟨e, _⟩ := un1_ok h
  have := congrArg List.length e
  rw [List.length_append, fr_len] at this
  have := uL_pos (un1 T).2.1.length
  omega
/-- the records ahead of the first fault, and that fault -/
def heads (T : List UInt8) : List (List UInt8) × Nat :=
  if T = [] then ([], 0)
  else if _h : (un1 T).1 = 0 then ((un1 T).2.1 :: (heads (un1 T).2.2).1, (heads (un1 T).2.2).2)
  else ([], (un1 T).1)
termination_by T.length
decreasing_by all_goals exact un1_short _h
theorem heads_nil : heads [] = ([], 0) := by rw [heads, if_pos rfl]
theorem heads_ok {T : List UInt8} (h0 : T ≠ []) (h : (un1 T).1 = 0) : heads T = ((un1 T).2.1 :: (heads (un1 T).2.2).1, (heads (un1 T).2.2).2) := by rw [heads, if_neg h0, dif_pos h]
theorem heads_bad {T : List UInt8} (h0 : T ≠ []) (h : (un1 T).1 ≠ 0) : heads T = ([], (un1 T).1) := by rw [heads, if_neg h0, dif_neg h]
theorem un1_nz {T : List UInt8} (h0 : T ≠ []) : (un1 T).1 ≠ 0 → (heads T).2 ≠ 0 := fun h => by rw [heads_bad h0 h]; exact h
theorem heads_frs {rs : List (List UInt8)} (h : fit rs = true) : heads (frs rs) = (rs, 0) := by
  induction rs with
  | nil => exact heads_nil
  | cons r t ih =>
    rw [fit_cons] at h
    simp only [Bool.and_eq_true, decide_eq_true_eq] at h
    have hu := un1_fr h.1 (frs t)
    have hn : fr r ++ frs t ≠ [] := fun e => fr_ne r (List.append_eq_nil_iff.1 e).1
    rw [frs_cons, heads_ok hn (by rw [hu]), hu]
    simp only
    rw [ih h.2]
theorem heads_back : ∀ (n : Nat) (T : List UInt8), T.length ≤ n → (heads T).2 = 0 → frs (heads T).1 = T ∧ fit (heads T).1 = true := by
  intro n
  induction n with
  | zero =>
    intro T hT _
    have : T = [] := List.eq_nil_of_length_eq_zero (by omega)
    subst this
    rw [heads_nil]
    exact ⟨rfl, rfl⟩
  | succ n ih =>
    intro T hT h
    by_cases h0 : T = []
    · subst h0; rw [heads_nil]; exact ⟨rfl, rfl⟩
    by_cases hu : (un1 T).1 = 0
    · have hs := un1_short hu
      rw [heads_ok h0 hu] at h ⊢
      obtain ⟨e1, e2⟩ := ih (un1 T).2.2 (by omega) h
      obtain ⟨e3, e4⟩ := un1_ok hu
      simp only
      rw [frs_cons, fit_cons, e1, e2]
      exact ⟨e3.symm, by simp [e4]⟩
    · rw [heads_bad h0 hu] at h; exact absurd h hu
theorem heads_len : ∀ (n : Nat) (T : List UInt8), T.length ≤ n → (heads T).1.length ≤ T.length := by
  intro n
  induction n with
  | zero =>
    intro T hT
    have : T = [] := List.eq_nil_of_length_eq_zero (by omega)
    subst this
    rw [heads_nil]
    exact Nat.le_refl _
  | succ n ih =>
    intro T hT
    by_cases h0 : T = []
    · subst h0; rw [heads_nil]; exact Nat.le_refl _
    by_cases hu : (un1 T).1 = 0
    · have hs := un1_short hu
      rw [heads_ok h0 hu]
      have := ih (un1 T).2.2 (by omega)
      simp only [List.length_cons]
      omega
    · rw [heads_bad h0 hu]; simp
end Um
end Go.Proofs.YtdcffkahijpcbabDoor
