/- Layer 6, the plain part: numbers in their one form, and frames. No walk. -/
import Derived.Test.YtohfhkdhccpoaaaGreatDoorChecked
import Derived.WalkKit
import Derived.Maps.AppendAt
import Derived.Laws.IdiomStrings
import Derived.Laws.BytesArg
import Derived.Deep.AppendSrc
import Derived.Laws.Bits64b
import Derived.Laws.BitsAllLaws
import Derived.Laws.MakeOwn
namespace Go.Proofs.YtohfhkdhccpoaaaGreatDoor
open Go.RowKit
namespace Um

def Hid (p : Prop) : Prop := p
theorem hide {p : Prop} (h : p) : Hid p := h
theorem unhide {p : Prop} (h : Hid p) : p := h

/-- the one form of a number -/
def uL (n : Nat) : List UInt8 := if n < 128 then [UInt8.ofNat n] else UInt8.ofNat (n % 128 + 128) :: uL (n / 128)
termination_by n
decreasing_by omega
theorem uL_small {n : Nat} (h : n < 128) : uL n = [UInt8.ofNat n] := by rw [uL, if_pos h]
theorem uL_big {n : Nat} (h : ¬ n < 128) : uL n = UInt8.ofNat (n % 128 + 128) :: uL (n / 128) := by rw [uL, if_neg h]
theorem uL_len : ∀ (k n : Nat), n < 128 ^ (k + 1) → (uL n).length ≤ k + 1
  | 0, n, h => by rw [uL_small (by simpa using h)]; simp
  | k + 1, n, h => by
    by_cases h1 : n < 128
    · rw [uL_small h1]; simp
    · rw [uL_big h1, List.length_cons]
      rw [Nat.pow_succ] at h
      have := uL_len k (n / 128) (by omega)
      omega
theorem uL_ten {n : Nat} (h : n < 18446744073709551616) : (uL n).length ≤ 10 := uL_len 9 n (Nat.lt_of_lt_of_le h (by decide))
theorem uL_pos (n : Nat) : 0 < (uL n).length := by
  by_cases h : n < 128
  · rw [uL_small h]; simp
  · rw [uL_big h]; simp
theorem ofNat_toNat {n : Nat} (h : n < 256) : (UInt8.ofNat n).toNat = n := by rw [UInt8.toNat_ofNat']; omega

/-- the number that such bytes tell -/
def vL : List UInt8 → Nat
  | [] => 0
  | b :: t => b.toNat % 128 + 128 * vL t
theorem vL_app (a b : List UInt8) : vL (a ++ b) = vL a + 128 ^ a.length * vL b := by
  induction a with
  | nil => simp [vL]
  | cons x t ih =>
    simp only [List.cons_append, vL, ih, List.length_cons, Nat.pow_succ, Nat.mul_add]
    rw [Nat.mul_comm (128 ^ t.length) 128, Nat.mul_assoc]
    omega
theorem vL_lt (a : List UInt8) : vL a < 128 ^ a.length := by
  induction a with
  | nil => simp [vL]
  | cons x t ih =>
    simp only [vL, List.length_cons, Nat.pow_succ]
    have := Nat.mod_lt x.toNat (show 0 < 128 by decide)
    omega
theorem vL_uL (n : Nat) : vL (uL n) = n := by
  induction n using Nat.strongRecOn with
  | _ n ih =>
    by_cases h : n < 128
    · rw [uL_small h]; simp only [vL]; rw [ofNat_toNat (by omega)]; omega
    · rw [uL_big h]; simp only [vL]; rw [ih (n / 128) (by omega), ofNat_toNat (by omega)]; omega
def hi (b : UInt8) : Bool := decide (128 ≤ b.toNat)
/-- how many bytes lie ahead of the first one below 128 -/
def ahd (T : List UInt8) : Nat := (T.takeWhile hi).length
def bad (k b : Nat) : Bool := (decide (k = 9) && decide (1 < b)) || (decide (0 < k) && decide (b = 0))
/-- the number at the beginning, the bytes that it has, the fault -/
def rdN (T : List UInt8) : Nat × Nat × Nat :=
  if T = [] then (0, 0, 60)
  else if 10 ≤ ahd T then (0, 0, 61)
  else match T[ahd T]? with
    | none => (0, 0, 60)
    | some b => if bad (ahd T) b.toNat then (0, 0, 61) else (vL (T.take (ahd T + 1)), ahd T + 1, 0)
theorem ahd_cons_hi {b : UInt8} {t : List UInt8} (h : 128 ≤ b.toNat) : ahd (b :: t) = ahd t + 1 := by
  have : hi b = true := by simp [hi, h]
  simp [ahd, this]
theorem ahd_cons_lo {b : UInt8} {t : List UInt8} (h : b.toNat < 128) : ahd (b :: t) = 0 := by
  have : hi b = false := by simp [hi]; omega
  simp [ahd, this]
theorem ahd_le (T : List UInt8) : ahd T ≤ T.length := by
  induction T with
  | nil => simp [ahd]
  | cons b t ih =>
    by_cases h : 128 ≤ b.toNat
    · rw [ahd_cons_hi h, List.length_cons]; omega
    · rw [ahd_cons_lo (by omega)]; omega
theorem ahd_hi {T : List UInt8} {j : Nat} {b : UInt8} (h : T[j]? = some b) (hj : j < ahd T) : 128 ≤ b.toNat := by
  induction T generalizing j with
  | nil => simp at h
  | cons x t ih =>
    by_cases hx : 128 ≤ x.toNat
    · rw [ahd_cons_hi hx] at hj
      cases j with
      | zero => simp at h; subst h; exact hx
      | succ j => simp at h; exact ih h (by omega)
    · rw [ahd_cons_lo (by omega)] at hj; omega
theorem ahd_lo {T : List UInt8} {b : UInt8} (h : T[ahd T]? = some b) : b.toNat < 128 := by
  induction T with
  | nil => simp at h
  | cons x t ih =>
    by_cases hx : 128 ≤ x.toNat
    · rw [ahd_cons_hi hx] at h; simp at h; exact ih h
    · rw [ahd_cons_lo (by omega)] at h; simp at h; subst h; omega
/-- all ahead of the place i are great: i is no farther than the first small one -/
theorem ahd_ge {T : List UInt8} {i : Nat} (hi : i ≤ T.length) (h : ∀ j b, j < i → T[j]? = some b → 128 ≤ b.toNat) : i ≤ ahd T := by
  induction T generalizing i with
  | nil => simp at hi; omega
  | cons x t ih =>
    cases i with
    | zero => omega
    | succ i =>
      have hx := h 0 x (by omega) (by simp)
      rw [ahd_cons_hi hx]
      have := ih (i := i) (by simp at hi; omega) (fun j b hj hb => h (j + 1) b (by omega) (by simpa using hb))
      omega
theorem ahd_eq {T : List UInt8} {i : Nat} {b : UInt8} (hi : i ≤ ahd T) (h : T[i]? = some b) (hb : b.toNat < 128) : ahd T = i := by
  by_cases e : i < ahd T
  · have := ahd_hi h e; omega
  · omega
/-! there and back -/
theorem ahd_uL (n : Nat) (S : List UInt8) : ahd (uL n ++ S) + 1 = (uL n).length := by
  induction n using Nat.strongRecOn with
  | _ n ih =>
    by_cases h : n < 128
    · rw [uL_small h]
      have : (UInt8.ofNat n).toNat < 128 := by rw [ofNat_toNat (by omega)]; exact h
      simp only [List.cons_append]
      rw [ahd_cons_lo this]; rfl
    · rw [uL_big h]
      have : 128 ≤ (UInt8.ofNat (n % 128 + 128)).toNat := by rw [ofNat_toNat (by omega)]; omega
      simp only [List.cons_append, List.length_cons]
      rw [ahd_cons_hi this, ih (n / 128) (by omega)]
/-- the last byte of a number's form -/
theorem uL_last (n : Nat) : ∃ b : UInt8, (uL n)[(uL n).length - 1]? = some b ∧ ((uL n).length ≠ 1 → 0 < b.toNat) ∧ (∀ k, n < 2 * 128 ^ k → (uL n).length = k + 1 → b.toNat ≤ 1) := by
  induction n using Nat.strongRecOn with
  | _ n ih =>
    by_cases h : n < 128
    · rw [uL_small h]
      refine ⟨_, rfl, fun e => by simp at e, fun k hk e => ?_⟩
      simp at e
      subst e
      rw [ofNat_toNat (by omega)]
      simp at hk
      omega
    · rw [uL_big h]
      obtain ⟨b, h1, h2, h3⟩ := ih (n / 128) (by omega)
      have hp := uL_pos (n / 128)
      refine ⟨b, ?_, fun _ => ?_, fun k hk e => ?_⟩
      · rw [List.length_cons, Nat.add_sub_cancel, show (uL (n / 128)).length = ((uL (n / 128)).length - 1) + 1 by omega, List.getElem?_cons_succ]
        exact h1
      · by_cases e : (uL (n / 128)).length = 1
        · by_cases h4 : n / 128 < 128
          · rw [uL_small h4] at h1
            simp at h1
            subst h1
            rw [ofNat_toNat (by omega)]
            omega
          · rw [uL_big h4, List.length_cons] at e
            have := uL_pos (n / 128 / 128)
            omega
        · exact h2 e
      · rw [List.length_cons] at e
        cases k with
        | zero => omega
        | succ k =>
          rw [Nat.pow_succ] at hk
          exact h3 k (by omega) (by omega)
theorem rdN_uL {n : Nat} (h : n < 18446744073709551616) (S : List UInt8) : rdN (uL n ++ S) = (n, (uL n).length, 0) := by
  have ha := ahd_uL n S
  have hp := uL_pos n
  have ht := uL_ten h
  obtain ⟨b, h1, h2, h3⟩ := uL_last n
  have hb : (uL n ++ S)[ahd (uL n ++ S)]? = some b := by
    rw [show ahd (uL n ++ S) = (uL n).length - 1 by omega, List.getElem?_append_left (by omega)]; exact h1
  unfold rdN
  rw [if_neg (by intro e; rw [List.append_eq_nil_iff] at e; rw [e.1] at hp; simp at hp), if_neg (by omega), hb]
  simp only
  have hbad : bad (ahd (uL n ++ S)) b.toNat = false := by
    unfold bad
    have h4 : ahd (uL n ++ S) = 9 → b.toNat ≤ 1 := fun e => h3 9 (Nat.lt_of_lt_of_le h (by decide)) (by omega)
    have h5 : 0 < ahd (uL n ++ S) → 0 < b.toNat := fun e => h2 (by omega)
    by_cases e9 : ahd (uL n ++ S) = 9
    · have := h4 e9; have := h5 (by omega); simp [e9]; omega
    · by_cases e0 : 0 < ahd (uL n ++ S)
      · have := h5 e0; simp [e9]; omega
      · simp [e9, e0]
  rw [if_neg (by simp [hbad]), show ahd (uL n ++ S) + 1 = (uL n).length from ha, List.take_left, vL_uL]
theorem vL_back : ∀ (T : List UInt8) (k : Nat) (b : UInt8), ahd T = k → T[k]? = some b → (0 < k → b.toNat ≠ 0) → uL (vL (T.take (k + 1))) = T.take (k + 1)
  | [], k, b, _, h, _ => by simp at h
  | x :: t, k, b, hk, h, h0 => by
    by_cases hx : 128 ≤ x.toNat
    · rw [ahd_cons_hi hx] at hk
      cases k with
      | zero => omega
      | succ k =>
        simp only [List.getElem?_cons_succ] at h
        have hv : uL (vL (t.take (k + 1))) = t.take (k + 1) := vL_back t k b (by omega) h (fun _ => h0 (by omega))
        have hlt := x.toNat_lt
        have hnz : 0 < vL (t.take (k + 1)) := by
          refine Nat.pos_of_ne_zero fun e => ?_
          rw [e] at hv
          rw [uL_small (by omega)] at hv
          have hl := congrArg List.length hv
          have hkt := (List.getElem?_eq_some_iff.1 h).1
          simp at hl
          have : k = 0 := by omega
          subst this
          rw [List.take_one] at hv
          cases t with
          | nil => simp at h
          | cons y t =>
            simp at h hv
            subst h
            exact h0 (by omega) (by rw [← hv]; rfl)
        rw [List.take_succ_cons]
        simp only [vL]
        rw [uL_big (by omega)]
        have e1 : (x.toNat % 128 + 128 * vL (t.take (k + 1))) % 128 + 128 = x.toNat := by omega
        have e2 : (x.toNat % 128 + 128 * vL (t.take (k + 1))) / 128 = vL (t.take (k + 1)) := by omega
        rw [e1, e2, hv]
        congr 1
        exact UInt8.toNat.inj (ofNat_toNat hlt)
    · rw [ahd_cons_lo (by omega)] at hk
      subst hk
      simp only [List.take_succ_cons, List.take_zero, vL]
      rw [uL_small (by omega)]
      congr 1
      refine UInt8.toNat.inj ?_
      rw [ofNat_toNat (by omega)]
      omega
theorem rdN_ok {T : List UInt8} (h : (rdN T).2.2 = 0) : (rdN T).2.1 = ahd T + 1 ∧ ahd T < 10 ∧ ahd T < T.length ∧ (rdN T).1 = vL (T.take (ahd T + 1)) ∧ uL (rdN T).1 = T.take (ahd T + 1) ∧ (rdN T).1 < 18446744073709551616 := by
  unfold rdN at h ⊢
  by_cases h0 : T = []
  · rw [if_pos h0] at h; simp at h
  rw [if_neg h0] at h ⊢
  by_cases h1 : 10 ≤ ahd T
  · rw [if_pos h1] at h; simp at h
  rw [if_neg h1] at h ⊢
  cases hb : T[ahd T]? with
  | none => rw [hb] at h; simp at h
  | some b =>
    rw [hb] at h
    simp only at h ⊢
    by_cases h2 : bad (ahd T) b.toNat = true
    · rw [if_pos h2] at h; simp at h
    · rw [if_neg h2]
      have hl := (List.getElem?_eq_some_iff.1 hb).1
      unfold bad at h2
      simp at h2
      refine ⟨rfl, by omega, hl, rfl, vL_back T _ b rfl hb (fun e e2 => h2.2 e (by rw [e2])), ?_⟩
      simp only
      by_cases h9 : ahd T = 9
      · have hb1 := h2.1 h9
        rw [h9] at hb
        have et : T.take 10 = T.take 9 ++ [b] := by rw [List.take_add_one, hb]; rfl
        rw [h9, et, vL_app]
        have := vL_lt (T.take 9)
        have e9 : (T.take 9).length = 9 := by rw [List.length_take]; omega
        rw [e9] at this ⊢
        simp only [vL]
        have e3 : (128 : Nat) ^ 9 = 9223372036854775808 := by decide
        rw [e3] at this ⊢
        have : b.toNat % 128 ≤ 1 := by omega
        omega
      · have := vL_lt (T.take (ahd T + 1))
        have e9 : (T.take (ahd T + 1)).length ≤ 9 := by rw [List.length_take]; omega
        have := Nat.pow_le_pow_right (show 0 < 128 by decide) e9
        have e3 : (128 : Nat) ^ 9 = 9223372036854775808 := by decide
        omega
end Um
end Go.Proofs.YtohfhkdhccpoaaaGreatDoor
/- Layer 6, the plain part of frames. No walk. -/
namespace Go.Proofs.YtohfhkdhccpoaaaGreatDoor
open Go.RowKit
namespace Um

def fr (r : List UInt8) : List UInt8 := uL r.length ++ r
def frs (rs : List (List UInt8)) : List UInt8 := rs.flatMap fr
theorem frs_nil : frs [] = [] := rfl
theorem frs_cons (r : List UInt8) (rs : List (List UInt8)) : frs (r :: rs) = fr r ++ frs rs := rfl
theorem frs_app (a b : List (List UInt8)) : frs (a ++ b) = frs a ++ frs b := by simp [frs]
theorem fr_len (r : List UInt8) : (fr r).length = (uL r.length).length + r.length := by simp [fr]
theorem fr_le {r : List UInt8} (h : r.length ≤ 255) : (fr r).length ≤ r.length + 2 := by
  rw [fr_len]
  have := uL_len 1 r.length (by omega)
  omega
theorem fr_ne (r : List UInt8) : fr r ≠ [] := by
  intro e
  have := congrArg List.length e
  rw [fr_len, List.length_nil] at this
  have := uL_pos r.length
  omega
def fit (rs : List (List UInt8)) : Bool := rs.all fun r => decide (r.length ≤ 255)
theorem fit_cons (r : List UInt8) (rs : List (List UInt8)) : fit (r :: rs) = (decide (r.length ≤ 255) && fit rs) := rfl
theorem fit_mem {rs : List (List UInt8)} (h : fit rs = true) {r : List UInt8} (hr : r ∈ rs) : r.length ≤ 255 := by
  unfold fit at h
  simpa using List.all_eq_true.1 h r hr
/-- the first frame: the fault, the record, the rest -/
def un1 (T : List UInt8) : Nat × List UInt8 × List UInt8 :=
  if (rdN T).2.2 ≠ 0 then ((rdN T).2.2, [], [])
  else if 255 < (rdN T).1 then (62, [], [])
  else if (T.drop (rdN T).2.1).length < (rdN T).1 then (60, [], [])
  else (0, (T.drop (rdN T).2.1).take (rdN T).1, (T.drop (rdN T).2.1).drop (rdN T).1)
theorem un1_ok {T : List UInt8} (h : (un1 T).1 = 0) : T = fr (un1 T).2.1 ++ (un1 T).2.2 ∧ (un1 T).2.1.length ≤ 255 := by
  unfold un1 at h ⊢
  by_cases h1 : (rdN T).2.2 ≠ 0
  · rw [if_pos h1] at h; exact absurd h h1
  rw [if_neg h1] at h ⊢
  by_cases h2 : 255 < (rdN T).1
  · rw [if_pos h2] at h; simp at h
  rw [if_neg h2] at h ⊢
  by_cases h3 : (T.drop (rdN T).2.1).length < (rdN T).1
  · rw [if_pos h3] at h; simp at h
  rw [if_neg h3]
  obtain ⟨e1, e2, e3, e4, e5, e6⟩ := rdN_ok (by simpa using h1)
  have hl : ((T.drop (rdN T).2.1).take (rdN T).1).length = (rdN T).1 := by rw [List.length_take]; omega
  simp only
  refine ⟨?_, by omega⟩
  unfold fr
  rw [hl, e5, e1, List.append_assoc, List.take_append_drop, List.take_append_drop]
theorem un1_fr {r : List UInt8} (h : r.length ≤ 255) (S : List UInt8) : un1 (fr r ++ S) = (0, r, S) := by
  have e : rdN (fr r ++ S) = (r.length, (uL r.length).length, 0) := by
    unfold fr
    rw [List.append_assoc]
    exact rdN_uL (by omega) _
  have ed : (fr r ++ S).drop (uL r.length).length = r ++ S := by
    unfold fr
    rw [List.append_assoc, List.drop_left]
  unfold un1
  rw [e]
  simp only
  rw [ed, if_neg (by simp), if_neg (by omega), if_neg (by rw [List.length_append]; omega), List.take_left, List.drop_left]
theorem un1_short {T : List UInt8} (h : (un1 T).1 = 0) : (un1 T).2.2.length < T.length := by
  obtain ⟨e, _⟩ := un1_ok h
  have := congrArg List.length e
  rw [List.length_append, fr_len] at this
  have := uL_pos (un1 T).2.1.length
  omega
/-- the records ahead of the first fault, and that fault -/
def heads (T : List UInt8) : List (List UInt8) × Nat :=
  if T = [] then ([], 0)
  else if _h : (un1 T).1 = 0 then ((un1 T).2.1 :: (heads (un1 T).2.2).1, (heads (un1 T).2.2).2)
  else ([], (un1 T).1)
termination_by T.length
decreasing_by all_goals exact un1_short _h
theorem heads_nil : heads [] = ([], 0) := by rw [heads, if_pos rfl]
theorem heads_ok {T : List UInt8} (h0 : T ≠ []) (h : (un1 T).1 = 0) : heads T = ((un1 T).2.1 :: (heads (un1 T).2.2).1, (heads (un1 T).2.2).2) := by rw [heads, if_neg h0, dif_pos h]
theorem heads_bad {T : List UInt8} (h0 : T ≠ []) (h : (un1 T).1 ≠ 0) : heads T = ([], (un1 T).1) := by rw [heads, if_neg h0, dif_neg h]
theorem un1_nz {T : List UInt8} (h0 : T ≠ []) : (un1 T).1 ≠ 0 → (heads T).2 ≠ 0 := fun h => by rw [heads_bad h0 h]; exact h
theorem heads_frs {rs : List (List UInt8)} (h : fit rs = true) : heads (frs rs) = (rs, 0) := by
  induction rs with
  | nil => exact heads_nil
  | cons r t ih =>
    rw [fit_cons] at h
    simp only [Bool.and_eq_true, decide_eq_true_eq] at h
    have hu := un1_fr h.1 (frs t)
    have hn : fr r ++ frs t ≠ [] := fun e => fr_ne r (List.append_eq_nil_iff.1 e).1
    rw [frs_cons, heads_ok hn (by rw [hu]), hu]
    simp only
    rw [ih h.2]
theorem heads_back : ∀ (n : Nat) (T : List UInt8), T.length ≤ n → (heads T).2 = 0 → frs (heads T).1 = T ∧ fit (heads T).1 = true := by
  intro n
  induction n with
  | zero =>
    intro T hT _
    have : T = [] := List.eq_nil_of_length_eq_zero (by omega)
    subst this
    rw [heads_nil]
    exact ⟨rfl, rfl⟩
  | succ n ih =>
    intro T hT h
    by_cases h0 : T = []
    · subst h0; rw [heads_nil]; exact ⟨rfl, rfl⟩
    by_cases hu : (un1 T).1 = 0
    · have hs := un1_short hu
      rw [heads_ok h0 hu] at h ⊢
      obtain ⟨e1, e2⟩ := ih (un1 T).2.2 (by omega) h
      obtain ⟨e3, e4⟩ := un1_ok hu
      simp only
      rw [frs_cons, fit_cons, e1, e2]
      exact ⟨e3.symm, by simp [e4]⟩
    · rw [heads_bad h0 hu] at h; exact absurd h hu
theorem heads_len : ∀ (n : Nat) (T : List UInt8), T.length ≤ n → (heads T).1.length ≤ T.length := by
  intro n
  induction n with
  | zero =>
    intro T hT
    have : T = [] := List.eq_nil_of_length_eq_zero (by omega)
    subst this
    rw [heads_nil]
    exact Nat.le_refl _
  | succ n ih =>
    intro T hT
    by_cases h0 : T = []
    · subst h0; rw [heads_nil]; exact Nat.le_refl _
    by_cases hu : (un1 T).1 = 0
    · have hs := un1_short hu
      rw [heads_ok h0 hu]
      have := ih (un1 T).2.2 (by omega)
      simp only [List.length_cons]
      omega
    · rw [heads_bad h0 hu]; simp
end Um
end Go.Proofs.YtohfhkdhccpoaaaGreatDoor
/- Layer 6: lists of bytes and of texts that a call owns. No walk. -/
namespace Go.Proofs.YtohfhkdhccpoaaaGreatDoor
open Go.RowKit
namespace Um

def str (l : List UInt8) : ByteArray := ⟨l.toArray⟩
theorem str_list (l : List UInt8) : (str l).data.toList = l := by simp [str]
theorem str_self (s : ByteArray) : str s.data.toList = s := rfl
theorem str_size (l : List UInt8) : (str l).size = l.length := by simp [str, ByteArray.size]
theorem list_size (s : ByteArray) : s.data.toList.length = s.size := by simp
theorem extract_str (s : ByteArray) (a b : Nat) : s.extract a b = str ((s.data.toList.drop a).take (b - a)) := by
  apply ByteArray.ext
  apply Array.toList_inj.1
  simp [str, List.take_drop]
theorem str_app (a b : List UInt8) : str a ++ str b = str (a ++ b) := by
  apply ByteArray.ext
  apply Array.toList_inj.1
  simp [str]
theorem str_inj {a b : List UInt8} (h : str a = str b) : a = b := by rw [← str_list a, h, str_list]
theorem str_ne {a b : List UInt8} (h : a ≠ b) : str a ≠ str b := fun e => h (str_inj e)
theorem add_off (g j : Nat) : (⟨g, 0, none⟩ : Addr).add j = ⟨g, j, none⟩ := by unfold Addr.add; split <;> simp_all
theorem info_parts {P : Program} {e : TypeId} {z : Value} {s b : Nat} (h : (P.info? e).map (fun i => (i.zero, i.size, i.bytes)) = some (some z, s, b)) : ∃ i, P.info? e = some i ∧ i.zero = some z ∧ i.size = s ∧ i.bytes = b := by
  cases hi : P.info? e with
  | none => rw [hi] at h; cases h
  | some i => rw [hi] at h; simp at h; exact ⟨i, rfl, h.1, h.2.1, h.2.2⟩
theorem owns_below {W W' : World} {n e size : Nat} {v : Value} {k : Nat} {xs : List Value} (h : W.ownsRow n e size v k xs) (hb : Below W.heap.size W W') : W'.ownsRow n e size v k xs := by
  obtain ⟨h0, h | ⟨g, cap, cur, h1, h2, h3, h4⟩⟩ := h
  · exact ⟨h0, .inl h⟩
  · exact ⟨h0, .inr ⟨g, cap, cur, h1, h2, (hb.block g (Array.getElem?_eq_some_iff.1 h3).1).trans h3, h4⟩⟩
theorem new_cells (W : World) (C : Array Value) (t : TypeId) : ∀ j u, C.toList[j]? = some u → (W.alloc (.cells C t)).cell? ((⟨W.heap.size, 0, none⟩ : Addr).add j) = some u := by
  intro j u hu
  rw [add_off, World.cell?_alloc_at _ _ _ _ rfl]
  simpa using hu
def byts (l : List UInt8) : List Value := l.map fun b => Value.int .u8 (b.toNat : Int)
theorem byts_snoc (l : List UInt8) (c : UInt8) : byts l ++ [.int .u8 (c.toNat : Int)] = byts (l ++ [c]) := by simp [byts]
theorem byts_app (a b : List UInt8) : byts a ++ byts b = byts (a ++ b) := by simp [byts]
theorem byts_one (l : List UInt8) : ∀ u ∈ byts l, u.oneCell' = true := by
  intro u hu
  obtain ⟨b, _, rfl⟩ := List.mem_map.1 hu
  rfl
theorem infoB : (Tryz.prog.info? 5).map (fun i => (i.zero, i.size, i.bytes)) = some (some (.int .u8 0), 1, 1) := by kernel_rfl
theorem infoT : (Tryz.prog.info? 9).map (fun i => (i.zero, i.size, i.bytes)) = some (some (.string ByteArray.empty), 1, 16) := by kernel_rfl
/-- a list of bytes in a block of its own, or nil -/
def Own (n : Nat) (W : World) (v : Value) (L : List UInt8) : Prop := W.ownsRow n 5 1 v L.length (byts L)
theorem own_push {W : World} {B : Nat} {v : Value} {L : List UInt8} {c : UInt8} {x : Int} (hx : (c.toNat : Int) = x) (h : W.ownsRow B 5 1 v (L.length + 1) (byts L ++ [.int .u8 x])) : Own B W v (L ++ [c]) := by
  rw [← hx, byts_snoc] at h
  unfold Own
  rw [List.length_append]
  exact h
theorem own_more {W : World} {B : Nat} {v : Value} {L M : List UInt8} (h : W.ownsRow B 5 1 v (L.length + M.length) (byts L ++ byts M)) : Own B W v (L ++ M) := by
  rw [byts_app] at h
  unfold Own
  rw [List.length_append]
  exact h
theorem own_nil (n : Nat) (W : World) : Own n W (.slice none 0 0) [] := World.ownsRow_nil _ _ _ _
theorem own_cells {w : World} {B : Nat} {v : Value} {L : List UInt8} (h : Own B w v L) (h0 : 0 < L.length) :
    ∃ g cap, v = .slice (some ⟨g, 0, none⟩) L.length cap ∧ g < w.heap.size ∧ ∀ j x, L[j]? = some x → w.cell? ⟨g, j, none⟩ = some (.int .u8 (x.toNat : Int)) := by
  have hc : w.ownsRow B 5 1 v L.length (byts L) := h
  obtain ⟨hl, ⟨rfl, h1⟩ | ⟨g, cap, cur, rfl, hg, hh, hc1, hm, hsz, htk⟩⟩ := h
  · omega
  · refine ⟨g, cap, rfl, (Array.getElem?_eq_some_iff.1 hh).1, fun j x hj => ?_⟩
    have := hc.cells (g := g) rfl j (.int .u8 (x.toNat : Int)) (by simp [byts, hj])
    rwa [add_off] at this
theorem row_slice {w : World} {B e size n : Nat} {v : Value} {xs : List Value} (h : w.ownsRow B e size v n xs) : ∃ a cap, v = .slice a n cap := by
  obtain ⟨_, ⟨e, e2⟩ | ⟨g, cap, cur, e, _⟩⟩ := h
  · exact ⟨none, 0, by rw [e, e2]⟩
  · exact ⟨_, cap, e⟩
theorem own_slice {w : World} {B : Nat} {v : Value} {L : List UInt8} (h : Own B w v L) : ∃ a cap, v = .slice a L.length cap := row_slice h
theorem conv_own {w : World} {B : Nat} {v : Value} {L : List UInt8} (h : Own B w v L) : (convert 77 9 v).run Tryz.prog w = .ok (.string (str L)) w := by
  by_cases h0 : 0 < L.length
  · obtain ⟨g, cap, rfl, _, hcell⟩ := own_cells h h0
    exact run_convert_bytes_back w 77 9 5 ⟨g, 0, none⟩ cap L Tryz.underlying77 Tryz.underlying5 Tryz.underlying9 (fun j hj => by rw [add_off]; exact hcell j _ (List.getElem?_eq_getElem hj))
  · have : L = [] := List.eq_nil_of_length_eq_zero (by omega)
    subst this
    obtain ⟨hl, ⟨rfl, h1⟩ | ⟨g, cap, cur, rfl, hg, hh, hc1, hm, hsz, htk⟩⟩ := h
    · exact run_convert_bytes_nil w 77 5 Tryz.underlying77 Tryz.underlying5 0 0 9 Tryz.underlying9
    · exact run_convert_bytes_back w 77 9 5 ⟨g, 0, none⟩ cap [] Tryz.underlying77 Tryz.underlying5 Tryz.underlying9 (fun j hj => absurd hj (by simp))
theorem Own.below {n : Nat} {W W' : World} {v : Value} {L : List UInt8} (h : Own n W v L) (hb : Below W.heap.size W W') : Own n W' v L := owns_below h hb
/-- grown behind one new block -/
theorem push1 {B : Nat} {w wr w1 : World} {o : Obj} {e size : Nat} {v : Value} {n : Nat} {xs : List Value} (hown : wr.ownsRow B e size v n xs) (hB : Below B w wr) (hBs : B ≤ w.heap.size) (hg : (wr.alloc o).grownBy w1 v.ownBlock) : Below B w w1 :=
  (hB.alloc (by have := hB.size; omega) o).grown hg (by have := hB.size; simp; omega) (fun k e => (hown.lt k e).1)
/-- grown at once -/
theorem push0 {B : Nat} {w wr w1 : World} {e size : Nat} {v : Value} {n : Nat} {xs : List Value} (hown : wr.ownsRow B e size v n xs) (hB : Below B w wr) (hBs : B ≤ w.heap.size) (hg : wr.grownBy w1 v.ownBlock) : Below B w w1 :=
  hB.grown hg (by have := hB.size; omega) (fun k e => (hown.lt k e).1)
theorem set_heap1 {W : World} {g k : Nat} {cur : Array Value} {t : TypeId} {fz : Nat × Nat} (h : W.heap[g]? = some (.cells cur t fz)) (v : Value) : (W.setCell ⟨g, k, none⟩ v).heap[g]? = some (.cells (cur.setIfInBounds k v) t fz) := by
  simp only [World.setCell, Array.getElem?_modify, if_true, h, Option.map_some]
  simp
theorem setCells_heap (g : Nat) (t : TypeId) (fz : Nat × Nat) : ∀ (vs : List Value) (o : Nat) (w : World) (cur : Array Value), w.heap[g]? = some (.cells cur t fz) → o + vs.length ≤ cur.size →
    (w.setCells g o vs).heap[g]? = some (.cells (cur.toList.take o ++ vs ++ cur.toList.drop (o + vs.length)).toArray t fz)
  | [], o, w, cur, h, _ => by
    simp only [World.setCells, h]
    simp
  | v :: r, o, w, cur, h, hl => by
    have h1 := set_heap1 (k := o) h v
    have h2 := setCells_heap g t fz r (o + 1) _ _ h1 (by simp at hl ⊢; omega)
    simp only [World.setCells]
    rw [h2]
    simp only [List.length_cons] at hl
    congr 3
    rw [Array.toList_setIfInBounds, List.take_add_one, List.take_set_of_le (Nat.le_refl _), List.getElem?_set_self (by simp; omega), List.drop_set_of_lt (by omega)]
    simp only [List.length_cons, List.append_assoc, Option.toList, List.cons_append, List.nil_append]
    rw [show o + 1 + r.length = o + (r.length + 1) by omega]
theorem setCells_size (g : Nat) : ∀ (vs : List Value) (o : Nat) (w : World), (w.setCells g o vs).heap.size = w.heap.size ∧ (w.setCells g o vs).os = w.os ∧ (w.setCells g o vs).tape = w.tape ∧ (w.setCells g o vs).output = w.output ∧ ∀ k, k ≠ g → (w.setCells g o vs).heap[k]? = w.heap[k]?
  | [], o, w => ⟨rfl, rfl, rfl, rfl, fun _ _ => rfl⟩
  | v :: r, o, w => by
    obtain ⟨h1, h2, h3, h4, h5⟩ := setCells_size g r (o + 1) (w.setCell ⟨g, o, none⟩ v)
    simp only [World.setCells]
    exact ⟨by rw [h1]; simp [World.setCell], by rw [h2]; rfl, by rw [h3]; rfl, by rw [h4]; rfl, fun k hk => by rw [h5 k hk]; exact Below.heap_setCell _ _ _ _ hk⟩
theorem append_str (W : World) (v : Value) (n : Nat) (xs : List Value) (s : ByteArray) (ty : TypeId) {B : Nat} (hB : B ≤ W.heap.size) (hown : W.ownsRow B 5 1 v n xs) (hb : n + s.size ≤ 2199023255552) :
    ∃ v' W', (Builtin.append_ #[77, 9] ty #[v, .string s]).run Tryz.prog W = .ok v' W' ∧ W'.ownsRow B 5 1 v' (n + s.size) (xs ++ byteCells s) ∧ W.grownBy W' v.ownBlock ∧ (v'.ownBlock = v.ownBlock ∨ v'.ownBlock = some W.heap.size) := by
  obtain ⟨i, hi, hz⟩ := Option.map_eq_some_iff.1 infoB
  simp only [Prod.mk.injEq] at hz
  obtain ⟨hz0, hz1, hz2⟩ := hz
  have hs := Src.ofString (P := Tryz.prog) W Tryz.underlying9 s
  have hbl : (byteCells s).length = s.size := byteCells_length s
  have hlen : (xs ++ byteCells s).length = (n + s.size) * 1 := by rw [List.length_append, hown.1, hbl]; omega
  have grown : ∀ (old : Nat) (row : Option Nat), old < n + s.size →
      (W.drew.alloc (.cells ((xs ++ byteCells s).toArray ++ Builtin.zeroCells (Value.int .u8 0).cells (grownCap W (n + s.size) old 5 - (n + s.size))) 5)).ownsRow B 5 1 (.slice (some ⟨W.heap.size, 0, none⟩) (n + s.size) (grownCap W (n + s.size) old 5)) (n + s.size) (xs ++ byteCells s) ∧
      W.grownBy (W.drew.alloc (.cells ((xs ++ byteCells s).toArray ++ Builtin.zeroCells (Value.int .u8 0).cells (grownCap W (n + s.size) old 5 - (n + s.size))) 5)) row := by
    intro old row ho
    have hge := grownCap_ge W (n + s.size) old 5
    have hcm : grownCap W (n + s.size) old 5 ≤ maxLen := grownCap_le_maxLen W (n + s.size) old 5 (by unfold maxLen; omega)
    refine ⟨⟨hlen, .inr ⟨W.heap.size, _, _, rfl, hB, (MapKept.heap_alloc W.drew _).1, hge, hcm, ?_, ?_⟩⟩, ⟨rfl, rfl, rfl, by simp, fun k hk _ => Below.heap_alloc W.drew _ k hk⟩⟩
    · simp only [Array.size_append, List.size_toArray, size_zeroCells, hlen]
      simp [Value.cells]
      omega
    · simp only [Array.toList_append]
      rw [← hlen]
      exact List.take_left
  have hsrc : Src Tryz.prog i.size 9 (.string s) s.size (byteCells s) W := by rw [hz1]; exact hs
  rcases hown.2 with ⟨rfl, rfl⟩ | ⟨g, cap, cur, rfl, hbg, hg, hnc, hcm, hcs, htake⟩
  · have hx : xs = [] := List.eq_nil_of_length_eq_zero (by simpa using hown.1)
    subst hx
    by_cases hm : s.size = 0
    · refine ⟨.slice none 0 0, W, ?_, ?_, ⟨rfl, rfl, rfl, Nat.le_refl _, fun _ _ _ => rfl⟩, Or.inl rfl⟩
      · simp [Builtin.append_, run_underlying Tryz.underlying77, run_underlying Tryz.underlying9, sizeOf, typeInfo, hi, Builtin.lenOf, hm, Builtin.firstCells]
      · have e : byteCells s = [] := List.eq_nil_of_length_eq_zero (by rw [hbl, hm])
        rw [e, hm]
        exact World.ownsRow_nil W B 5 1
    · have hr := run_append_grow_src (P := Tryz.prog) W 77 9 ty 5 i (.int .u8 0) Tryz.underlying77 hi hz0 none 0 0 [] (run_firstCells_none W.drew i.size 0 0 0) (.string s) s.size (byteCells s) hsrc (by omega) (by omega) (growslice_fits (by omega) (by rw [hz2]; omega))
      have hgr := grown 0 (Value.ownBlock (.slice none 0 0)) (by omega)
      exact ⟨_, _, hr, hgr.1, hgr.2, Or.inr rfl⟩
  · by_cases hroom : n + s.size ≤ cap
    · have hcell : ∀ j, j < cur.size → (W.cell? ⟨g, j, none⟩).isSome = true := fun j hj => by
        simp [World.cell?, hg, hj]
      have hr := run_append_room_src (P := Tryz.prog) W 77 9 ty 5 i Tryz.underlying77 hi g 0 n cap (.string s) s.size (byteCells s) hsrc hroom (fun j hj => by
        rw [hz1]; exact hcell _ (by omega)) (fun j hj => by simp [World.frozen?, hg])
      rw [hz1] at hr
      have hh := setCells_heap g 5 (0, 0) (byteCells s) (0 + n * 1) W cur hg (by omega)
      obtain ⟨k1, k2, k3, k4, k5⟩ := setCells_size g (byteCells s) (0 + n * 1) W
      refine ⟨_, _, hr, ⟨hlen, .inr ⟨g, cap, _, rfl, hbg, hh, hroom, hcm, ?_, ?_⟩⟩, ⟨k2, k3, k4, by omega, fun k _ hk => k5 k (fun e => hk (by simp [Value.ownBlock, e]))⟩, Or.inl rfl⟩
      · simp only [List.size_toArray, List.length_append, List.length_take, List.length_drop, Array.length_toList]
        omega
      · rw [Nat.zero_add, htake, ← hlen]
        exact List.take_left
    · have holds : ∀ j u, xs[j]? = some u → W.drew.cell? ((⟨g, 0, none⟩ : Addr).add j) = some u := hown.cells (g := g) rfl
      have hr := run_append_grow_src (P := Tryz.prog) W 77 9 ty 5 i (.int .u8 0) Tryz.underlying77 hi hz0 (some ⟨g, 0, none⟩) n cap xs (by rw [hz1]; exact run_firstCells_some W.drew 1 n ⟨g, 0, none⟩ n cap xs hown.1 holds) (.string s) s.size (byteCells s) hsrc (by omega) (by omega) (growslice_fits (by omega) (by rw [hz2]; omega))
      have hgr := grown cap (Value.ownBlock (.slice (some ⟨g, 0, none⟩) n cap)) (by omega)
      exact ⟨_, _, hr, hgr.1, hgr.2, Or.inr rfl⟩

theorem wpList_app (w : World) {ops : Array Oper} {rest : List Oper} {o : Oper} {a : Act} {Q : Exit → Act → World → Prop} (hg : o.guard = none) (s x : Operand) (hop : o.op = .call { callee := .builtin .append, args := #[s, x], argTypes := #[77, 9] })
    (v v' : Value) (str : ByteArray) (W' : World) (hs : a.eval s = v) (hx : a.eval x = .string str) (hrun : (Builtin.append_ #[77, 9] o.type #[v, .string str]).run Tryz.prog w = .ok v' W') (hK : wpList Tryz.prog ops Q rest (a.put o.dst v') W') : wpList Tryz.prog ops Q (o :: rest) a w := by
  refine wpList_plain hg fun K' hK' => ?_
  unfold Oper.wp execOp
  simp only [hop, resolve, invoke, builtin, Sem.run_bind, Sem.run_pure, Result.andThen_ok, List.map_toArray, List.map_cons, List.map_nil, hs, hx, hrun]
  exact hK' _ _ hK
theorem byteCells_byts (s : ByteArray) : byteCells s = byts s.data.toList := by
  simp [byteCells, byts]
/-- a list of texts that lies in memory -/
def Txs (W : World) (v : Value) (L : List ByteArray) : Prop :=
  ∃ ao cap, v = .slice ao L.length cap ∧ L.length ≤ cap ∧ (ao = none → cap = 0) ∧ (0 < L.length → ∃ g off, ao = some ⟨g, off, none⟩ ∧ g < W.heap.size ∧ ∀ (j : Nat) x, L[j]? = some x → W.cell? ⟨g, off + j, none⟩ = some (.string x))
theorem Txs.below {W W' : World} {v : Value} {L : List ByteArray} (h : Txs W v L) (hB : Below W.heap.size W W') : Txs W' v L := by
  obtain ⟨ao, cap, e, h1, h2, h3⟩ := h
  refine ⟨ao, cap, e, h1, h2, fun h0 => ?_⟩
  obtain ⟨g, off, e2, hg, hc⟩ := h3 h0
  exact ⟨g, off, e2, Nat.lt_of_lt_of_le hg hB.size, fun j x hx => (hB.cell (p := ⟨g, off + j, none⟩) hg).trans (hc j x hx)⟩
def texts (L : List ByteArray) : List Value := L.map Value.string
theorem texts_one (L : List ByteArray) : ∀ u ∈ texts L, u.oneCell' = true := by
  intro u hu
  obtain ⟨b, _, rfl⟩ := List.mem_map.1 hu
  rfl
/-- a list of texts in a block of its own, or nil -/
def OwnT (n : Nat) (W : World) (v : Value) (L : List ByteArray) : Prop := W.ownsRow n 9 1 v L.length (texts L)
theorem ownT_nil (n : Nat) (W : World) : OwnT n W (.slice none 0 0) [] := World.ownsRow_nil _ _ _ _
theorem ownT_push {W : World} {B : Nat} {v : Value} {L : List ByteArray} {x : ByteArray} (h : W.ownsRow B 9 1 v (L.length + 1) (texts L ++ [.string x])) : OwnT B W v (L ++ [x]) := by
  unfold OwnT
  rw [List.length_append]
  simpa [texts] using h
theorem OwnT.below {n : Nat} {W W' : World} {v : Value} {L : List ByteArray} (h : OwnT n W v L) (hb : Below W.heap.size W W') : OwnT n W' v L := owns_below h hb
theorem OwnT.txs {n : Nat} {W : World} {v : Value} {L : List ByteArray} (h : OwnT n W v L) : Txs W v L := by
  have hc : W.ownsRow n 9 1 v L.length (texts L) := h
  obtain ⟨hl, ⟨rfl, h1⟩ | ⟨g, cap, cur, rfl, hg, hh, hc1, hm, hsz, htk⟩⟩ := h
  · exact ⟨none, 0, by rw [h1], by omega, fun _ => rfl, fun h0 => by omega⟩
  · refine ⟨some ⟨g, 0, none⟩, cap, rfl, hc1, (fun e => by cases e), fun _ => ⟨g, 0, rfl, (Array.getElem?_eq_some_iff.1 hh).1, fun j x hj => ?_⟩⟩
    have := hc.cells (g := g) rfl j (.string x) (by simp [texts, hj])
    rw [add_off] at this
    rw [Nat.zero_add]
    exact this
def lst (x : ByteArray) : List UInt8 := x.data.toList
theorem lst_len (x : ByteArray) : (lst x).length = x.size := list_size x
theorem str_lst (x : ByteArray) : str (lst x) = x := rfl
def rl (L : List ByteArray) : List (List UInt8) := L.map lst
theorem rl_take (L : List ByteArray) (k : Nat) : (rl L).take k = rl (L.take k) := by simp [rl]
theorem take_snoc {α : Type} {L : List α} {k : Nat} {x : α} (hx : L[k]? = some x) : L.take (k + 1) = L.take k ++ [x] := by
  have hk : k < L.length := (List.getElem?_eq_some_iff.1 hx).1
  rw [List.take_succ_eq_append_getElem hk, (List.getElem?_eq_some_iff.1 hx).2]
/-- the frames of the first k texts -/
def fk (L : List ByteArray) (k : Nat) : List UInt8 := frs (rl (L.take k))
theorem fk_zero (L : List ByteArray) : fk L 0 = [] := rfl
theorem fk_succ {L : List ByteArray} {k : Nat} {x : ByteArray} (hx : L[k]? = some x) : fk L (k + 1) = fk L k ++ (uL x.size ++ lst x) := by
  unfold fk
  rw [take_snoc hx]
  simp [rl, frs, fr, lst]
theorem fk_all {L : List ByteArray} {k : Nat} (h : L.length ≤ k) : fk L k = frs (rl L) := by unfold fk; rw [List.take_of_length_le h]
theorem fit_of {L : List ByteArray} (h : fit (rl L) = true) {k : Nat} {x : ByteArray} (hx : L[k]? = some x) : x.size ≤ 255 := by
  rw [← lst_len]
  exact fit_mem h (List.mem_map.2 ⟨x, List.mem_of_getElem? hx, rfl⟩)
theorem fit_no {L : List ByteArray} {k : Nat} {x : ByteArray} (hx : L[k]? = some x) (h : ¬ x.size ≤ 255) : fit (rl L) = false := by
  cases hf : fit (rl L) with
  | false => rfl
  | true => exact absurd (fit_of hf hx) h
theorem fit_yes {L : List ByteArray} (h : ∀ (k : Nat) x, L[k]? = some x → x.size ≤ 255) : fit (rl L) = true := by
  unfold fit
  rw [List.all_eq_true]
  intro r hr
  obtain ⟨x, hx, rfl⟩ := List.mem_map.1 hr
  obtain ⟨k, hk, e⟩ := List.getElem_of_mem hx
  have := h k x (by rw [List.getElem?_eq_getElem hk, e])
  rw [lst_len]
  simpa using this
theorem fk_len {L : List ByteArray} : ∀ (k : Nat), k ≤ L.length → (∀ (j : Nat) x, j < k → L[j]? = some x → x.size ≤ 255) → (fk L k).length ≤ 257 * k
  | 0, _, _ => by simp [fk_zero]
  | k + 1, hk, h => by
    have hx : L[k]? = some L[k] := List.getElem?_eq_getElem (by omega)
    have := fk_len k (by omega) (fun j x hj => h j x (by omega))
    have h1 := h k _ (by omega) hx
    have h2 := uL_len 1 L[k].size (by omega)
    rw [fk_succ hx, List.length_append, List.length_append, lst_len]
    omega
/-- what Frame answers -/
def frA (L : List ByteArray) : ByteArray := if fit (rl L) = true then str (frs (rl L)) else ByteArray.empty
def frE (L : List ByteArray) : Int := if fit (rl L) = true then 0 else 62
end Um
end Go.Proofs.YtohfhkdhccpoaaaGreatDoor
/- Layer 6: Uint, the program's and the document's. -/
namespace Go.Proofs.YtohfhkdhccpoaaaGreatDoor
open Go.RowKit
namespace Um

set_option maxHeartbeats 1000000 in
set_option maxRecDepth 100000 in
theorem append_uint (n : Nat) (hn : n < 18446744073709551616) (L : List UInt8) (B : Nat) (v : Value) (w : World) (hL : L.length ≤ 1099511627776) (hO : Own B w v L) (hB : B ≤ w.heap.size) :
    Calls Tryz.prog 137 #[v, .int .u64 n] w fun e w' => ∃ v', e = .returned v' ∧ Own B w' v' (L ++ uL n) ∧ Below B w w' := by
  obtain ⟨i0, hi, hz0, hz1, hz2⟩ := info_parts infoB
  have HO := hide hO
  have HTEN := hide (uL_ten hn)
  clear hO
  go_enter Tryz.func137, Tryz.ntmps137
  go_wp2
  go_loopw [0, 1] (fun s0 s1 wr => ∃ (r : Nat) (u : Value) (D : List UInt8), u = s0 ∧ s1 = .int .u64 (r : Int) ∧ r < 18446744073709551616 ∧ D.length ≤ 10 ∧ Hid (D ++ uL r = uL n) ∧ Hid (Own B wr u (L ++ D)) ∧ Hid (Below B w wr)) (fun _ r _ => (intOf r).toNat)
  case atStart => exact ⟨n, v, [], rfl, rfl, hn, by simp, rfl, by rw [List.append_nil]; exact unhide HO, Below.refl _ _⟩
  case round =>
    obtain ⟨r, u, D, rfl, rfl, hr, hD, HE, HOr, HBr⟩ := hrel
    have hrz : (r : Int) ≤ 18446744073709551615 := by omega
    by_cases hlt : r < 128
    · have hltz : ¬ 128 ≤ (r : Int) := by omega
      have hmod : (r : Int) % 256 = r := by omega
      have hlen : (L ++ D).length = L.length + D.length := List.length_append
      have HW := hide (uL_small hlt)
      go_wp2_with (at_builtin; refine wpList_append_own _ rfl _ _ 77 rfl B 5 i0 (.int .u8 0) 1 1 Tryz.underlying77 hi hz0 hz1 hz2 rfl (by decide) _ _ _ rfl ((unhide HOr).below ((Below.refl _ _).alloc (Nat.le_refl _) _)) ⟨wr.heap.size, 0, none⟩ 1 1 [.int .u8 (r : Int)] rfl rfl (new_cells _ #[.int .u8 (r : Int)] _) (by simp [Value.oneCell']) (by unfold maxLen; omega) (by omega) (by have := (unhide HBr).size; simp; omega) ?_; intro v' w2 hown' hgrow hnil; clear hnil; have HO2 := hide (own_push (c := UInt8.ofNat r) (by rw [ofNat_toNat (by omega)]) hown'); have HB2 := hide (push1 (unhide HOr) (unhide HBr) hB hgrow); clear hown' hgrow)
      go_ret
      refine ⟨_, rfl, ?_, unhide HB2⟩
      have e := unhide HE
      rw [unhide HW] at e
      rw [← e, ← List.append_assoc]
      exact unhide HO2
    · have hltz : 128 ≤ (r : Int) := by omega
      have hlen : (L ++ D).length = L.length + D.length := List.length_append
      have hdiv : (r : Int).tdiv 128 = ((r / 128 : Nat) : Int) := by rw [Int.tdiv_eq_ediv_of_nonneg (by omega)]; omega
      have hdl : ((r / 128 : Nat) : Int) ≤ 144115188075855871 := by omega
      have HW := hide (uL_big hlt)
      go_wp2_with (at_builtin; refine wpList_append_own _ rfl _ _ 77 rfl B 5 i0 (.int .u8 0) 1 1 Tryz.underlying77 hi hz0 hz1 hz2 rfl (by decide) _ _ _ rfl ((unhide HOr).below ((Below.refl _ _).alloc (Nat.le_refl _) _)) ⟨wr.heap.size, 0, none⟩ 1 1 [.int .u8 ((r : Int) % 128 + 128)] rfl rfl (new_cells _ #[.int .u8 ((r : Int) % 128 + 128)] _) (by simp [Value.oneCell']) (by unfold maxLen; omega) (by omega) (by have := (unhide HBr).size; simp; omega) ?_; intro v' w2 hown' hgrow hnil; clear hnil; have HO2 := hide (own_push (c := UInt8.ofNat (r % 128 + 128)) (by rw [ofNat_toNat (by omega)]; omega) hown'); have HB2 := hide (push1 (unhide HOr) (unhide HBr) hB hgrow); clear hown' hgrow)
      go_roundw
      case rel =>
        have e := unhide HE
        rw [unhide HW] at e
        refine ⟨r / 128, v', D ++ [UInt8.ofNat (r % 128 + 128)], rfl, rfl, by omega, ?_, by rw [List.append_assoc]; exact e, by rw [← List.append_assoc]; exact unhide HO2, unhide HB2⟩
        have h1 := congrArg List.length e
        have h2 := unhide HTEN
        have h3 := uL_pos (r / 128)
        simp only [List.length_append, List.length_cons, List.length_nil] at h1 ⊢
        omega
      case measure => simp [intOf]; omega
set_option maxHeartbeats 1000000 in
set_option maxRecDepth 100000 in
theorem uint_any (n : Nat) (hn : n < 18446744073709551616) (w : World) :
    Calls Tryz.prog 136 #[.int .u64 n] w fun e w' => e = .returned (.string (str (uL n))) ∧ Below w.heap.size w w' := by
  have HA := hide (append_uint n hn [] w.heap.size (.slice none 0 0) w (by simp) (own_nil _ _) (Nat.le_refl _))
  go_enter Tryz.func136, Tryz.ntmps136
  go_wp2_with (go_at_call 137; refine (unhide HA).mono ?_; rintro e w1 ⟨v', rfl, hO, hB⟩; have hc := conv_own hO; obtain ⟨ao, cc, rfl⟩ := own_slice hO; rw [List.nil_append] at hc; have HB := hide hB; clear hO hB)
  go_ret
  exact ⟨rfl, unhide HB⟩
theorem conv_one (c : UInt8) {x : Int} (h : (c.toNat : Int) = x) (W : World) : (convert 77 9 (.slice (some ⟨W.heap.size, 0, none⟩) 1 1)).run Tryz.prog (W.alloc (.cells #[.int .u8 x] 5)) = .ok (.string (str [c])) (W.alloc (.cells #[.int .u8 x] 5)) := by
  subst h
  exact run_convert_bytes_back _ 77 9 5 ⟨W.heap.size, 0, none⟩ 1 [c] Tryz.underlying77 Tryz.underlying5 Tryz.underlying9 (fun j hj => by
    rw [add_off, World.cell?_alloc_at _ _ _ _ rfl]
    have : j = 0 := by simpa using hj
    subst this
    simp)
set_option maxHeartbeats 1000000 in
set_option maxRecDepth 100000 in
theorem ref_uint (n : Nat) : ∀ (_ : n < 18446744073709551616) (w : World),
    Calls Tryz.prog 70 #[.int .u64 n] w fun e w' => e = .returned (.string (str (uL n))) ∧ Below w.heap.size w w' := by
  induction n using Nat.strongRecOn with
  | _ n ih =>
    intro hn w
    have hnz : (n : Int) ≤ 18446744073709551615 := by omega
    by_cases hlt : n < 128
    · have hltz : (n : Int) < 128 := by omega
      have hmod : (n : Int) % 128 = n := by omega
      have hc := fun W => conv_one (UInt8.ofNat n) (x := (n : Int)) (by rw [ofNat_toNat (by omega)]) W
      rw [uL_small hlt]
      clear ih
      go_enter Tryz.func70, Tryz.ntmps70
      go_wp2
      go_ret
      exact ⟨rfl, (Below.refl _ w).alloc (Nat.le_refl _) _⟩
    · have hltz : ¬ (n : Int) < 128 := by omega
      have hdiv : (n : Int).tdiv 128 = ((n / 128 : Nat) : Int) := by rw [Int.tdiv_eq_ediv_of_nonneg (by omega)]; omega
      have hdl : ((n / 128 : Nat) : Int) ≤ 144115188075855871 := by omega
      have hc := fun W => conv_one (UInt8.ofNat (n % 128 + 128)) (x := (n : Int) % 128 + 128) (by rw [ofNat_toNat (by omega)]; omega) W
      have HI := hide (ih (n / 128) (by omega) (by omega))
      have hsz : ¬ 9223372036854775807 < (str [UInt8.ofNat (n % 128 + 128)]).size + (str (uL (n / 128))).size := by
        have := uL_ten (n := n / 128) (by omega)
        rw [str_size, str_size]
        simp
        omega
      have hsum : str [UInt8.ofNat (n % 128 + 128)] ++ str (uL (n / 128)) = str (uL n) := by rw [uL_big hlt, str_app]; rfl
      generalize str [UInt8.ofNat (n % 128 + 128)] = c1 at *
      generalize str (uL (n / 128)) = c2 at *
      generalize str (uL n) = R at *
      clear ih
      go_enter Tryz.func70, Tryz.ntmps70
      go_wp2_with (go_at_call 70; refine (unhide HI _).mono ?_; rintro e w1 ⟨rfl, hB⟩; have HB := hide hB; clear hB)
      go_ret
      exact ⟨rfl, (unhide HB).alloc (unhide HB).size _⟩
end Um
end Go.Proofs.YtohfhkdhccpoaaaGreatDoor
/- Layer 6: ReadUint, the program's. -/
namespace Go.Proofs.YtohfhkdhccpoaaaGreatDoor
open Go.RowKit
namespace Um

/-- what ReadUint answers of the bytes from the place a on -/
def ruT (T : List UInt8) (a : Int) : Int × Int × Int := (((rdN T).1 : Int), if (rdN T).2.2 = 0 then a + ((rdN T).2.1 : Int) else 0, ((rdN T).2.2 : Int))
theorem rdN_form {T : List UInt8} {k : Nat} {b : UInt8} (hk : ahd T = k) (hb : T[k]? = some b) (h9 : k < 10) (h : bad k b.toNat = true) : rdN T = (0, 0, 61) := by
  unfold rdN
  rw [hk, if_neg (fun e => by rw [e] at hb; simp at hb), if_neg (by omega), hb]
  simp only
  rw [if_pos h]
theorem rdN_good {T : List UInt8} {k : Nat} {b : UInt8} (hk : ahd T = k) (hb : T[k]? = some b) (h9 : k < 10) (h : bad k b.toNat = false) : rdN T = (vL (T.take (k + 1)), k + 1, 0) := by
  unfold rdN
  rw [hk, if_neg (fun e => by rw [e] at hb; simp at hb), if_neg (by omega), hb]
  simp only
  rw [if_neg (by simp [h])]
theorem rdN_short {T : List UInt8} (h0 : 0 < T.length) (hk : ahd T = T.length) (h9 : T.length < 10) : rdN T = (0, 0, 60) := by
  unfold rdN
  rw [hk, if_neg (fun e => by rw [e] at h0; simp at h0), if_neg (by omega), List.getElem?_eq_none (Nat.le_refl _)]
theorem rdN_long {T : List UInt8} (hk : 10 ≤ ahd T) : rdN T = (0, 0, 61) := by
  unfold rdN
  rw [if_neg (fun e => by subst e; simp [ahd] at hk), if_pos hk]
theorem rdN_err {T : List UInt8} (h : (rdN T).2.2 ≠ 0) : (rdN T).1 = 0 ∧ (rdN T).2.1 = 0 := by
  unfold rdN at h ⊢
  by_cases h0 : T = []
  · rw [if_pos h0]; exact ⟨rfl, rfl⟩
  rw [if_neg h0] at h ⊢
  by_cases h1 : 10 ≤ ahd T
  · rw [if_pos h1]; exact ⟨rfl, rfl⟩
  rw [if_neg h1] at h ⊢
  cases hb : T[ahd T]? with
  | none => exact ⟨rfl, rfl⟩
  | some b =>
    rw [hb] at h
    simp only at h ⊢
    by_cases h2 : bad (ahd T) b.toNat = true
    · rw [if_pos h2]; exact ⟨rfl, rfl⟩
    · rw [if_neg h2] at h; exact absurd rfl h
theorem u8_127 {c : Nat} (h : c < 256) : bits .and .u8 (c : Int) 127 = ((c % 128 : Nat) : Int) := by
  have h1 := u8_and_nat c 127 h (by decide)
  have h2 : c &&& 127 = c % 128 := Nat.and_two_pow_sub_one_eq_mod c 7
  rw [h2] at h1
  exact h1
theorem or_shift {i v d : Nat} (hv : v < 128 ^ i) (hi : i ≤ 9) (hd : d < 128) : ∃ r : Nat, bits .or .u64 (v : Int) (IntKind.u64.wrap ((d : Int) * 2 ^ (7 * i))) = (r : Int) ∧ r < 18446744073709551616 ∧ ((i < 9 ∨ d ≤ 1) → r = v + 128 ^ i * d) := by
  have hp : (128 : Nat) ^ i = 2 ^ (7 * i) := by rw [Nat.pow_mul]
  have hle : (128 : Nat) ^ i ≤ 128 ^ 9 := Nat.pow_le_pow_right (by decide) hi
  have h9 : (128 : Nat) ^ 9 = 9223372036854775808 := by decide
  obtain ⟨q, hq⟩ : ∃ q, q = d * 2 ^ (7 * i) := ⟨_, rfl⟩
  have hqz : (d : Int) * 2 ^ (7 * i) = (q : Int) := by rw [hq]; simp
  have hw : IntKind.u64.wrap (q : Int) = ((q % 18446744073709551616 : Nat) : Int) := by rw [IntKind.wrap_u64]; omega
  rw [hqz, hw, bits_or_u64_nat v (q % 18446744073709551616) (by omega) (Nat.mod_lt _ (by decide))]
  refine ⟨v ||| q % 18446744073709551616, rfl, ?_, fun h => ?_⟩
  · exact Nat.or_lt_two_pow (n := 64) (by omega) (Nat.mod_lt _ (by decide))
  · have hql : q < 18446744073709551616 := by
      rcases h with h | h
      · have h8 : (128 : Nat) ^ i ≤ 128 ^ 8 := Nat.pow_le_pow_right (by decide) (by omega)
        have e8 : (128 : Nat) ^ 8 = 72057594037927936 := by decide
        rw [hq, ← hp]
        have := Nat.mul_le_mul (show d ≤ 127 by omega) h8
        omega
      · rw [hq, ← hp]
        have := Nat.mul_le_mul h hle
        omega
    rw [Nat.mod_eq_of_lt hql, hq, ← Nat.shiftLeft_eq, Nat.or_comm, ← Nat.shiftLeft_add_eq_or_of_lt (by omega), Nat.shiftLeft_eq, hp]
    rw [Nat.mul_comm d]
    omega
theorem lst_drop (s : ByteArray) (a : Nat) : lst (s.extract a s.size) = (lst s).drop a := by
  unfold lst
  rw [extract_str, str_list, List.take_of_length_le]
  rw [List.length_drop, list_size]
  exact Nat.le_refl _
theorem lst_get {t : ByteArray} {i : Nat} (h : i < t.size) : (lst t)[i]? = some t[i] := by
  unfold lst
  rw [List.getElem?_eq_getElem (by rw [list_size]; exact h)]
  rfl
/-- one byte further -/
theorem vL_step {T : List UInt8} {i : Nat} {b : UInt8} (hb : T[i]? = some b) : vL (T.take (i + 1)) = vL (T.take i) + 128 ^ i * (b.toNat % 128) := by
  have hl := (List.getElem?_eq_some_iff.1 hb).1
  rw [take_snoc hb, vL_app, List.length_take, Nat.min_eq_left (by omega)]
  simp [vL]
theorem vL_take_lt (T : List UInt8) (i : Nat) (h : i ≤ T.length) : vL (T.take i) < 128 ^ i := by
  have := vL_lt (T.take i)
  rw [List.length_take, Nat.min_eq_left h] at this
  exact this
set_option maxHeartbeats 1000000 in
set_option maxRecDepth 100000 in
theorem read_off (s : ByteArray) (at' : Int) (w : World) (h : at' < 0 ∨ (s.size : Int) ≤ at') :
    Calls Tryz.prog 67 #[.string s, .int .i64 at'] w fun e w' => e = .returned (.tuple #[.int .u64 0, .int .i64 0, .int .i64 60]) ∧ w' = w := by
  by_cases h0 : at' < 0
  · clear h
    go_enter Tryz.func67, Tryz.ntmps67
    go_wp2
    go_ret3
    exact ⟨rfl, rfl⟩
  · have h1 : (s.size : Int) ≤ at' := by omega
    clear h
    go_enter Tryz.func67, Tryz.ntmps67
    go_wp2
    go_ret3
    exact ⟨rfl, rfl⟩
set_option maxHeartbeats 1000000 in
set_option maxRecDepth 100000 in
theorem read_few (s t : ByteArray) (a n : Nat) (w : World) (hs : s.size ≤ maxLen) (h : a < s.size) (ht : s.extract a s.size = t) (hn : s.size - a = n) (hts : t.size = n) (hm : (n : Int) ≤ 10) (N X E : Int) (HR : Hid (ruT (lst t) a = (N, X, E))) :
    Calls Tryz.prog 67 #[.string s, .int .i64 a] w fun e w' => e = .returned (.tuple #[.int .u64 N, .int .i64 X, .int .i64 E]) ∧ w' = w := by
  unfold maxLen at hs
  have hz : ¬ (s.size : Int) ≤ (a : Int) := by omega
  have hz2 : (a : Int) ≤ (s.size : Int) := by omega
  have HLL : Hid ((lst t).length = n) := (lst_len t).trans hts
  go_enter Tryz.func67, Tryz.ntmps67
  go_wp2
  go_loopw [4, 23] (fun s4 s23 wr => ∃ i : Nat, s23 = .int .i64 (i : Int) ∧ i ≤ n ∧ (∃ v : Nat, s4 = .int .u64 (v : Int) ∧ (v : Int) ≤ 18446744073709551615 ∧ Hid (i ≤ 9 → v = vL ((lst t).take i))) ∧ Hid (i ≤ ahd (lst t)) ∧ wr = w) (fun _ i _ => 10 - (intOf i).toNat)
  case atStart => exact ⟨0, rfl, by omega, ⟨0, rfl, by omega, fun _ => by simp [vL]⟩, Nat.zero_le _, rfl⟩
  case round =>
    obtain ⟨i, rfl, hi, ⟨v, rfl, hv, HV⟩, HA, rfl⟩ := hrel
    by_cases hlt : i < n
    · have hltz : (i : Int) < (n : Int) := by omega
      have hit : i < t.size := by omega
      have HG := hide (lst_get hit)
      obtain ⟨b, hb⟩ : ∃ b, t[i] = b := ⟨_, rfl⟩
      rw [hb] at HG
      obtain ⟨c, hc⟩ : ∃ c, b.toNat = c := ⟨_, rfl⟩
      have hc1 : c < 256 := by rw [← hc]; exact b.toNat_lt
      have hcz : (c : Int) ≤ 255 := by omega
      have hand := u8_127 hc1
      obtain ⟨d, hd⟩ : ∃ d, c % 128 = d := ⟨_, rfl⟩
      rw [hd] at hand
      have hd1 : d < 128 := by omega
      have hdz : (d : Int) ≤ 127 := by omega
      have HVL := hide (vL_take_lt (lst t) i (by rw [unhide HLL]; omega))
      have hv2 := unhide HV (by omega)
      obtain ⟨r, hor, hr, hrv⟩ := or_shift (i := i) (v := v) (d := d) (by rw [hv2]; exact unhide HVL) (by omega) hd1
      have HRV := hide hrv
      have HST := hide (vL_step (unhide HG))
      have hrz : (r : Int) ≤ 18446744073709551615 := by omega
      clear hrv hv2 HVL hr
      by_cases h128 : 128 ≤ c
      · have h128z : 128 ≤ (c : Int) := by omega
        have HD := hide hd
        clear hd
        go_wp2
        go_roundw
        case rel =>
          refine ⟨i + 1, by go_num, by omega, ⟨r, rfl, by omega, fun h9 => ?_⟩, ?_, (by first | rfl | trivial)⟩
          · rw [unhide HST, unhide HRV (.inl (by omega)), unhide HV (by omega), hc, unhide HD]
          · refine ahd_ge (by rw [unhide HLL]; omega) fun j y hj hy => ?_
            by_cases hji : j < i
            · exact ahd_hi hy (by have := unhide HA; omega)
            · have : j = i := by omega
              subst this
              have := (unhide HG).symm.trans hy
              injection this with this
              rw [← this, hc]
              exact h128
        case measure => simp [intOf]; omega
      · have h128z : ¬ 128 ≤ (c : Int) := by omega
        have hcd : c = d := by omega
        have HEQ := hide (ahd_eq (unhide HA) (unhide HG) (by rw [hc]; omega))
        by_cases hbad : bad i c = true
        · have HX := hide (rdN_form (unhide HEQ) (unhide HG) (by omega) (by rw [hc]; exact hbad))
          have hbad2 : (i = 9 ∧ 1 < c) ∨ (0 < i ∧ c = 0) := by unfold bad at hbad; simpa using hbad
          clear hbad
          subst hcd
          by_cases hp1 : i = 9 ∧ 1 < c
          · have q1 : ((i : Int) == 9) = true := by simp; omega
            have q2 : 1 < (c : Int) := by omega
            clear hbad2 hp1
            go_wp2
            go_ret3
            have h := unhide HR
            unfold ruT at h
            rw [unhide HX] at h
            simp only [Prod.mk.injEq] at h
            obtain ⟨e1, e2, e3⟩ := h
            subst e1 e2 e3
            exact ⟨rfl, rfl⟩
          · have q0 : 0 < i ∧ c = 0 := by omega
            obtain ⟨q1, q2⟩ := q0
            subst q2
            have q3 : 0 < (i : Int) := by omega
            clear hbad2 hp1
            go_wp2
            all_goals
              go_ret3
              have h := unhide HR
              unfold ruT at h
              rw [unhide HX] at h
              simp only [Prod.mk.injEq] at h
              obtain ⟨e1, e2, e3⟩ := h
              subst e1 e2 e3
              exact ⟨rfl, rfl⟩
        · have hbf : bad i c = false := by simpa using hbad
          have HX := hide (rdN_good (unhide HEQ) (unhide HG) (by omega) (by rw [hc]; exact hbf))
          have hb1 : ¬ (i = 9 ∧ 1 < c) ∧ ¬ (0 < i ∧ c = 0) := by
            unfold bad at hbf
            simp at hbf
            constructor
            · rintro ⟨x, y⟩; have := hbf.1 x; omega
            · rintro ⟨x, y⟩; exact hbf.2 x y
          have HFI : Hid (r = vL ((lst t).take (i + 1))) := by
            show r = _
            rw [unhide HST, unhide HRV (by omega), unhide HV (by omega), hc]
            subst hcd
            rw [Nat.mod_eq_of_lt (by omega)]
          clear hbad hbf
          have HC := hide hcd
          clear hcd hd
          have fin : ∀ (Y : Int), Y = (a : Int) + (i : Int) + 1 → ((r : Int), Y, (0 : Int)) = (N, X, E) := by
            intro Y hY
            have h := unhide HR
            unfold ruT at h
            rw [unhide HX] at h
            simp only [if_true] at h
            rw [← h, unhide HFI, hY]
            simp
            omega
          have FIN := hide fin
          clear fin
          by_cases h9 : i = 9
          · have q1 : ((i : Int) == 9) = true := by simp; omega
            have q2 : ¬ 1 < (c : Int) := by omega
            have q3 : ((c : Int) == 0) = false := by simp; omega
            have q4 : 0 < (i : Int) := by omega
            clear hb1 h9
            go_wp2
            go_ret3
            have h := unhide FIN _ rfl
            simp only [Prod.mk.injEq] at h
            obtain ⟨e1, e2, e3⟩ := h
            subst e1 e2 e3
            exact ⟨rfl, rfl⟩
          · have q1 : ((i : Int) == 9) = false := by simp; omega
            by_cases h0 : i = 0
            · have q4 : ¬ 0 < (i : Int) := by omega
              clear hb1 h9 h0
              go_wp2
              go_ret3
              have h := unhide FIN _ rfl
              simp only [Prod.mk.injEq] at h
              obtain ⟨e1, e2, e3⟩ := h
              subst e1 e2 e3
              exact ⟨rfl, rfl⟩
            · have q3 : ((c : Int) == 0) = false := by simp; omega
              have q4 : 0 < (i : Int) := by omega
              clear hb1 h9 h0
              go_wp2
              go_ret3
              have h := unhide FIN _ rfl
              simp only [Prod.mk.injEq] at h
              obtain ⟨e1, e2, e3⟩ := h
              subst e1 e2 e3
              exact ⟨rfl, rfl⟩
    · have hltz : ¬ (i : Int) < (n : Int) := by omega
      have hin : i = n := by omega
      have hle := unhide HA
      have hal := ahd_le (lst t)
      rw [unhide HLL] at hal
      have hae : ahd (lst t) = n := by omega
      by_cases h10 : n < 10
      · have HX := hide (rdN_short (T := lst t) (by rw [unhide HLL]; omega) (by rw [unhide HLL]; exact hae) (by rw [unhide HLL]; exact h10))
        have h10z : (n : Int) < 10 := by omega
        clear hae hle hal hin
        go_wp2
        go_ret3
        have h := unhide HR
        unfold ruT at h
        rw [unhide HX] at h
        simp only [Prod.mk.injEq] at h
        obtain ⟨e1, e2, e3⟩ := h
        subst e1 e2 e3
        exact ⟨rfl, rfl⟩
      · have HX := hide (rdN_long (T := lst t) (by omega))
        have h10z : ¬ (n : Int) < 10 := by omega
        clear hae hle hal hin
        go_wp2
        go_ret3
        have h := unhide HR
        unfold ruT at h
        rw [unhide HX] at h
        simp only [Prod.mk.injEq] at h
        obtain ⟨e1, e2, e3⟩ := h
        subst e1 e2 e3
        exact ⟨rfl, rfl⟩
set_option maxHeartbeats 1000000 in
set_option maxRecDepth 100000 in
theorem read_many (s t : ByteArray) (a n : Nat) (w : World) (hs : s.size ≤ maxLen) (h : a < s.size) (ht : s.extract a s.size = t) (hn : s.size - a = n) (hts : t.size = n) (hm : ¬ (n : Int) ≤ 10) (N X E : Int) (HR : Hid (ruT (lst t) a = (N, X, E))) :
    Calls Tryz.prog 67 #[.string s, .int .i64 a] w fun e w' => e = .returned (.tuple #[.int .u64 N, .int .i64 X, .int .i64 E]) ∧ w' = w := by
  unfold maxLen at hs
  have hz : ¬ (s.size : Int) ≤ (a : Int) := by omega
  have hz2 : (a : Int) ≤ (s.size : Int) := by omega
  have HLL : Hid ((lst t).length = n) := (lst_len t).trans hts
  go_enter Tryz.func67, Tryz.ntmps67
  go_wp2
  go_loopw [4, 23] (fun s4 s23 wr => ∃ i : Nat, s23 = .int .i64 (i : Int) ∧ i ≤ 10 ∧ (∃ v : Nat, s4 = .int .u64 (v : Int) ∧ (v : Int) ≤ 18446744073709551615 ∧ Hid (i ≤ 9 → v = vL ((lst t).take i))) ∧ Hid (i ≤ ahd (lst t)) ∧ wr = w) (fun _ i _ => 10 - (intOf i).toNat)
  case atStart => exact ⟨0, rfl, by omega, ⟨0, rfl, by omega, fun _ => by simp [vL]⟩, Nat.zero_le _, rfl⟩
  case round =>
    obtain ⟨i, rfl, hi, ⟨v, rfl, hv, HV⟩, HA, rfl⟩ := hrel
    by_cases hlt : i < 10
    · have hltz : (i : Int) < 10 := by omega
      have hit : i < t.size := by omega
      have HG := hide (lst_get hit)
      obtain ⟨b, hb⟩ : ∃ b, t[i] = b := ⟨_, rfl⟩
      rw [hb] at HG
      obtain ⟨c, hc⟩ : ∃ c, b.toNat = c := ⟨_, rfl⟩
      have hc1 : c < 256 := by rw [← hc]; exact b.toNat_lt
      have hcz : (c : Int) ≤ 255 := by omega
      have hand := u8_127 hc1
      obtain ⟨d, hd⟩ : ∃ d, c % 128 = d := ⟨_, rfl⟩
      rw [hd] at hand
      have hd1 : d < 128 := by omega
      have hdz : (d : Int) ≤ 127 := by omega
      have HVL := hide (vL_take_lt (lst t) i (by rw [unhide HLL]; omega))
      have hv2 := unhide HV (by omega)
      obtain ⟨r, hor, hr, hrv⟩ := or_shift (i := i) (v := v) (d := d) (by rw [hv2]; exact unhide HVL) (by omega) hd1
      have HRV := hide hrv
      have HST := hide (vL_step (unhide HG))
      have hrz : (r : Int) ≤ 18446744073709551615 := by omega
      clear hrv hv2 HVL hr
      by_cases h128 : 128 ≤ c
      · have h128z : 128 ≤ (c : Int) := by omega
        have HD := hide hd
        clear hd
        go_wp2
        go_roundw
        case rel =>
          refine ⟨i + 1, by go_num, by omega, ⟨r, rfl, by omega, fun h9 => ?_⟩, ?_, (by first | rfl | trivial)⟩
          · rw [unhide HST, unhide HRV (.inl (by omega)), unhide HV (by omega), hc, unhide HD]
          · refine ahd_ge (by rw [unhide HLL]; omega) fun j y hj hy => ?_
            by_cases hji : j < i
            · exact ahd_hi hy (by have := unhide HA; omega)
            · have : j = i := by omega
              subst this
              have := (unhide HG).symm.trans hy
              injection this with this
              rw [← this, hc]
              exact h128
        case measure => simp [intOf]; omega
      · have h128z : ¬ 128 ≤ (c : Int) := by omega
        have hcd : c = d := by omega
        have HEQ := hide (ahd_eq (unhide HA) (unhide HG) (by rw [hc]; omega))
        by_cases hbad : bad i c = true
        · have HX := hide (rdN_form (unhide HEQ) (unhide HG) (by omega) (by rw [hc]; exact hbad))
          have hbad2 : (i = 9 ∧ 1 < c) ∨ (0 < i ∧ c = 0) := by unfold bad at hbad; simpa using hbad
          clear hbad
          subst hcd
          by_cases hp1 : i = 9 ∧ 1 < c
          · have q1 : ((i : Int) == 9) = true := by simp; omega
            have q2 : 1 < (c : Int) := by omega
            clear hbad2 hp1
            go_wp2
            go_ret3
            have h := unhide HR
            unfold ruT at h
            rw [unhide HX] at h
            simp only [Prod.mk.injEq] at h
            obtain ⟨e1, e2, e3⟩ := h
            subst e1 e2 e3
            exact ⟨rfl, rfl⟩
          · have q0 : 0 < i ∧ c = 0 := by omega
            obtain ⟨q1, q2⟩ := q0
            subst q2
            have q3 : 0 < (i : Int) := by omega
            clear hbad2 hp1
            go_wp2
            all_goals
              go_ret3
              have h := unhide HR
              unfold ruT at h
              rw [unhide HX] at h
              simp only [Prod.mk.injEq] at h
              obtain ⟨e1, e2, e3⟩ := h
              subst e1 e2 e3
              exact ⟨rfl, rfl⟩
        · have hbf : bad i c = false := by simpa using hbad
          have HX := hide (rdN_good (unhide HEQ) (unhide HG) (by omega) (by rw [hc]; exact hbf))
          have hb1 : ¬ (i = 9 ∧ 1 < c) ∧ ¬ (0 < i ∧ c = 0) := by
            unfold bad at hbf
            simp at hbf
            constructor
            · rintro ⟨x, y⟩; have := hbf.1 x; omega
            · rintro ⟨x, y⟩; exact hbf.2 x y
          have HFI : Hid (r = vL ((lst t).take (i + 1))) := by
            show r = _
            rw [unhide HST, unhide HRV (by omega), unhide HV (by omega), hc]
            subst hcd
            rw [Nat.mod_eq_of_lt (by omega)]
          clear hbad hbf
          have HC := hide hcd
          clear hcd hd
          have fin : ∀ (Y : Int), Y = (a : Int) + (i : Int) + 1 → ((r : Int), Y, (0 : Int)) = (N, X, E) := by
            intro Y hY
            have h := unhide HR
            unfold ruT at h
            rw [unhide HX] at h
            simp only [if_true] at h
            rw [← h, unhide HFI, hY]
            simp
            omega
          have FIN := hide fin
          clear fin
          by_cases h9 : i = 9
          · have q1 : ((i : Int) == 9) = true := by simp; omega
            have q2 : ¬ 1 < (c : Int) := by omega
            have q3 : ((c : Int) == 0) = false := by simp; omega
            have q4 : 0 < (i : Int) := by omega
            clear hb1 h9
            go_wp2
            go_ret3
            have h := unhide FIN _ rfl
            simp only [Prod.mk.injEq] at h
            obtain ⟨e1, e2, e3⟩ := h
            subst e1 e2 e3
            exact ⟨rfl, rfl⟩
          · have q1 : ((i : Int) == 9) = false := by simp; omega
            by_cases h0 : i = 0
            · have q4 : ¬ 0 < (i : Int) := by omega
              clear hb1 h9 h0
              go_wp2
              go_ret3
              have h := unhide FIN _ rfl
              simp only [Prod.mk.injEq] at h
              obtain ⟨e1, e2, e3⟩ := h
              subst e1 e2 e3
              exact ⟨rfl, rfl⟩
            · have q3 : ((c : Int) == 0) = false := by simp; omega
              have q4 : 0 < (i : Int) := by omega
              clear hb1 h9 h0
              go_wp2
              go_ret3
              have h := unhide FIN _ rfl
              simp only [Prod.mk.injEq] at h
              obtain ⟨e1, e2, e3⟩ := h
              subst e1 e2 e3
              exact ⟨rfl, rfl⟩
    · have hltz : ¬ (i : Int) < 10 := by omega
      have hin : i = 10 := by omega
      have hle := unhide HA
      have hal := ahd_le (lst t)
      rw [unhide HLL] at hal
      have HX := hide (rdN_long (T := lst t) (by omega))
      have h10z : ¬ (n : Int) < 10 := by omega
      clear hle hal hin
      go_wp2
      go_ret3
      have h := unhide HR
      unfold ruT at h
      rw [unhide HX] at h
      simp only [Prod.mk.injEq] at h
      obtain ⟨e1, e2, e3⟩ := h
      subst e1 e2 e3
      exact ⟨rfl, rfl⟩
theorem read_uint (s : ByteArray) (a : Nat) (w : World) (hs : s.size ≤ maxLen) (h : a < s.size) :
    Calls Tryz.prog 67 #[.string s, .int .i64 a] w fun e w' => e = .returned (.tuple #[.int .u64 (ruT ((lst s).drop a) a).1, .int .i64 (ruT ((lst s).drop a) a).2.1, .int .i64 (ruT ((lst s).drop a) a).2.2]) ∧ w' = w := by
  have hts : (s.extract a s.size).size = s.size - a := by rw [ByteArray.size_extract]; omega
  rw [← lst_drop]
  by_cases hm : ((s.size - a : Nat) : Int) ≤ 10
  · exact read_few s _ a _ w hs h rfl rfl hts hm _ _ _ rfl
  · exact read_many s _ a _ w hs h rfl rfl hts hm _ _ _ rfl
end Um
end Go.Proofs.YtohfhkdhccpoaaaGreatDoor
/- Layer 6: Frame, the program's; the laws' wakes. -/
namespace Go.Proofs.YtohfhkdhccpoaaaGreatDoor
open Go.RowKit
namespace Um

theorem u64_size {x : ByteArray} (h : x.size ≤ 255) : x.size < 18446744073709551616 := by omega
set_option maxHeartbeats 1000000 in
set_option maxRecDepth 100000 in
theorem frame_any (v0 : Value) (L : List ByteArray) (w : World) (hT : Txs w v0 L) (hN : L.length ≤ 1073741824) (A : ByteArray) (Ev : Int) (HA : Hid (frA L = A)) (HE : Hid (frE L = Ev)) :
    Calls Tryz.prog 116 #[v0] w fun e w' => e = .returned (.tuple #[.string A, .int .i64 Ev]) ∧ Below w.heap.size w w' := by
  obtain ⟨i0, hi0, hz0, hz1, hz2⟩ := info_parts infoB
  have HT := hide hT
  obtain ⟨a0, c0, rfl, hc0, -, H0⟩ := hT
  have HC := hide H0
  clear H0
  obtain ⟨n, hn⟩ : ∃ n, L.length = n := ⟨_, rfl⟩
  rw [hn] at hN hc0 HC ⊢
  have HN := hide hn
  clear hn
  go_enter Tryz.func116, Tryz.ntmps116
  go_wp2
  go_loopw [4, 12] (fun s4 s12 wr => ∃ (k S : Nat), s12 = .int .i64 (k : Int) ∧ k ≤ n ∧ s4 = .int .i64 (S : Int) ∧ S ≤ 257 * k ∧ Hid (S = (fk L k).length) ∧ Hid (∀ (j : Nat) x, j < k → L[j]? = some x → x.size ≤ 255) ∧ Hid (Below w.heap.size w wr)) (fun _ k _ => n - (intOf k).toNat)
  case atStart => exact ⟨0, 0, rfl, by omega, rfl, by omega, rfl, fun _ _ h => by omega, Below.refl _ _⟩
  case round =>
    obtain ⟨k, S, rfl, hk, rfl, hS, HS, HF, HB⟩ := hrel
    by_cases hlt : k < n
    · have hltz : (k : Int) < (n : Int) := by omega
      have hltN : k < L.length := by rw [unhide HN]; exact hlt
      obtain ⟨x, hx⟩ : ∃ x, L[k]? = some x := ⟨_, List.getElem?_eq_getElem hltN⟩
      obtain ⟨g, off, ea, hg, hc⟩ := unhide HC (by omega)
      subst ea
      have hcx : wr.cell? ⟨g, off + k, none⟩ = some (.string x) := ((unhide HB).cell (p := ⟨g, off + k, none⟩) hg).trans (hc k x hx)
      have HX := hide hx
      clear hc hx hltN
      by_cases h255 : x.size ≤ 255
      · have hxz : ¬ 255 < (x.size : Int) := by omega
        have HU := hide (fun W => uint_any x.size (u64_size h255) W)
        have HSU := hide (str_size (uL x.size))
        have HSL := hide (uL_len 1 x.size (by omega))
        have hqs := str_size (uL x.size)
        have hql := uL_len 1 x.size (by omega)
        obtain ⟨q, hq⟩ : ∃ q, (uL x.size).length = q := ⟨_, rfl⟩
        rw [hq] at hqs hql
        have HQ := hide hq
        clear hq HSU HSL
        generalize str (uL x.size) = U at *
        obtain ⟨y, hy⟩ : ∃ y, x.size = y := ⟨_, rfl⟩
        rw [hy] at h255 hxz HQ HU
        go_wp2_with (go_at_call 136; refine (unhide HU _).mono ?_; rintro e w1 ⟨rfl, hB1⟩; have HB1 := hide hB1; clear hB1)
        go_roundw
        case rel =>
          refine ⟨k + 1, S + (q + y), by go_num, by omega, by go_num, by omega, ?_, ?_, (unhide HB).trans ((unhide HB1).mono (unhide HB).size)⟩
          · show _ = _
            rw [fk_succ (unhide HX), List.length_append, List.length_append, hy, unhide HQ, lst_len, hy, ← unhide HS]
          · intro j z hj hz
            by_cases hjk : j < k
            · exact unhide HF j z hjk hz
            · have : j = k := by omega
              subst this
              have := (unhide HX).symm.trans hz
              injection this with this
              rw [← this, hy]
              exact h255
        case measure => simp [intOf]; omega
      · have hxz : 255 < (x.size : Int) := by omega
        go_wp2
        go_ret2
        have hf := fit_no (unhide HX) h255
        have e1 := unhide HA
        have e2 := unhide HE
        unfold frA at e1
        unfold frE at e2
        rw [hf] at e1 e2
        simp at e1 e2
        subst e1 e2
        exact ⟨rfl, unhide HB⟩
    · have hltz : ¬ (k : Int) < (n : Int) := by omega
      have hkn : k = n := by omega
      subst hkn
      have HFI : Hid (fit (rl L) = true) := fit_yes fun j x hx => unhide HF j x (by rw [← unhide HN]; exact (List.getElem?_eq_some_iff.1 hx).1) hx
      obtain ⟨W0, hmk, hown0, hgr0⟩ := run_make_own wr w.heap.size 77 5 i0 (.int .u8 0) 1 Tryz.underlying77 hi0 hz0 hz1 .i64 .i64 S (by rw [hz2]; omega) (by unfold maxLen; omega) (unhide HB).size
      have HO0 := hide hown0
      have HB0 : Hid (Below w.heap.size w W0) := (unhide HB).grown hgr0 (unhide HB).size (fun j e => by cases e)
      clear hown0 hgr0
      go_wp2
      obtain ⟨wo, rfl⟩ : ∃ x : World, x = wr := ⟨_, rfl⟩
      go_loopw [7, 34] (fun s7 s34 wr => ∃ (j : Nat) (u : Value), u = s7 ∧ s34 = .int .i64 (j : Int) ∧ j ≤ k ∧ Hid (Own w.heap.size wr u (fk L j)) ∧ Hid (Below w.heap.size w wr)) (fun _ j _ => k - (intOf j).toNat)
      case atStart => exact ⟨0, _, rfl, rfl, by omega, unhide HO0, unhide HB0⟩
      case round =>
        obtain ⟨j, u, rfl, rfl, hj, HO, HBr⟩ := hrel
        by_cases hjk : j < k
        · have hjz : (j : Int) < (k : Int) := by omega
          have hltN : j < L.length := by rw [unhide HN]; exact hjk
          obtain ⟨x, hx⟩ : ∃ x, L[j]? = some x := ⟨_, List.getElem?_eq_getElem hltN⟩
          obtain ⟨g, off, ea, hg, hc⟩ := unhide HC (by omega)
          subst ea
          have hcx : wr.cell? ⟨g, off + j, none⟩ = some (.string x) := ((unhide HBr).cell (p := ⟨g, off + j, none⟩) hg).trans (hc j x hx)
          have h255 : x.size ≤ 255 := unhide HF j x hjk hx
          have HLE := hide (fk_len (L := L) j (by omega) (fun i y hi hy => unhide HF i y (by omega) hy))
          have HX := hide hx
          clear hc hx hltN
          have HU := hide (append_uint x.size (u64_size h255) (fk L j) w.heap.size u wr (by have := unhide HLE; omega) (unhide HO) (unhide HBr).size)
          obtain ⟨y, hy⟩ : ∃ y, x.size = y := ⟨_, rfl⟩
          have HY := hide hy
          rw [hy] at h255 HU
          go_wp2_with (first | (at_builtin; refine wpList_app _ rfl _ _ rfl _ _ _ _ rfl rfl (by exact unhide HAP) ?_) | (go_at_call 137; refine (unhide HU).mono ?_; rintro e w1 ⟨u1, rfl, hO1, hB1⟩; obtain ⟨u2, w2, hap, hO2, hgr2, -⟩ := append_str w1 u1 _ _ x 77 (Nat.le_trans (unhide HBr).size hB1.size) hO1 (by have := unhide HLE; have := uL_len 1 y (by omega); rw [List.length_append, hy]; omega); obtain ⟨a2, c2, rfl⟩ := row_slice hO2; have HO2 := hide hO2; have HB2 := hide (push0 hO1 ((unhide HBr).trans hB1) (Nat.le_refl _) hgr2); obtain ⟨a1, c1, rfl⟩ := own_slice hO1; rw [List.length_append] at hap HO2; have HAP := hide hap; clear hap hO1 hB1 hO2 hgr2))
          go_roundw
          case rel =>
            refine ⟨j + 1, _, rfl, by go_num, by omega, ?_, unhide HB2⟩
            show Own _ _ _ _
            rw [fk_succ (unhide HX), ← List.append_assoc]
            refine own_more ?_
            have h := unhide HO2
            rw [byteCells_byts] at h
            rw [lst_len, hy, List.length_append]
            rw [hy] at h
            exact h
          case measure => simp [intOf]; omega
        · have hjz : ¬ (j : Int) < (k : Int) := by omega
          have hjk2 : j = k := by omega
          subst hjk2
          have eA := fk_all (L := L) (k := j) (by rw [unhide HN]; exact Nat.le_refl _)
          rw [eA] at HO
          have hcv := conv_own (unhide HO)
          obtain ⟨a2, c2, rfl⟩ := own_slice (unhide HO)
          have e1 := unhide HA
          have e2 := unhide HE
          unfold frA at e1
          unfold frE at e2
          rw [unhide HFI] at e1 e2
          simp at e1 e2
          subst e1 e2
          go_wp2
          go_ret2
          exact ⟨rfl, unhide HBr⟩
theorem txs_lit2 (W : World) (x y : ByteArray) : Txs (W.alloc (.cells #[.string x, .string y] 9)) (.slice (some ⟨W.heap.size, 0, none⟩) 2 2) [x, y] := by
  refine ⟨_, 2, rfl, by simp, (fun h => by cases h), fun _ => ⟨W.heap.size, 0, rfl, by simp, fun j z hz => ?_⟩⟩
  rw [Nat.zero_add, World.cell?_alloc_at _ _ _ _ rfl]
  have hj := (List.getElem?_eq_some_iff.1 hz).1
  simp at hj
  match j, hj with
  | 0, _ => simp at hz; subst hz; rfl
  | 1, _ => simp at hz; subst hz; rfl
end Um
end Go.Proofs.YtohfhkdhccpoaaaGreatDoor
