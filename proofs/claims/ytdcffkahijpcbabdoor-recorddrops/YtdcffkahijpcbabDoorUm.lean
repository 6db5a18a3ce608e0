/- Layer 6, the plain part: numbers in their one form, and frames. No walk. -/
import Derived.Test.YtdcffkahijpcbabDoorChecked
import Derived.WalkKit
namespace Go.Proofs.YtdcffkahijpcbabDoor
open Go.RowKit
namespace Um

def Hid (p : Prop) : Prop := p
theorem hide {p : Prop} (h : p) : Hid p := h
theorem unhide {p : Prop} (h : Hid p) : p := h

/-- the one form of a number -/
def uL (n : Nat) : List UInt8 := if n < 128 then [UInt8.ofNat n] else UInt8.ofNat (n % 128 + 128) :: uL (n / 128)
termination_by n
decreasing_by omega
theorem uL_small {n : Nat} (h : n < 128) : uL n = [UInt8.ofNat n] := by rw [uL, if_pos h]
theorem uL_big {n : Nat} (h : ¬ n < 128) : uL n = UInt8.ofNat (n % 128 + 128) :: uL (n / 128) := by rw [uL, if_neg h]
theorem uL_len : ∀ (k n : Nat), n < 128 ^ (k + 1) → (uL n).length ≤ k + 1
  | 0, n, h => by rw [uL_small (by simpa using h)]; simp
  | k + 1, n, h => by
    by_cases h1 : n < 128
    · rw [uL_small h1]; simp
    · rw [uL_big h1, List.length_cons]
      rw [Nat.pow_succ] at h
      have := uL_len k (n / 128) (by omega)
      omega
theorem uL_ten {n : Nat} (h : n < 18446744073709551616) : (uL n).length ≤ 10 := uL_len 9 n (Nat.lt_of_lt_of_le h (by decide))
theorem uL_pos (n : Nat) : 0 < (uL n).length := by
  by_cases h : n < 128
  · rw [uL_small h]; simp
  · rw [uL_big h]; simp
theorem ofNat_toNat {n : Nat} (h : n < 256) : (UInt8.ofNat n).toNat = n := by rw [UInt8.toNat_ofNat']; omega

/-- the number that such bytes tell -/
def vL : List UInt8 → Nat
  | [] => 0
  | b :: t => b.toNat % 128 + 128 * vL t
theorem vL_app (a b : List UInt8) : vL (a ++ b) = vL a + 128 ^ a.length * vL b := by
  induction a with
  | nil => simp [vL]
  | cons x t ih =>
    simp only [List.cons_append, vL, ih, List.length_cons, Nat.pow_succ, Nat.mul_add]
    rw [Nat.mul_comm (128 ^ t.length) 128, Nat.mul_assoc]
    omega
theorem vL_lt (a : List UInt8) : vL a < 128 ^ a.length := by
  induction a with
  | nil => simp [vL]
  | cons x t ih =>
    simp only [vL, List.length_cons, Nat.pow_succ]
    have := Nat.mod_lt x.toNat (show 0 < 128 by decide)
    omega
theorem vL_uL (n : Nat) : vL (uL n) = n := by
  induction n using Nat.strongRecOn with
  | _ n ih =>
    by_cases h : n < 128
    · rw [uL_small h]; simp only [vL]; rw [ofNat_toNat (by omega)]; omega
    · rw [uL_big h]; simp only [vL]; rw [ih (n / 128) (by omega), ofNat_toNat (by omega)]; omega
def hi (b : UInt8) : Bool := decide (128 ≤ b.toNat)
/-- how many bytes lie ahead of the first one below 128 -/
def ahd (T : List UInt8) : Nat := (T.takeWhile hi).length
def bad (k b : Nat) : Bool := (decide (k = 9) && decide (1 < b)) || (decide (0 < k) && decide (b = 0))
/-- the number at the beginning, the bytes that it has, the fault -/
def rdN (T : List UInt8) : Nat × Nat × Nat :=
  if T = [] then (0, 0, 60)
  else if 10 ≤ ahd T then (0, 0, 61)
  else match T[ahd T]? with
    | none => (0, 0, 60)
    | some b => if bad (ahd T) b.toNat then (0, 0, 61) else (vL (T.take (ahd T + 1)), ahd T + 1, 0)
theorem ahd_cons_hi {b : UInt8} {t : List UInt8} (h : 128 ≤ b.toNat) : ahd (b :: t) = ahd t + 1 := by
  have : hi b = true := by simp [hi, h]
  simp [ahd, this]
theorem ahd_cons_lo {b : UInt8} {t : List UInt8} (h : b.toNat < 128) : ahd (b :: t) = 0 := by
  have : hi b = false := by simp [hi]; omega
  simp [ahd, this]
theorem ahd_le (T : List UInt8) : ahd T ≤ T.length := by
  induction T with
  | nil => simp [ahd]
  | cons b t ih =>
    by_cases h : 128 ≤ b.toNat
    · rw [ahd_cons_hi h, List.length_cons]; omega
    · rw [ahd_cons_lo (by omega)]; omega
theorem ahd_hi {T : List UInt8} {j : Nat} {b : UInt8} (h : T[j]? = some b) (hj : j < ahd T) : 128 ≤ b.toNat := by
  induction T generalizing j with
  | nil => simp at h
  | cons x t ih =>
    by_cases hx : 128 ≤ x.toNat
    · rw [ahd_cons_hi hx] at hj
      cases j with
      | zero => simp at h; subst h; exact hx
      | succ j => simp at h; exact ih h (by omega)
    · rw [ahd_cons_lo (by omega)] at hj; omega
theorem ahd_lo {T : List UInt8} {b : UInt8} (h : T[ahd T]? = some b) : b.toNat < 128 := by
  induction T with
  | nil => simp at h
  | cons x t ih =>
    by_cases hx : 128 ≤ x.toNat
    · rw [ahd_cons_hi hx] at h; simp at h; exact ih h
    · rw [ahd_cons_lo (by omega)] at h; simp at h; subst h; omega
/-- all ahead of the place i are great: i is no farther than the first small one -/
theorem ahd_ge {T : List UInt8} {i : Nat} (hi : i ≤ T.length) (h : ∀ j b, j < i → T[j]? = some b → 128 ≤ b.toNat) : i ≤ ahd T := by
  induction T generalizing i with
  | nil => simp at hi; omega
  | cons x t ih =>
    cases i with
    | zero => omega
    | succ i =>
      have hx := h 0 x (by omega) (by simp)
      rw [ahd_cons_hi hx]
      have := ih (i := i) (by simp at hi; omega) (fun j b hj hb => h (j + 1) b (by omega) (by simpa using hb))
      omega
theorem ahd_eq {T : List UInt8} {i : Nat} {b : UInt8} (hi : i ≤ ahd T) (h : T[i]? = some b) (hb : b.toNat < 128) : ahd T = i := by
  by_cases e : i < ahd T
  · have := ahd_hi h e; omega
  · omega
/-! there and back -/
theorem ahd_uL (n : Nat) (S : List UInt8) : ahd (uL n ++ S) + 1 = (uL n).length := by
  induction n using Nat.strongRecOn with
  | _ n ih =>
    by_cases h : n < 128
    · rw [uL_small h]
      have : (UInt8.ofNat n).toNat < 128 := by rw [ofNat_toNat (by omega)]; exact h
      simp only [List.cons_append]
      rw [ahd_cons_lo this]; rfl
    · rw [uL_big h]
      have : 128 ≤ (UInt8.ofNat (n % 128 + 128)).toNat := by rw [ofNat_toNat (by omega)]; omega
      simp only [List.cons_append, List.length_cons]
      rw [ahd_cons_hi this, ih (n / 128) (by omega)]
/-- the last byte of a number's form -/
theorem uL_last (n : Nat) : ∃ b : UInt8, (uL n)[(uL n).length - 1]? = some b ∧ ((uL n).length ≠ 1 → 0 < b.toNat) ∧ (∀ k, n < 2 * 128 ^ k → (uL n).length = k + 1 → b.toNat ≤ 1) := by
  induction n using Nat.strongRecOn with
  | _ n ih =>
    by_cases h : n < 128
    · rw [uL_small h]
      refine ⟨_, rfl, fun e => by simp at e, fun k hk e => ?_⟩
      simp at e
      subst e
      rw [ofNat_toNat (by omega)]
      simp at hk
      omega
    · rw [uL_big h]
      obtain ⟨b, h1, h2, h3⟩ := ih (n / 128) (by omega)
      have hp := uL_pos (n / 128)
      refine ⟨b, ?_, fun _ => ?_, fun k hk e => ?_⟩
      · rw [List.length_cons, Nat.add_sub_cancel, show (uL (n / 128)).length = ((uL (n / 128)).length - 1) + 1 by omega, List.getElem?_cons_succ]
        exact h1
      · by_cases e : (uL (n / 128)).length = 1
        · by_cases h4 : n / 128 < 128
          · rw [uL_small h4] at h1
            simp at h1
            subst h1
            rw [ofNat_toNat (by omega)]
            omega
          · rw [uL_big h4, List.length_cons] at e
            have := uL_pos (n / 128 / 128)
            omega
        · exact h2 e
      · rw [List.length_cons] at e
        cases k with
        | zero => omega
        | succ k =>
          rw [Nat.pow_succ] at hk
          exact h3 k (by omega) (by omega)
theorem rdN_uL {n : Nat} (h : n < 18446744073709551616) (S : List UInt8) : rdN (uL n ++ S) = (n, (uL n).length, 0) := by
  have ha := ahd_uL n S
  have hp := uL_pos n
  have ht := uL_ten h
  obtain ⟨b, h1, h2, h3⟩ := uL_last n
  have hb : (uL n ++ S)[ahd (uL n ++ S)]? = some b := by
    rw [show ahd (uL n ++ S) = (uL n).length - 1 by omega, List.getElem?_append_left (by omega)]; exact h1
  unfold rdN
  rw [if_neg (by intro e; rw [List.append_eq_nil_iff] at e; rw [e.1] at hp; simp at hp), if_neg (by omega), hb]
  simp only
  have hbad : bad (ahd (uL n ++ S)) b.toNat = false := by
    unfold bad
    have h4 : ahd (uL n ++ S) = 9 → b.toNat ≤ 1 := fun e => h3 9 (Nat.lt_of_lt_of_le h (by decide)) (by omega)
    have h5 : 0 < ahd (uL n ++ S) → 0 < b.toNat := fun e => h2 (by omega)
    by_cases e9 : ahd (uL n ++ S) = 9
    · have := h4 e9; have := h5 (by omega); simp [e9]; omega
    · by_cases e0 : 0 < ahd (uL n ++ S)
      · have := h5 e0; simp [e9]; omega
      · simp [e9, e0]
  rw [if_neg (by simp [hbad]), show ahd (uL n ++ S) + 1 = (uL n).length from ha, List.take_left, vL_uL]
theorem vL_back : ∀ (T : List UInt8) (k : Nat) (b : UInt8), ahd T = k → T[k]? = some b → (0 < k → b.toNat ≠ 0) → uL (vL (T.take (k + 1))) = T.take (k + 1)
  | [], k, b, _, h, _ => by simp at h
  | x :: t, k, b, hk, h, h0 => by
    by_cases hx : 128 ≤ x.toNat
    · rw [ahd_cons_hi hx] at hk
      cases k with
      | zero => omega
      | succ k =>
        simp only [List.getElem?_cons_succ] at h
        have hv : uL (vL (t.take (k + 1))) = t.take (k + 1) := vL_back t k b (by omega) h (fun _ => h0 (by omega))
        have hlt := x.toNat_lt
        have hnz : 0 < vL (t.take (k + 1)) := by
          refine Nat.pos_of_ne_zero fun e => ?_
          rw [e] at hv
          rw [uL_small (by omega)] at hv
          have hl := congrArg List.length hv
          have hkt := (List.getElem?_eq_some_iff.1 h).1
          simp at hl
          have : k = 0 := by omega
          subst this
          rw [List.take_one] at hv
          cases t with
          | nil => simp at h
          | cons y t =>
            simp at h hv
            subst h
            exact h0 (by omega) (by rw [← hv]; rfl)
        rw [List.take_succ_cons]
        simp only [vL]
        rw [uL_big (by omega)]
        have e1 : (x.toNat % 128 + 128 * vL (t.take (k + 1))) % 128 + 128 = x.toNat := by omega
        have e2 : (x.toNat % 128 + 128 * vL (t.take (k + 1))) / 128 = vL (t.take (k + 1)) := by omega
        rw [e1, e2, hv]
        congr 1
        exact UInt8.toNat.inj (ofNat_toNat hlt)
    · rw [ahd_cons_lo (by omega)] at hk
      subst hk
      simp only [List.take_succ_cons, List.take_zero, vL]
      rw [uL_small (by omega)]
      congr 1
      refine UInt8.toNat.inj ?_
      rw [ofNat_toNat (by omega)]
      omega
theorem rdN_ok {T : List UInt8} (h : (rdN T).2.2 = 0) : (rdN T).2.1 = ahd T + 1 ∧ ahd T < 10 ∧ ahd T < T.length ∧ (rdN T).1 = vL (T.take (ahd T + 1)) ∧ uL (rdN T).1 = T.take (ahd T + 1) ∧ (rdN T).1 < 18446744073709551616 := by
  unfold rdN at h ⊢
  by_cases h0 : T = []
  · rw [if_pos h0] at h; simp at h
  rw [if_neg h0] at h ⊢
  by_cases h1 : 10 ≤ ahd T
  · rw [if_pos h1] at h; simp at h
  rw [if_neg h1] at h ⊢
  cases hb : T[ahd T]? with
  | none => rw [hb] at h; simp at h
  | some b =>
    rw [hb] at h
    simp only at h ⊢
    by_cases h2 : bad (ahd T) b.toNat = true
    · rw [if_pos h2] at h; simp at h
    · rw [if_neg h2]
      have hl := (List.getElem?_eq_some_iff.1 hb).1
      unfold bad at h2
      simp at h2
      refine ⟨rfl, by omega, hl, rfl, vL_back T _ b rfl hb (fun e e2 => h2.2 e (by rw [e2])), ?_⟩
      simp only
      by_cases h9 : ahd T = 9
      · have hb1 := h2.1 h9
        rw [h9] at hb
        have et : T.take 10 = T.take 9 ++ [b] := by rw [List.take_add_one, hb]; rfl
        rw [h9, et, vL_app]
        have := vL_lt (T.take 9)
        have e9 : (T.take 9).length = 9 := by rw [List.length_take]; omega
        rw [e9] at this ⊢
        simp only [vL]
        have e3 : (128 : Nat) ^ 9 = 9223372036854775808 := by decide
        rw [e3] at this ⊢
        have : b.toNat % 128 ≤ 1 := by omega
        omega
      · have := vL_lt (T.take (ahd T + 1))
        have e9 : (T.take (ahd T + 1)).length ≤ 9 := by rw [List.length_take]; omega
        have := Nat.pow_le_pow_right (show 0 < 128 by decide) e9
        have e3 : (128 : Nat) ^ 9 = 9223372036854775808 := by decide
        omega
end Um
end Go.Proofs.YtdcffkahijpcbabDoor
