/- Plain mathematics of decimal numerals: no program is named here. -/
import Derived.Lib.ItoaNum
import Derived.Test.YtaaonaaciomijaaDoorNum
namespace Go.Proofs.YtaaonaaciomijaaDoor.Dec

def low (u : Nat) : List UInt8 := if u = 0 then [] else (Lib.decDigits u).reverse
theorem low_zero : low 0 = [] := rfl
theorem low_pos {u : Nat} (h : 0 < u) : low u = UInt8.ofNat (48 + u % 10) :: low (u / 10) := by
  unfold low
  rw [if_neg (by omega), Lib.decDigits]
  by_cases h10 : u < 10
  · rw [dif_pos h10, if_pos (by omega), Nat.mod_eq_of_lt h10]; rfl
  · rw [dif_neg h10, if_neg (by omega)]; simp
theorem nDigits_le : ∀ (k u : Nat), u < 10 ^ (k + 1) → Lib.nDigits u ≤ k + 1
  | 0, u, h => by rw [Lib.nDigits_small (by simpa using h)]; exact Nat.le_refl _
  | k + 1, u, h => by
    by_cases h10 : u < 10
    · rw [Lib.nDigits_small h10]; omega
    · rw [Lib.nDigits_big h10]
      rw [Nat.pow_succ] at h
      have := nDigits_le k (u / 10) (by omega)
      omega
theorem low_len {u : Nat} (h : u ≤ 9223372036854775808) : (low u).length ≤ 19 := by
  unfold low
  split
  · simp
  · rw [List.length_reverse, Lib.decDigits_length]
    exact nDigits_le 18 u (Nat.lt_of_le_of_lt h (by decide))
theorem low_rev {u : Nat} (h : 0 < u) : (low u).reverse = Lib.decDigits u := by
  unfold low
  rw [if_neg (by omega), List.reverse_reverse]
theorem step {u r : Nat} {D : List UInt8} (h : D ++ low r = low u) (hr : 0 < r) : (D ++ [UInt8.ofNat (48 + r % 10)]) ++ low (r / 10) = low u := by
  rw [← h, low_pos hr]; simp
theorem len_of {u r : Nat} {D : List UInt8} (h : D ++ low r = low u) (hu : u ≤ 9223372036854775808) : D.length ≤ 19 := by
  have := congrArg List.length h
  have h2 := low_len hu
  simp at this
  omega
theorem byte_of (d : Nat) (h : d < 10) : ((UInt8.ofNat (48 + d)).toNat : Int) = 48 + (d : Int) := by
  rw [UInt8.toNat_ofNat']
  omega
theorem drop_rev (L : List UInt8) (k : Nat) (h : k < L.length) : (L.drop k).reverse = (L.drop (k + 1)).reverse ++ [L[k]] := by
  rw [List.drop_eq_getElem_cons h]; simp

/-! what Number reads of a numeral -/
theorem numVal_dec (u : Nat) : Num.numVal (Lib.decDigits u) = u := by
  induction u using Nat.strongRecOn with
  | _ u ih =>
    rw [Lib.decDigits]
    by_cases h : u < 10
    · rw [dif_pos h]
      have e := byte_of u h
      have e2 : (UInt8.ofNat (48 + u)).toNat = 48 + u := by omega
      simp only [Num.numVal, List.foldl_cons, List.foldl_nil, e2]
      omega
    · rw [dif_neg h, Num.numVal_snoc, ih (u / 10) (by omega)]
      have e := byte_of (u % 10) (by omega)
      have e2 : (UInt8.ofNat (48 + u % 10)).toNat = 48 + u % 10 := by omega
      rw [e2]
      omega
theorem isDig_byte (d : Nat) (h : d < 10) : Num.isDig (UInt8.ofNat (48 + d)) = true := by
  have := byte_of d h
  exact Num.isDig_of _ (by omega) (by omega)
theorem all_dec (u : Nat) : (Lib.decDigits u).all Num.isDig = true := by
  induction u using Nat.strongRecOn with
  | _ u ih =>
    rw [Lib.decDigits]
    by_cases h : u < 10
    · rw [dif_pos h, List.all_cons, isDig_byte u h]; rfl
    · rw [dif_neg h, List.all_append, ih (u / 10) (by omega), List.all_cons, isDig_byte (u % 10) (by omega)]; rfl
theorem head_dec (u : Nat) (h : 0 < u) : ∃ c t, Lib.decDigits u = c :: t ∧ c ≠ 48 := by
  induction u using Nat.strongRecOn with
  | _ u ih =>
    rw [Lib.decDigits]
    by_cases h10 : u < 10
    · rw [dif_pos h10]
      refine ⟨_, [], rfl, fun e => ?_⟩
      have := byte_of u h10
      rw [e] at this
      have : ((48 : UInt8).toNat : Int) = 48 := rfl
      omega
    · rw [dif_neg h10]
      obtain ⟨c, t, e, hc⟩ := ih (u / 10) (by omega) (by omega)
      rw [e]
      exact ⟨c, _, rfl, hc⟩
theorem lead_dec (u : Nat) : Num.lead (Lib.decDigits u) = false := by
  by_cases h : 0 < u
  · obtain ⟨c, t, e, hc⟩ := head_dec u h
    simp [Num.lead, e, hc]
  · have : u = 0 := by omega
    subst this
    rw [Lib.decDigits_one (by decide)]
    decide
theorem nonempty_dec (u : Nat) : (Lib.decDigits u).isEmpty = false := by
  by_cases h : 0 < u
  · obtain ⟨c, t, e, _⟩ := head_dec u h
    simp [e]
  · have : u = 0 := by omega
    subst this
    rw [Lib.decDigits_one (by decide)]
    decide
theorem good_itoa (n most : Int) : Num.good (Lib.itoa n) most = (decide (0 ≤ n) && decide (n ≤ most)) := by
  unfold Lib.itoa
  by_cases h : n < 0
  · rw [if_pos h]
    have h0 : decide (0 ≤ n) = false := by simp; omega
    have : (45 :: Lib.decDigits n.natAbs).all Num.isDig = false := by simp [Num.isDig]
    simp [Num.good, this, h0]
  · rw [if_neg h]
    have h0 : decide (0 ≤ n) = true := by simp; omega
    have h1 : ((Num.numVal (Lib.decDigits n.toNat) : Nat) : Int) = n := by rw [numVal_dec]; omega
    simp only [Num.good, nonempty_dec, lead_dec, all_dec, h0, h1]; rfl
theorem numN_itoa (n most : Int) (h0 : 0 ≤ n) (h1 : n ≤ most) : Num.numN (Lib.itoa n) most = n := by
  have hg : Num.good (Lib.itoa n) most = true := by rw [good_itoa]; simp [h0, h1]
  rw [Num.numN_good hg]
  unfold Lib.itoa
  rw [if_neg (by omega), numVal_dec]
  omega
theorem itoa_len (n : Int) (h0 : -9223372036854775808 ≤ n) (h1 : n ≤ 9223372036854775807) : (Lib.itoa n).length ≤ 20 := by
  unfold Lib.itoa
  split
  · have := nDigits_le 18 n.natAbs (Nat.lt_of_le_of_lt (show n.natAbs ≤ 9223372036854775808 by omega) (by decide))
    rw [List.length_cons, Lib.decDigits_length]; omega
  · have := nDigits_le 18 n.toNat (Nat.lt_of_le_of_lt (show n.toNat ≤ 9223372036854775808 by omega) (by decide))
    rw [Lib.decDigits_length]; omega
end Go.Proofs.YtaaonaaciomijaaDoor.Dec
