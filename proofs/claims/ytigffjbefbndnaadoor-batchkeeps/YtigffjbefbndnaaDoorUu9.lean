/- Layer 6: unframeOne and Unframe, the program's. -/
import Derived.Test.YtigffjbefbndnaaDoorUt
import Derived.Test.YtigffjbefbndnaaDoorUq
namespace Go.Proofs.YtigffjbefbndnaaDoor
open Go.RowKit
namespace Um

theorem read_zero (s : ByteArray) (w : World) (hs : s.size ≤ maxLen) :
    Calls Tryd.prog 41 #[.string s, .int .i64 0] w fun e w' => e = .returned (.tuple #[.int .u64 (rdN (lst s)).1, .int .i64 (rdN (lst s)).2.1, .int .i64 (rdN (lst s)).2.2]) ∧ w' = w := by
  by_cases h : s.size = 0
  · have e : lst s = [] := List.eq_nil_of_length_eq_zero (by rw [lst_len]; exact h)
    rw [e]
    exact read_off s 0 w (by omega)
  · have h1 := read_uint s 0 w hs (by omega)
    unfold ruT at h1
    rw [List.drop_zero] at h1
    by_cases he : (rdN (lst s)).2.2 = 0
    · rw [if_pos he] at h1
      simpa using h1
    · rw [if_neg he] at h1
      have : (rdN (lst s)).2.1 = 0 := (rdN_err he).2
      rw [this]
      exact h1
theorem rest_size {s : ByteArray} {q : Nat} : (lst (s.extract q s.size)) = (lst s).drop q := lst_drop s q
set_option maxRecDepth 100000 in
set_option maxHeartbeats 1000000 in
theorem unframe_one (s : ByteArray) (w : World) (hs : s.size ≤ 140737488355328) :
    Calls Tryd.prog 25 #[.string s] w fun e w' => e = .returned (.tuple #[.string (str (un1 (lst s)).2.1), .string (str (un1 (lst s)).2.2), .int .i64 (un1 (lst s)).1]) ∧ Below w.heap.size w w' := by
  have HR := hide (read_zero s w (by unfold maxLen; omega))
  have HNIL : str [] = ⟨#[]⟩ := rfl
  unfold un1
  by_cases h1 : (rdN (lst s)).2.2 ≠ 0
  · rw [if_pos h1]
    simp only [HNIL]
    obtain ⟨E, hE⟩ : ∃ E, (rdN (lst s)).2.2 = E := ⟨_, rfl⟩
    rw [hE] at h1 HR ⊢
    have hEb : ((E : Int) == 0) = false := by simp; omega
    generalize (rdN (lst s)).1 = N at *
    generalize (rdN (lst s)).2.1 = X at *
    clear hE
    go_enter Tryd.func25, Tryd.ntmps25
    go_wp2_with (go_at_call 41; refine (unhide HR).mono ?_; rintro e w3 ⟨rfl, hw3⟩; subst hw3)
    go_ret3
    exact ⟨rfl, Below.refl _ _⟩
  · have h0 : (rdN (lst s)).2.2 = 0 := by simpa using h1
    obtain ⟨k1, k2, k3, k4, k5, k6⟩ := rdN_ok h0
    rw [if_neg h1]
    rw [h0] at HR
    have hXs : (rdN (lst s)).2.1 ≤ s.size := by rw [← lst_len]; omega
    obtain ⟨N, hN⟩ : ∃ N, (rdN (lst s)).1 = N := ⟨_, rfl⟩
    obtain ⟨X, hX⟩ : ∃ X, (rdN (lst s)).2.1 = X := ⟨_, rfl⟩
    rw [hN] at k6 HR ⊢
    rw [hX] at hXs HR ⊢
    clear h0 h1 k1 k2 k3 k4 k5 hN hX
    have hXz : (X : Int) ≤ s.size := by omega
    have hNz : (N : Int) ≤ 18446744073709551615 := by omega
    by_cases h2 : 255 < N
    · rw [if_pos h2]
      simp only [HNIL]
      have h2z : 255 < (N : Int) := by omega
      go_enter Tryd.func25, Tryd.ntmps25
      go_wp2_with (go_at_call 41; refine (unhide HR).mono ?_; rintro e w3 ⟨rfl, hw3⟩; subst hw3)
      go_ret3
      exact ⟨rfl, Below.refl _ _⟩
    · rw [if_neg h2]
      have h2z : ¬ 255 < (N : Int) := by omega
      obtain ⟨t, ht⟩ : ∃ t, s.extract X s.size = t := ⟨_, rfl⟩
      have htl : (lst s).drop X = lst t := by rw [← lst_drop, ht]
      have hts : s.size - X = t.size := by rw [← ht, ByteArray.size_extract]; omega
      rw [htl, lst_len]
      by_cases h3 : t.size < N
      · rw [if_pos h3]
        simp only [HNIL]
        have h3z : ((s.size - X : Nat) : Int) < (N : Int) := by omega
        have h3y : (t.size : Int) < (N : Int) := by omega
        go_enter Tryd.func25, Tryd.ntmps25
        go_wp2_with (go_at_call 41; refine (unhide HR).mono ?_; rintro e w3 ⟨rfl, hw3⟩; subst hw3)
        go_ret3
        exact ⟨rfl, Below.refl _ _⟩
      · rw [if_neg h3]
        have h3z : ¬ ((s.size - X : Nat) : Int) < (N : Int) := by omega
        have h3y : ¬ (t.size : Int) < (N : Int) := by omega
        have h3x : (N : Int) ≤ (t.size : Int) := by omega
        have e1 : t.extract 0 N = str ((lst t).take N) := by rw [extract_str]; simp [lst]
        have e2 : t.extract N t.size = str ((lst t).drop N) := by rw [← lst_drop]; rfl
        simp only
        generalize str ((lst t).take N) = P at *
        generalize str ((lst t).drop N) = Q at *
        clear htl
        go_enter Tryd.func25, Tryd.ntmps25
        go_wp2_with (go_at_call 41; refine (unhide HR).mono ?_; rintro e w3 ⟨rfl, hw3⟩; subst hw3)
        go_quiet (fail)
        go_wp2
        go_ret3
        exact ⟨rfl, below_drewN (Below.refl _ _) _⟩
end Um
end Go.Proofs.YtigffjbefbndnaaDoor
