/- Layer 5: the document's Read. -/
import Derived.Test.YtdcffkahijpcbabDoorDe
namespace Go.Proofs.YtdcffkahijpcbabDoor
open Go.RowKit
namespace Rs
attribute [local go_sem ↓] cvB_as
set_option maxRecDepth 100000 in
set_option maxHeartbeats 1000000 in
theorem read_doc {w : World} {sb : Nat} {m : Sto} {F : Nat → Prop} {rv : Value} {sl : Nat → Value} (h : DIn w sb m F rv sl) (k a n : Int) (ha2 : a ≤ 9223372036854775807) (hn2 : n ≤ 9223372036854775807) :
    Calls Tryd.prog 35 #[.pointer (some ⟨sb, 0, none⟩), .int .i64 k, .int .i64 a, .int .i64 n] w fun e w' => e = .returned (.tuple #[.string (strB (rea m k a n).1), .int .i64 (rea m k a n).2]) ∧ w' = w := by
  obtain ⟨c0, c1, c2, c3, c4, fz⟩ := dcells h.sto
  rcases hl : look m.runs k with _ | r
  · have HP := hide (place_none h hl)
    have e : rea m k a n = ([], 3) := by unfold rea; rw [hl]
    rw [e]
    clear h e hl
    go_enter Tryd.func35, Tryd.ntmps35
    go_wp2_with (go_at_call 59; refine (unhide HP).mono ?_; rintro e w1 ⟨rfl, rfl⟩)
    go_ret2
    exact ⟨rfl, rfl⟩
  obtain ⟨i, hi, hn, hil⟩ := look_at_i hl
  have HP := hide (place_some h hi)
  rw [hn] at HP
  have hrow := h.txt r (List.mem_of_getElem? hi)
  have hlen : r.txt.length ≤ 67108864 := by have := tot_mem (look_mem hl).1; have := h.ok.used; have := h.ok.cap; omega
  obtain ⟨a0, c, ev⟩ := own_slice hrow
  obtain ⟨ao, cc, rfl, hat⟩ := h.at
  obtain ⟨g, rfl, hg, hF, hcl⟩ := hat (by omega)
  obtain ⟨-, q1, q2⟩ := hcl i r hi
  rw [ev] at q1 hrow
  have HRW := hide hrow
  have hiz : (i : Int) < (m.runs.length : Int) := by omega
  have hi0 : 0 ≤ (i : Int) := by omega
  have hin : ¬ (i : Int) < 0 := by omega
  clear hat hcl hi hn ev h c0 c1 c2 c3 fz
  cases hs : r.shut
  · have e : rea m k a n = ([], 5) := by unfold rea; rw [hl]; simp [hs]
    rw [e]
    rw [hs] at q2
    clear e hl hrow
    go_enter Tryd.func35, Tryd.ntmps35
    go_wp2_with (go_at_call 59; refine (unhide HP).mono ?_; rintro e w1 ⟨rfl, rfl⟩)
    go_ret2
    exact ⟨rfl, rfl⟩
  rw [hs] at q2
  by_cases hbad : a < 0 ∨ n < 0 ∨ a > r.txt.length ∨ n > r.txt.length - a
  · have e : rea m k a n = ([], 6) := by unfold rea; rw [hl]; simp only [hs, if_true]; rw [if_pos hbad]
    rw [e]
    clear e hl hrow hs HRW
    generalize r.txt.length = Z at *
    by_cases h1 : a < 0
    · clear hbad
      go_enter Tryd.func35, Tryd.ntmps35
      go_wp2_with (go_at_call 59; refine (unhide HP).mono ?_; rintro e w1 ⟨rfl, rfl⟩)
      go_ret2
      exact ⟨rfl, rfl⟩
    · by_cases h2 : n < 0
      · clear hbad
        go_enter Tryd.func35, Tryd.ntmps35
        go_wp2_with (go_at_call 59; refine (unhide HP).mono ?_; rintro e w1 ⟨rfl, rfl⟩)
        go_ret2
        exact ⟨rfl, rfl⟩
      · by_cases h3 : (Z : Int) < a
        · clear hbad
          go_enter Tryd.func35, Tryd.ntmps35
          go_wp2_with (go_at_call 59; refine (unhide HP).mono ?_; rintro e w1 ⟨rfl, rfl⟩)
          go_ret2
          exact ⟨rfl, rfl⟩
        · have h4 : (Z : Int) - a < n := by omega
          have h5 : 0 ≤ a := by omega
          have h6 : 0 ≤ n := by omega
          have h7 : a ≤ (Z : Int) := by omega
          clear hbad h1 h2 h3
          go_enter Tryd.func35, Tryd.ntmps35
          go_wp2_with (go_at_call 59; refine (unhide HP).mono ?_; rintro e w1 ⟨rfl, rfl⟩)
          go_ret2
          exact ⟨rfl, rfl⟩
  · have e : rea m k a n = ((r.txt.drop a.toNat).take n.toNat, 0) := by unfold rea; rw [hl]; simp only [hs, if_true]; rw [if_neg hbad]
    rw [e]
    obtain ⟨A, hA⟩ : ∃ A : Nat, a = (A : Int) := ⟨a.toNat, by omega⟩
    obtain ⟨N, hN⟩ : ∃ N : Nat, n = (N : Int) := ⟨n.toNat, by omega⟩
    subst hA hN
    have hAN : A + N ≤ r.txt.length := by omega
    have e1 : ((A : Int)).toNat = A := by omega
    have e2 : ((N : Int)).toNat = N := by omega
    rw [e1, e2]
    have hA2 : (A : Int) ≤ (r.txt.length : Int) := by omega
    have hN3 : (N : Int) ≤ (r.txt.length : Int) - (A : Int) := by omega
    have hAN2 : (A : Int) + (N : Int) ≤ (r.txt.length : Int) := by omega
    clear e hl hrow hs hbad e1 e2 ha2 hn2
    rcases a0 with _ | ⟨gt, o, sp⟩
    · have h0 : r.txt.length = 0 := by
        obtain ⟨_, ⟨_, e⟩ | ⟨g', cap', cur, e, _⟩⟩ := unhide HRW
        · exact e
        · cases e
      obtain rfl : A = 0 := by omega
      obtain rfl : N = 0 := by omega
      have ht : r.txt = [] := List.eq_nil_of_length_eq_zero h0
      rw [ht] at q1 ⊢
      have hcv := conv_none
      clear HRW hAN hA2 hN3 hAN2 h0 ht hlen
      go_enter Tryd.func35, Tryd.ntmps35
      go_wp2_with (go_at_call 59; refine (unhide HP).mono ?_; rintro e w1 ⟨rfl, rfl⟩)
      go_ret2
      exact ⟨rfl, rfl⟩
    · obtain ⟨rfl, rfl⟩ : o = 0 ∧ sp = none := by
        obtain ⟨_, ⟨e, _⟩ | ⟨g', cap', cur, e, _⟩⟩ := unhide HRW
        · cases e
        · injection e with e _ _
          injection e with e
          injection e with _ e1 e2
          exact ⟨e1, e2⟩
      have hcap : r.txt.length ≤ c := by
        obtain ⟨_, ⟨e, _⟩ | ⟨g', cap', cur, e, _, _, hx, _⟩⟩ := unhide HRW
        · cases e
        · injection e with _ _ e; omega
      by_cases hcA : c = A
      · obtain rfl : N = 0 := by omega
        have hcv : ∀ c, (cvB (.slice (some ⟨gt, 0, none⟩) 0 c)).run Tryd.prog w = .ok (.string (strB ((r.txt.drop A).take 0))) w := fun c => conv_row (unhide HRW) 0 0 c (by omega)
        subst hcA
        generalize ((r.txt.drop c).take 0) = T at *
        generalize r.txt.length = Z at *
        clear HRW
        go_enter Tryd.func35, Tryd.ntmps35
        go_wp2_with (go_at_call 59; refine (unhide HP).mono ?_; rintro e w1 ⟨rfl, rfl⟩)
        go_ret2
        exact ⟨rfl, rfl⟩
      · have hcv : ∀ c, (cvB (.slice (some ⟨gt, A, none⟩) N c)).run Tryd.prog w = .ok (.string (strB ((r.txt.drop A).take N))) w := fun c => conv_row (unhide HRW) A N c hAN
        have hcA2 : ¬ A = c := fun e => hcA e.symm
        have hcA3 : ¬ c - A = 0 := by omega
        generalize ((r.txt.drop A).take N) = T at *
        generalize r.txt.length = Z at *
        clear HRW
        go_enter Tryd.func35, Tryd.ntmps35
        go_wp2_with (go_at_call 59; refine (unhide HP).mono ?_; rintro e w1 ⟨rfl, rfl⟩)
        go_ret2
        exact ⟨rfl, rfl⟩
end Rs
end Go.Proofs.YtdcffkahijpcbabDoor
