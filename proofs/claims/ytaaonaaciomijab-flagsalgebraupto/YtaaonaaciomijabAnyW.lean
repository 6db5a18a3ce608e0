/- Contracts: slices.IndexFunc and slices.ContainsFunc with a set's own question, and Any of a set of flags. -/
import Derived.Test.YtaaonaaciomijabSetW
namespace Go.Proofs.Ytaaonaaciomijab
open Go.Sort Go.RowKit
namespace So

theorem any_take {F S : List Int} {k : Nat} {x : Int} (h : (F.take k).any (hasB S) = false) (hx : F[k]? = some x) (hn : hasB S x = false) : (F.take (k + 1)).any (hasB S) = false := by
  have hk : k < F.length := (List.getElem?_eq_some_iff.1 hx).1
  rw [List.take_succ_eq_append_getElem hk, (List.getElem?_eq_some_iff.1 hx).2, List.any_append, h]
  simp [hn]
theorem any_yes {F S : List Int} {k : Nat} {x : Int} (hx : F[k]? = some x) (hn : hasB S x = true) : F.any (hasB S) = true := List.any_eq_true.2 ⟨x, List.mem_of_getElem? hx, hn⟩

set_option maxRecDepth 100000 in
set_option maxHeartbeats 2000000 in
theorem index_any (v f : Value) (S F : List Int) (w : World) (hS : FArg w v S) (hF : FArg w f F) :
    Calls Try.prog 24 #[f, .func (.func 16) #[v] #[]] w fun e w' => ∃ r : Int, e = .returned (.int .i64 r) ∧ decide (0 ≤ r) = F.any (hasB S) ∧ w' = w := by
  have HH := hide (fun x => has_any v S x w hS)
  obtain ⟨ao, cap, rfl, hc, hm, _, hcell⟩ := hF
  have HC := hide hcell
  unfold maxLen at hm
  clear hcell hS
  generalize hn : F.length = n at *
  have HN := hide hn
  clear hn
  go_enter Try.func24, Try.ntmps24
  go_wp2
  go_loop [8] (fun i => ∃ k : Nat, i = .int .i64 k ∧ k ≤ n ∧ Hid ((F.take k).any (hasB S) = false)) (fun i => n - (intOf i).toNat)
  case atStart => exact ⟨0, rfl, Nat.zero_le _, by simp [Hid]⟩
  case round =>
    obtain ⟨k, rfl, hk, HT⟩ := hrel
    by_cases hlt : k < n
    · have hltz : (k : Int) < (n : Int) := by omega
      obtain ⟨x, hx⟩ : ∃ x, F[k]? = some x := ⟨_, List.getElem?_eq_getElem (by rw [unhide HN]; exact hlt)⟩
      obtain ⟨g, off, rfl, _, hcc⟩ := unhide HC (by omega)
      have hcx := hcc k x hx
      have HX := hide hx
      have HHX := hide (unhide HH x)
      clear hcc hx
      cases hb : hasB S x
      · rw [hb] at HHX
        have HT2 := hide (any_take (unhide HT) (unhide HX) hb)
        clear hb
        go_wp2_with (go_at_call 16; refine (unhide HHX).mono ?_; rintro e w1 ⟨rfl, hw1⟩; obtain rfl := hw1.symm)
        go_round
        case rel => exact ⟨k + 1, by go_num, by omega, HT2⟩
        case measure => simp [intOf]; omega
      · rw [hb] at HHX
        have HY := hide (any_yes (S := S) (unhide HX) hb)
        clear hb
        go_wp2_with (go_at_call 16; refine (unhide HHX).mono ?_; rintro e w1 ⟨rfl, hw1⟩; obtain rfl := hw1.symm)
        go_ret
        exact ⟨_, rfl, by rw [unhide HY]; simp, rfl⟩
    · obtain rfl : k = n := by omega
      have hltz : ¬ (k : Int) < (k : Int) := by omega
      have HF : Hid (F.any (hasB S) = false) := by
        have := unhide HT
        rw [← unhide HN, List.take_length] at this
        exact this
      go_wp2
      go_ret
      exact ⟨-1, rfl, by rw [unhide HF]; rfl, rfl⟩
set_option maxRecDepth 100000 in
set_option maxHeartbeats 2000000 in
theorem any_any (v f : Value) (S F : List Int) (w : World) (hS : FArg w v S) (hF : FArg w f F) :
    Calls Try.prog 11 #[v, f] w fun e w' => e = .returned (.bool (F.any (hasB S))) ∧ w' = w := by
  have HI := hide (index_any v f S F w hS hF)
  have HC : Hid (Calls Try.prog 19 #[f, .func (.func 16) #[v] #[]] w fun e w' => e = .returned (.bool (F.any (hasB S))) ∧ w' = w) := by
    clear hS hF
    generalize F.any (hasB S) = b at *
    show Calls _ _ _ _ _
    go_enter Try.func19, Try.ntmps19
    go_wp2_with (go_at_call 24; refine (unhide HI).mono ?_; rintro e w1 ⟨r, rfl, hr, hw1⟩; obtain rfl := hw1.symm; have HRB := hide hr; clear hr)
    go_ret
    exact ⟨by rw [← unhide HRB]; rfl, rfl⟩
  clear hS hF HI
  generalize F.any (hasB S) = b at *
  go_enter Try.func11, Try.ntmps11
  go_wp2_with (go_at_call 19; refine (unhide HC).mono ?_; rintro e w1 ⟨rfl, hw1⟩; obtain rfl := hw1.symm)
  go_ret
  exact ⟨rfl, rfl⟩
end So
end Go.Proofs.Ytaaonaaciomijab
