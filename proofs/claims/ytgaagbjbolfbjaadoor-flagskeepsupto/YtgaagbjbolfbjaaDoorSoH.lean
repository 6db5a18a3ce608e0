/- Contract: slices.siftDownOrdered and slices.heapSortOrdered at flags. -/
import Derived.Test.YtgaagbjbolfbjaaDoorSoA
import Derived.Sort.WalkB3
namespace Go.Proofs.YtgaagbjbolfbjaaDoor
open Go.Sort Go.RowKit
namespace So

set_option maxRecDepth 1000000 in
set_option maxHeartbeats 8000000 in
theorem sift_any (blk off cap len lo hi first : Nat) (d : Array Int) (w : World) (hlen : d.size = len) (hH : Holds encF w blk off d) (hblk : blk < w.heap.size) (hb : first + hi ≤ len) (hlo : lo ≤ hi) (hsz : len < 4611686018427387904) :
    Calls Tryd.prog 42 #[.slice (some ⟨blk, off, none⟩) len cap, .int .i64 lo, .int .i64 hi, .int .i64 first] w fun e w' =>
      e = .returned (.tuple #[]) ∧ At encF w blk off (siftDown ltInt hi first lo d) w' := by
  have HAT := hide (At.refl hH)
  have HH := hide hH
  clear hH
  go_enter Tryd.func42, Tryd.ntmps42
  go_wp2
  go_loopw [8] (fun vi wr => ∃ (r : Nat) (dk : Array Int), vi = .int .i64 r ∧ r ≤ hi ∧ dk.size = len ∧ Hid (At encF w blk off dk wr) ∧ Hid (siftDown ltInt hi first r dk = siftDown ltInt hi first lo d)) (fun vi _ => hi - (intOf vi).toNat)
  case atStart => exact ⟨lo, d, rfl, hlo, hlen, HAT, rfl⟩
  case round =>
    obtain ⟨r, dk, rfl, hr, hsk, HA, HE⟩ := hrel
    by_cases h1 : hi ≤ 2 * r + 1
    · have h1z : (hi : Int) ≤ 2 * (r : Int) + 1 := by omega
      have HD : Hid (dk = siftDown ltInt hi first lo d) := by rw [Hid, ← unhide HE, sd_end ltInt dk h1]
      go_wp2
      go_end0
      exact ⟨rfl, by rw [← unhide HD]; exact unhide HA⟩
    · have h1z : ¬ (hi : Int) ≤ 2 * (r : Int) + 1 := by omega
      obtain ⟨G, hG⟩ : ∃ G : Nat → Int, ∀ t, G t = dk[t]! := ⟨fun t => dk[t]!, fun _ => rfl⟩
      obtain ⟨hc, hf⟩ := at_cells (unhide HA) (unhide HH) (by omega) hblk hG
      rw [hlen] at hc hf
      have HG := hide hG
      clear hG
      have e1 : first + 2 * r + 1 = first + (2 * r + 1) := by omega
      have e2 : first + 2 * r + 2 = first + (2 * r + 2) := by omega
      have GOR : Hid (2 * r + 2 < hi → ltInt (G (first + 2 * r + 1)) (G (first + 2 * r + 2)) = true → ltInt (G (first + r)) (G (first + 2 * r + 2)) = true → siftDown ltInt hi first (2 * r + 2) (swp dk (first + r) (first + 2 * r + 2)) = siftDown ltInt hi first lo d) := fun h2 ha hb => by
        simp only [unhide HG, e1, e2] at ha hb
        rw [e2, ← unhide HE, sd_right_go ltInt dk h2 ha hb]
      have STR : Hid (2 * r + 2 < hi → ltInt (G (first + 2 * r + 1)) (G (first + 2 * r + 2)) = true → ltInt (G (first + r)) (G (first + 2 * r + 2)) = false → dk = siftDown ltInt hi first lo d) := fun h2 ha hb => by
        simp only [unhide HG, e1, e2] at ha hb
        rw [← unhide HE, sd_right_stop ltInt dk h2 ha hb]
      have GOL : Hid ((2 * r + 2 < hi → ltInt (G (first + 2 * r + 1)) (G (first + 2 * r + 2)) = false) → ltInt (G (first + r)) (G (first + 2 * r + 1)) = true → siftDown ltInt hi first (2 * r + 1) (swp dk (first + r) (first + 2 * r + 1)) = siftDown ltInt hi first lo d) := fun ha hb => by
        simp only [unhide HG, e1, e2] at ha hb
        rw [e1, ← unhide HE, sd_left_go ltInt dk (by omega) ha hb]
      have STL : Hid ((2 * r + 2 < hi → ltInt (G (first + 2 * r + 1)) (G (first + 2 * r + 2)) = false) → ltInt (G (first + r)) (G (first + 2 * r + 1)) = false → dk = siftDown ltInt hi first lo d) := fun ha hb => by
        simp only [unhide HG, e1, e2] at ha hb
        rw [← unhide HE, sd_left_stop ltInt dk (by omega) ha hb]
      clear e1 e2
      by_cases h2 : 2 * r + 2 < hi
      · have h2z : decide (2 * (r : Int) + 1 + 1 < (hi : Int)) = true := decide_eq_true (by omega)
        go_wp2
        go_quiet (first | (go_at_call 34; refine Calls.quiet_of_same (less_any _ _ _)))
        go_wp2
        · have ha : ltInt (G (first + 2 * r + 1)) (G (first + 2 * r + 2)) = true := by assumption
          have HA2 := hide (at_drewN (unhide HA) nq)
          have hc2 : ∀ t, t < len → (wr.drewN nq).cell? ⟨blk, off + t, none⟩ = some (.int .u16 (G t)) := hc
          have hf2 : ∀ t, t < len → (wr.drewN nq).frozen? ⟨blk, off + t, none⟩ = false := hf
          clear hc hf
          generalize wr.drewN nq = W at *
          go_quiet (first | (go_at_call 34; refine Calls.quiet_of_same (less_any _ _ _)))
          go_wp2
          · have hl : ltInt (G (first + r)) (G (first + 2 * r + 2)) = false := by
              have h : (!ltInt (G (first + r)) (G (first + 2 * r + 2))) = true := by assumption
              simpa using h
            (try simp only [Exit.inBlock, Exit.then]); refine bodyPost_ret (results_none rfl _ _ _) rfl ?_
            exact ⟨rfl, by rw [← unhide STR h2 ha hl]; exact at_drewN (unhide HA2) _⟩
          · have hl : ltInt (G (first + r)) (G (first + 2 * r + 2)) = true := by
              have h : (!ltInt (G (first + r)) (G (first + 2 * r + 2))) = false := by assumption
              simpa using h
            go_region
            all_goals go_wp2
            go_roundw
            case rel =>
              exact ⟨2 * r + 2, swp dk (first + r) (first + 2 * r + 2), by go_num, by omega, by rw [size_swp]; exact hsk, hide (at_swap (at_drewN (unhide HA2) _) (unhide HH) (by omega) hblk (by omega) (by omega) (by rw [unhide HG]) (by rw [unhide HG])), hide (unhide GOR h2 ha hl)⟩
            case measure => simp [intOf]; omega
        · have ha : ltInt (G (first + 2 * r + 1)) (G (first + 2 * r + 2)) = false := by assumption
          have HA2 := hide (at_drewN (unhide HA) nq)
          have hc2 : ∀ t, t < len → (wr.drewN nq).cell? ⟨blk, off + t, none⟩ = some (.int .u16 (G t)) := hc
          have hf2 : ∀ t, t < len → (wr.drewN nq).frozen? ⟨blk, off + t, none⟩ = false := hf
          clear hc hf
          generalize wr.drewN nq = W at *
          go_quiet (first | (go_at_call 34; refine Calls.quiet_of_same (less_any _ _ _)))
          go_wp2
          · have hl : ltInt (G (first + r)) (G (first + 2 * r + 1)) = false := by
              have h : (!ltInt (G (first + r)) (G (first + 2 * r + 1))) = true := by assumption
              simpa using h
            (try simp only [Exit.inBlock, Exit.then]); refine bodyPost_ret (results_none rfl _ _ _) rfl ?_
            exact ⟨rfl, by rw [← unhide STL (fun _ => ha) hl]; exact at_drewN (unhide HA2) _⟩
          · have hl : ltInt (G (first + r)) (G (first + 2 * r + 1)) = true := by
              have h : (!ltInt (G (first + r)) (G (first + 2 * r + 1))) = false := by assumption
              simpa using h
            go_region
            all_goals go_wp2
            go_roundw
            case rel =>
              exact ⟨2 * r + 1, swp dk (first + r) (first + 2 * r + 1), by go_num, by omega, by rw [size_swp]; exact hsk, hide (at_swap (at_drewN (unhide HA2) _) (unhide HH) (by omega) hblk (by omega) (by omega) (by rw [unhide HG]) (by rw [unhide HG])), hide (unhide GOL (fun _ => ha) hl)⟩
            case measure => simp [intOf]; omega
      · have h2z : decide (2 * (r : Int) + 1 + 1 < (hi : Int)) = false := decide_eq_false (by omega)
        go_wp2
        go_quiet (first | (go_at_call 34; refine Calls.quiet_of_same (less_any _ _ _)))
        go_wp2
        have HA2 := hide (at_drewN (unhide HA) nq)
        have hc2 : ∀ t, t < len → (wr.drewN nq).cell? ⟨blk, off + t, none⟩ = some (.int .u16 (G t)) := hc
        have hf2 : ∀ t, t < len → (wr.drewN nq).frozen? ⟨blk, off + t, none⟩ = false := hf
        clear hc hf
        generalize wr.drewN nq = W at *
        go_quiet (first | (go_at_call 34; refine Calls.quiet_of_same (less_any _ _ _)))
        go_wp2
        · have hl : ltInt (G (first + r)) (G (first + 2 * r + 1)) = false := by
            have h : (!ltInt (G (first + r)) (G (first + 2 * r + 1))) = true := by assumption
            simpa using h
          (try simp only [Exit.inBlock, Exit.then]); refine bodyPost_ret (results_none rfl _ _ _) rfl ?_
          exact ⟨rfl, by rw [← unhide STL (fun h => absurd h h2) hl]; exact at_drewN (unhide HA2) _⟩
        · have hl : ltInt (G (first + r)) (G (first + 2 * r + 1)) = true := by
            have h : (!ltInt (G (first + r)) (G (first + 2 * r + 1))) = false := by assumption
            simpa using h
          go_region
          all_goals go_wp2
          go_roundw
          case rel =>
            exact ⟨2 * r + 1, swp dk (first + r) (first + 2 * r + 1), by go_num, by omega, by rw [size_swp]; exact hsk, hide (at_swap (at_drewN (unhide HA2) _) (unhide HH) (by omega) hblk (by omega) (by omega) (by rw [unhide HG]) (by rw [unhide HG])), hide (unhide GOL (fun h => absurd h h2) hl)⟩
          case measure => simp [intOf]; omega
end So
end Go.Proofs.YtgaagbjbolfbjaaDoor
