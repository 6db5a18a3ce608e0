import Derived.Test.YtidhbhdcoanfcaaGreatDoorGq03
import Derived.Sort.WalkB3
set_option maxHeartbeats 8000000
set_option maxRecDepth 100000
namespace Go.Proofs.YtidhbhdcoanfcaaGreatDoor
open Go.Sort Go.RowKit
namespace So

set_option maxRecDepth 1000000 in
theorem sift_any (blk off cap len lo hi first : Nat) (d : Array Int) (w : World) (hlen : d.size = len) (hH : Holds encF w blk off d) (hblk : blk < w.heap.size) (hb : first + hi ≤ len) (hlo : lo ≤ hi) (hsz : len < 4611686018427387904) :
  Calls Tryz.prog 197 #[.slice (some ⟨blk, off, none⟩) len cap, .int .i64 lo, .int .i64 hi, .int .i64 first] w fun e w' =>
   e = .returned (.tuple #[]) ∧ At encF w blk off (siftDown ltInt hi first lo d) w' := by
 have HAT := hide (At.refl hH)
 have HH := hide hH
 clear hH
 go_enter Tryz.func197, Tryz.ntmps197
 go_wp2
 go_loopw [8] (fun vi wr => ∃ (r : Nat) (dk : Array Int), vi = .int .i64 r ∧ r ≤ hi ∧ dk.size = len ∧ Hid (At encF w blk off dk wr) ∧ Hid (siftDown ltInt hi first r dk = siftDown ltInt hi first lo d)) (fun vi _ => hi - (intOf vi).toNat)
 case atStart => exact ⟨lo, d, rfl, hlo, hlen, HAT, rfl⟩
 case round =>
  obtain ⟨r, dk, rfl, hr, hsk, HA, HE⟩ := hrel
  by_cases h1 : hi ≤ 2 * r + 1
  ·have h1z : (hi : Int) ≤ 2 * (r : Int) + 1 := by omega
   have HD : Hid (dk = siftDown ltInt hi first lo d) := by rw [Hid, ← unhide HE, sd_end ltInt dk h1]
   go_wp2
   go_end0
   exact ⟨rfl, by rw [← unhide HD]; exact unhide HA⟩
  ·have h1z : ¬ (hi : Int) ≤ 2 * (r : Int) + 1 := by omega
   obtain ⟨G, hG⟩ : ∃ G : Nat → Int, ∀ t, G t = dk[t]! := ⟨fun t => dk[t]!, fun _ => rfl⟩
   obtain ⟨hc, hf⟩ := at_cells (unhide HA) (unhide HH) (by omega) hblk hG
   rw [hlen] at hc hf
   have HG := hide hG
   clear hG
   have e1 : first + 2 * r + 1 = first + (2 * r + 1) := by omega
   have e2 : first + 2 * r + 2 = first + (2 * r + 2) := by omega
   have GOR : Hid (2 * r + 2 < hi → ltInt (G (first + 2 * r + 1)) (G (first + 2 * r + 2)) = true → ltInt (G (first + r)) (G (first + 2 * r + 2)) = true → siftDown ltInt hi first (2 * r + 2) (swp dk (first + r) (first + 2 * r + 2)) = siftDown ltInt hi first lo d) := fun h2 ha hb => by
    simp only [unhide HG, e1, e2] at ha hb
    rw [e2, ← unhide HE, sd_right_go ltInt dk h2 ha hb]
   have STR : Hid (2 * r + 2 < hi → ltInt (G (first + 2 * r + 1)) (G (first + 2 * r + 2)) = true → ltInt (G (first + r)) (G (first + 2 * r + 2)) = false → dk = siftDown ltInt hi first lo d) := fun h2 ha hb => by
    simp only [unhide HG, e1, e2] at ha hb
    rw [← unhide HE, sd_right_stop ltInt dk h2 ha hb]
   have GOL : Hid ((2 * r + 2 < hi → ltInt (G (first + 2 * r + 1)) (G (first + 2 * r + 2)) = false) → ltInt (G (first + r)) (G (first + 2 * r + 1)) = true → siftDown ltInt hi first (2 * r + 1) (swp dk (first + r) (first + 2 * r + 1)) = siftDown ltInt hi first lo d) := fun ha hb => by
    simp only [unhide HG, e1, e2] at ha hb
    rw [e1, ← unhide HE, sd_left_go ltInt dk (by omega) ha hb]
   have STL : Hid ((2 * r + 2 < hi → ltInt (G (first + 2 * r + 1)) (G (first + 2 * r + 2)) = false) → ltInt (G (first + r)) (G (first + 2 * r + 1)) = false → dk = siftDown ltInt hi first lo d) := fun ha hb => by
    simp only [unhide HG, e1, e2] at ha hb
    rw [← unhide HE, sd_left_stop ltInt dk (by omega) ha hb]
   clear e1 e2
   by_cases h2 : 2 * r + 2 < hi
   ·have h2z : decide (2 * (r : Int) + 1 + 1 < (hi : Int)) = true := decide_eq_true (by omega)
    go_wp2
    go_quiet (first | (go_at_call 184; refine Calls.quiet_of_same (less_any _ _ _)))
    go_wp2
    ·have ha : ltInt (G (first + 2 * r + 1)) (G (first + 2 * r + 2)) = true := by assumption
     have HA2 := hide (at_drewN (unhide HA) nq)
     have hc2 : ∀ t, t < len → (wr.drewN nq).cell? ⟨blk, off + t, none⟩ = some (.int .u16 (G t)) := hc
     have hf2 : ∀ t, t < len → (wr.drewN nq).frozen? ⟨blk, off + t, none⟩ = false := hf
     clear hc hf
     generalize wr.drewN nq = W at *
     go_quiet (first | (go_at_call 184; refine Calls.quiet_of_same (less_any _ _ _)))
     go_wp2
     ·have hl : ltInt (G (first + r)) (G (first + 2 * r + 2)) = false := by
       have h : (!ltInt (G (first + r)) (G (first + 2 * r + 2))) = true := by assumption
       simpa using h
      (try simp only [Exit.inBlock, Exit.then]); refine bodyPost_ret (results_none rfl _ _ _) rfl ?_
      exact ⟨rfl, by rw [← unhide STR h2 ha hl]; exact at_drewN (unhide HA2) _⟩
     ·have hl : ltInt (G (first + r)) (G (first + 2 * r + 2)) = true := by
       have h : (!ltInt (G (first + r)) (G (first + 2 * r + 2))) = false := by assumption
       simpa using h
      go_region
      all_goals go_wp2
      go_roundw
      case rel =>
       exact ⟨2 * r + 2, swp dk (first + r) (first + 2 * r + 2), by go_num, by omega, by rw [size_swp]; exact hsk, hide (at_swap (at_drewN (unhide HA2) _) (unhide HH) (by omega) hblk (by omega) (by omega) (by rw [unhide HG]) (by rw [unhide HG])), hide (unhide GOR h2 ha hl)⟩
      case measure => simp [intOf]; omega
    ·have ha : ltInt (G (first + 2 * r + 1)) (G (first + 2 * r + 2)) = false := by assumption
     have HA2 := hide (at_drewN (unhide HA) nq)
     have hc2 : ∀ t, t < len → (wr.drewN nq).cell? ⟨blk, off + t, none⟩ = some (.int .u16 (G t)) := hc
     have hf2 : ∀ t, t < len → (wr.drewN nq).frozen? ⟨blk, off + t, none⟩ = false := hf
     clear hc hf
     generalize wr.drewN nq = W at *
     go_quiet (first | (go_at_call 184; refine Calls.quiet_of_same (less_any _ _ _)))
     go_wp2
     ·have hl : ltInt (G (first + r)) (G (first + 2 * r + 1)) = false := by
       have h : (!ltInt (G (first + r)) (G (first + 2 * r + 1))) = true := by assumption
       simpa using h
      (try simp only [Exit.inBlock, Exit.then]); refine bodyPost_ret (results_none rfl _ _ _) rfl ?_
      exact ⟨rfl, by rw [← unhide STL (fun _ => ha) hl]; exact at_drewN (unhide HA2) _⟩
     ·have hl : ltInt (G (first + r)) (G (first + 2 * r + 1)) = true := by
       have h : (!ltInt (G (first + r)) (G (first + 2 * r + 1))) = false := by assumption
       simpa using h
      go_region
      all_goals go_wp2
      go_roundw
      case rel =>
       exact ⟨2 * r + 1, swp dk (first + r) (first + 2 * r + 1), by go_num, by omega, by rw [size_swp]; exact hsk, hide (at_swap (at_drewN (unhide HA2) _) (unhide HH) (by omega) hblk (by omega) (by omega) (by rw [unhide HG]) (by rw [unhide HG])), hide (unhide GOL (fun _ => ha) hl)⟩
      case measure => simp [intOf]; omega
   ·have h2z : decide (2 * (r : Int) + 1 + 1 < (hi : Int)) = false := decide_eq_false (by omega)
    go_wp2
    go_quiet (first | (go_at_call 184; refine Calls.quiet_of_same (less_any _ _ _)))
    go_wp2
    have HA2 := hide (at_drewN (unhide HA) nq)
    have hc2 : ∀ t, t < len → (wr.drewN nq).cell? ⟨blk, off + t, none⟩ = some (.int .u16 (G t)) := hc
    have hf2 : ∀ t, t < len → (wr.drewN nq).frozen? ⟨blk, off + t, none⟩ = false := hf
    clear hc hf
    generalize wr.drewN nq = W at *
    go_quiet (first | (go_at_call 184; refine Calls.quiet_of_same (less_any _ _ _)))
    go_wp2
    ·have hl : ltInt (G (first + r)) (G (first + 2 * r + 1)) = false := by
      have h : (!ltInt (G (first + r)) (G (first + 2 * r + 1))) = true := by assumption
      simpa using h
     (try simp only [Exit.inBlock, Exit.then]); refine bodyPost_ret (results_none rfl _ _ _) rfl ?_
     exact ⟨rfl, by rw [← unhide STL (fun h => absurd h h2) hl]; exact at_drewN (unhide HA2) _⟩
    ·have hl : ltInt (G (first + r)) (G (first + 2 * r + 1)) = true := by
      have h : (!ltInt (G (first + r)) (G (first + 2 * r + 1))) = false := by assumption
      simpa using h
     go_region
     all_goals go_wp2
     go_roundw
     case rel =>
      exact ⟨2 * r + 1, swp dk (first + r) (first + 2 * r + 1), by go_num, by omega, by rw [size_swp]; exact hsk, hide (at_swap (at_drewN (unhide HA2) _) (unhide HH) (by omega) hblk (by omega) (by omega) (by rw [unhide HG]) (by rw [unhide HG])), hide (unhide GOL (fun h => absurd h h2) hl)⟩
     case measure => simp [intOf]; omega

theorem half_of (n : Nat) : ((n : Int) - 1).tdiv 2 = (((n - 1) / 2 + 1 : Nat) : Int) - 1 := by
 have h := half_start (a := 0) (b := n) (Nat.zero_le _)
 have e : ((n : Int) - ((0 : Nat) : Int) - 1) = (n : Int) - 1 := by omega
 rw [e] at h
 simpa using h
set_option maxRecDepth 1000000 in
theorem heap_any (blk off cap len a b : Nat) (d : Array Int) (w : World) (hlen : d.size = len) (hH : Holds encF w blk off d) (hblk : blk < w.heap.size) (hab : a ≤ b) (hb : b ≤ len) (hsz : len < 4611686018427387904) :
  Calls Tryz.prog 179 #[.slice (some ⟨blk, off, none⟩) len cap, .int .i64 a, .int .i64 b] w fun e w' =>
   e = .returned (.tuple #[]) ∧ At encF w blk off (heapSort ltInt d a b) w' := by
 have HAT := hide (At.refl hH)
 have HH := hide hH
 clear hH
 obtain ⟨n, hn⟩ : ∃ n, n = b - a := ⟨_, rfl⟩
 have hnz : (b : Int) - (a : Int) = (n : Int) := by omega
 have hE : heapSort ltInt d a b = heapPop ltInt a n (heapBuild ltInt n a ((n - 1) / 2 + 1) d) := by rw [heapSort, hn]
 have hq := half_of n
 obtain ⟨m, hm⟩ : ∃ m, m = (n - 1) / 2 + 1 := ⟨_, rfl⟩
 rw [← hm] at hE hq
 have hmn : m ≤ n + 1 := by omega
 have HM := hide hm
 rw [hE]
 clear hE hm
 have han : a + n ≤ len := by omega
 have hnb : n ≤ b := by omega
 clear hn
 go_enter Tryz.func179, Tryz.ntmps179
 go_wp2
 go_loopw [9] (fun vi wr => ∃ (k : Nat) (dk : Array Int), vi = .int .i64 ((k : Int) - 1) ∧ k ≤ m ∧ dk.size = len ∧ Hid (At encF w blk off dk wr) ∧ Hid (heapBuild ltInt n a k dk = heapBuild ltInt n a m d)) (fun vi _ => (intOf vi + 1).toNat)
 case atStart => exact ⟨m, d, rfl, Nat.le_refl _, hlen, HAT, rfl⟩
 case round =>
  obtain ⟨k, dk, rfl, hk, hsk, HA, HE⟩ := hrel
  cases k with
  | zero =>
   have hz : ¬ (0 : Int) ≤ ((0 : Nat) : Int) - 1 := by omega
   have HD : Hid (dk = heapBuild ltInt n a m d) := by rw [Hid, ← unhide HE]; rfl
   have HA0 : Hid (At encF w blk off (heapBuild ltInt n a m d) wr) := by rw [Hid, ← unhide HD]; exact unhide HA
   have hs0 : (heapBuild ltInt n a m d).size = len := by rw [← unhide HD]; exact hsk
   clear HA HE HD hsk
   obtain ⟨D, hD⟩ : ∃ D, D = heapBuild ltInt n a m d := ⟨_, rfl⟩
   rw [← hD] at HA0 hs0
   have HDD := hide hD
   clear hD
   go_wp2
   obtain ⟨V, hV⟩ : ∃ V, V = wr := ⟨_, rfl⟩
   subst hV
   go_loopw [10] (fun vi wr => ∃ (k : Nat) (dk : Array Int), vi = .int .i64 ((k : Int) - 1) ∧ k ≤ n ∧ dk.size = len ∧ Hid (At encF w blk off dk wr) ∧ Hid (heapPop ltInt a k dk = heapPop ltInt a n D)) (fun vi _ => (intOf vi + 1).toNat)
   case atStart => exact ⟨n, D, rfl, Nat.le_refl _, hs0, HA0, rfl⟩
   case round =>
    obtain ⟨k, dk, rfl, hk, hsk, HA, HE⟩ := hrel
    cases k with
    | zero =>
     have hz : ¬ (0 : Int) ≤ ((0 : Nat) : Int) - 1 := by omega
     have HD : Hid (dk = heapPop ltInt a n D) := by rw [Hid, ← unhide HE]; rfl
     go_wp2
     go_end0
     exact ⟨rfl, by rw [← unhide HDD, ← unhide HD]; exact unhide HA⟩
    | succ k =>
     have hz : ((k + 1 : Nat) : Int) - 1 = (k : Int) := by omega
     rw [hz]
     obtain ⟨G, hG⟩ : ∃ G : Nat → Int, ∀ t, G t = dk[t]! := ⟨fun t => dk[t]!, fun _ => rfl⟩
     obtain ⟨hc, hf⟩ := at_cells (unhide HA) (unhide HH) (by omega) hblk hG
     rw [hlen] at hc hf
     have HG := hide hG
     clear hG
     have HS := hide (fun D1 W1 (h1 : D1.size = len) (h2 : Holds encF W1 blk off D1) (h3 : blk < W1.heap.size) => sift_any blk off cap len 0 k a D1 W1 h1 h2 h3 (by omega) (Nat.zero_le _) hsz)
     have HP : Hid (heapPop ltInt a k (siftDown ltInt k a 0 (swp dk a (a + k))) = heapPop ltInt a n D) := by rw [Hid, ← unhide HE]; rfl
     have HSW : Hid (∀ W1, At encF w blk off (swp dk a (a + k)) W1 → Calls Tryz.prog 197 #[.slice (some ⟨blk, off, none⟩) len cap, .int .i64 0, .int .i64 k, .int .i64 a] W1 fun e w' => e = .returned (.tuple #[]) ∧ At encF w blk off (siftDown ltInt k a 0 (swp dk a (a + k))) w') := fun W1 h => by
      have hs1 : (swp dk a (a + k)).size = len := by rw [size_swp]; exact hsk
      have h0 := h.holds (unhide HH) (by rw [hs1, hlen]) hblk
      refine (unhide HS _ W1 hs1 h0.1 h0.2).mono ?_
      rintro e w2 ⟨rfl, h2⟩
      exact ⟨rfl, h.stepG hblk (size_siftDown ltInt k a k 0 _ (by omega)) h2⟩
     have hs2 : (siftDown ltInt k a 0 (swp dk a (a + k))).size = len := by rw [size_siftDown ltInt k a k 0 _ (by omega), size_swp]; exact hsk
     generalize siftDown ltInt k a 0 (swp dk a (a + k)) = D2 at *
     clear HS
     cases k with
     | zero =>
      go_wp2_with fail
      go_region
      all_goals go_wp2_with (go_at_call 197; refine (unhide HSW _ (at_swap (at_drewN (unhide HA) 1) (unhide HH) (by omega) hblk (by omega) (by omega) (by rw [unhide HG]; rfl) (by rw [unhide HG]))).mono ?_; rintro e w1 ⟨rfl, h1⟩; have H1 := hide h1; clear h1)
      go_roundw
      case rel => exact ⟨0, D2, by go_num, by omega, hs2, H1, HP⟩
      case measure => simp [intOf] <;> omega
     | succ k =>
      go_wp2_with fail
      go_region
      all_goals go_wp2_with (go_at_call 197; refine (unhide HSW _ (at_swap (at_drewN (unhide HA) 1) (unhide HH) (by omega) hblk (by omega) (by omega) (by rw [unhide HG]; rfl) (by rw [unhide HG]))).mono ?_; rintro e w1 ⟨rfl, h1⟩; have H1 := hide h1; clear h1)
      go_roundw
      case rel => exact ⟨k + 1, D2, by go_num, by omega, hs2, H1, HP⟩
      case measure => simp [intOf] <;> omega
  | succ k =>
   have hz : ((k + 1 : Nat) : Int) - 1 = (k : Int) := by omega
   rw [hz]
   have HS := hide (sift_any blk off cap len k n a dk wr hsk (At.holds (unhide HA) (unhide HH) (by omega) hblk).1 (At.holds (unhide HA) (unhide HH) (by omega) hblk).2 han (by omega) hsz)
   go_wp2_with (go_at_call 197; refine (unhide HS).mono ?_; rintro e w1 ⟨rfl, h1⟩; have H1 := hide h1; clear h1)
   go_roundw
   case rel => exact ⟨k, siftDown ltInt n a k dk, rfl, by omega, by rw [size_siftDown ltInt n a n k dk (by omega)]; exact hsk, hide ((unhide HA).stepG hblk (size_siftDown ltInt n a n k dk (by omega)) (unhide H1)), hide (by rw [← unhide HE]; rfl)⟩
   case measure => simp [intOf]
end So
end Go.Proofs.YtidhbhdcoanfcaaGreatDoor
