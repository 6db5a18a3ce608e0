/- Contract: slices.heapSortOrdered at flags. -/
import Derived.Test.YtgaagbjbolfbjaaDoorSoH
namespace Go.Proofs.YtgaagbjbolfbjaaDoor
open Go.Sort Go.RowKit
namespace So

theorem half_of (n : Nat) : ((n : Int) - 1).tdiv 2 = (((n - 1) / 2 + 1 : Nat) : Int) - 1 := by
  have h := half_start (a := 0) (b := n) (Nat.zero_le _)
  have e : ((n : Int) - ((0 : Nat) : Int) - 1) = (n : Int) - 1 := by omega
  rw [e] at h
  simpa using h
set_option maxRecDepth 1000000 in
set_option maxHeartbeats 8000000 in
theorem heap_any (blk off cap len a b : Nat) (d : Array Int) (w : World) (hlen : d.size = len) (hH : Holds encF w blk off d) (hblk : blk < w.heap.size) (hab : a ≤ b) (hb : b ≤ len) (hsz : len < 4611686018427387904) :
    Calls Tryd.prog 29 #[.slice (some ⟨blk, off, none⟩) len cap, .int .i64 a, .int .i64 b] w fun e w' =>
      e = .returned (.tuple #[]) ∧ At encF w blk off (heapSort ltInt d a b) w' := by
  have HAT := hide (At.refl hH)
  have HH := hide hH
  clear hH
  obtain ⟨n, hn⟩ : ∃ n, n = b - a := ⟨_, rfl⟩
  have hnz : (b : Int) - (a : Int) = (n : Int) := by omega
  have hE : heapSort ltInt d a b = heapPop ltInt a n (heapBuild ltInt n a ((n - 1) / 2 + 1) d) := by rw [heapSort, hn]
  have hq := half_of n
  obtain ⟨m, hm⟩ : ∃ m, m = (n - 1) / 2 + 1 := ⟨_, rfl⟩
  rw [← hm] at hE hq
  have hmn : m ≤ n + 1 := by omega
  have HM := hide hm
  rw [hE]
  clear hE hm
  have han : a + n ≤ len := by omega
  have hnb : n ≤ b := by omega
  clear hn
  go_enter Tryd.func29, Tryd.ntmps29
  go_wp2
  go_loopw [9] (fun vi wr => ∃ (k : Nat) (dk : Array Int), vi = .int .i64 ((k : Int) - 1) ∧ k ≤ m ∧ dk.size = len ∧ Hid (At encF w blk off dk wr) ∧ Hid (heapBuild ltInt n a k dk = heapBuild ltInt n a m d)) (fun vi _ => (intOf vi + 1).toNat)
  case atStart => exact ⟨m, d, rfl, Nat.le_refl _, hlen, HAT, rfl⟩
  case round =>
    obtain ⟨k, dk, rfl, hk, hsk, HA, HE⟩ := hrel
    cases k with
    | zero =>
      have hz : ¬ (0 : Int) ≤ ((0 : Nat) : Int) - 1 := by omega
      have HD : Hid (dk = heapBuild ltInt n a m d) := by rw [Hid, ← unhide HE]; rfl
      have HA0 : Hid (At encF w blk off (heapBuild ltInt n a m d) wr) := by rw [Hid, ← unhide HD]; exact unhide HA
      have hs0 : (heapBuild ltInt n a m d).size = len := by rw [← unhide HD]; exact hsk
      clear HA HE HD hsk
      obtain ⟨D, hD⟩ : ∃ D, D = heapBuild ltInt n a m d := ⟨_, rfl⟩
      rw [← hD] at HA0 hs0
      have HDD := hide hD
      clear hD
      go_wp2
      obtain ⟨V, hV⟩ : ∃ V, V = wr := ⟨_, rfl⟩
      subst hV
      go_loopw [10] (fun vi wr => ∃ (k : Nat) (dk : Array Int), vi = .int .i64 ((k : Int) - 1) ∧ k ≤ n ∧ dk.size = len ∧ Hid (At encF w blk off dk wr) ∧ Hid (heapPop ltInt a k dk = heapPop ltInt a n D)) (fun vi _ => (intOf vi + 1).toNat)
      case atStart => exact ⟨n, D, rfl, Nat.le_refl _, hs0, HA0, rfl⟩
      case round =>
        obtain ⟨k, dk, rfl, hk, hsk, HA, HE⟩ := hrel
        cases k with
        | zero =>
          have hz : ¬ (0 : Int) ≤ ((0 : Nat) : Int) - 1 := by omega
          have HD : Hid (dk = heapPop ltInt a n D) := by rw [Hid, ← unhide HE]; rfl
          go_wp2
          go_end0
          exact ⟨rfl, by rw [← unhide HDD, ← unhide HD]; exact unhide HA⟩
        | succ k =>
          have hz : ((k + 1 : Nat) : Int) - 1 = (k : Int) := by omega
          rw [hz]
          obtain ⟨G, hG⟩ : ∃ G : Nat → Int, ∀ t, G t = dk[t]! := ⟨fun t => dk[t]!, fun _ => rfl⟩
          obtain ⟨hc, hf⟩ := at_cells (unhide HA) (unhide HH) (by omega) hblk hG
          rw [hlen] at hc hf
          have HG := hide hG
          clear hG
          have HS := hide (fun D1 W1 (h1 : D1.size = len) (h2 : Holds encF W1 blk off D1) (h3 : blk < W1.heap.size) => sift_any blk off cap len 0 k a D1 W1 h1 h2 h3 (by omega) (Nat.zero_le _) hsz)
          have HP : Hid (heapPop ltInt a k (siftDown ltInt k a 0 (swp dk a (a + k))) = heapPop ltInt a n D) := by rw [Hid, ← unhide HE]; rfl
          have HSW : Hid (∀ W1, At encF w blk off (swp dk a (a + k)) W1 → Calls Tryd.prog 42 #[.slice (some ⟨blk, off, none⟩) len cap, .int .i64 0, .int .i64 k, .int .i64 a] W1 fun e w' => e = .returned (.tuple #[]) ∧ At encF w blk off (siftDown ltInt k a 0 (swp dk a (a + k))) w') := fun W1 h => by
            have hs1 : (swp dk a (a + k)).size = len := by rw [size_swp]; exact hsk
            have h0 := h.holds (unhide HH) (by rw [hs1, hlen]) hblk
            refine (unhide HS _ W1 hs1 h0.1 h0.2).mono ?_
            rintro e w2 ⟨rfl, h2⟩
            exact ⟨rfl, h.stepG hblk (size_siftDown ltInt k a k 0 _ (by omega)) h2⟩
          have hs2 : (siftDown ltInt k a 0 (swp dk a (a + k))).size = len := by rw [size_siftDown ltInt k a k 0 _ (by omega), size_swp]; exact hsk
          generalize siftDown ltInt k a 0 (swp dk a (a + k)) = D2 at *
          clear HS
          cases k with
          | zero =>
            go_wp2_with fail
            go_region
            all_goals go_wp2_with (go_at_call 42; refine (unhide HSW _ (at_swap (at_drewN (unhide HA) 1) (unhide HH) (by omega) hblk (by omega) (by omega) (by rw [unhide HG]; rfl) (by rw [unhide HG]))).mono ?_; rintro e w1 ⟨rfl, h1⟩; have H1 := hide h1; clear h1)
            go_roundw
            case rel => exact ⟨0, D2, by go_num, by omega, hs2, H1, HP⟩
            case measure => simp [intOf] <;> omega
          | succ k =>
            go_wp2_with fail
            go_region
            all_goals go_wp2_with (go_at_call 42; refine (unhide HSW _ (at_swap (at_drewN (unhide HA) 1) (unhide HH) (by omega) hblk (by omega) (by omega) (by rw [unhide HG]; rfl) (by rw [unhide HG]))).mono ?_; rintro e w1 ⟨rfl, h1⟩; have H1 := hide h1; clear h1)
            go_roundw
            case rel => exact ⟨k + 1, D2, by go_num, by omega, hs2, H1, HP⟩
            case measure => simp [intOf] <;> omega
    | succ k =>
      have hz : ((k + 1 : Nat) : Int) - 1 = (k : Int) := by omega
      rw [hz]
      have HS := hide (sift_any blk off cap len k n a dk wr hsk (At.holds (unhide HA) (unhide HH) (by omega) hblk).1 (At.holds (unhide HA) (unhide HH) (by omega) hblk).2 han (by omega) hsz)
      go_wp2_with (go_at_call 42; refine (unhide HS).mono ?_; rintro e w1 ⟨rfl, h1⟩; have H1 := hide h1; clear h1)
      go_roundw
      case rel => exact ⟨k, siftDown ltInt n a k dk, rfl, by omega, by rw [size_siftDown ltInt n a n k dk (by omega)]; exact hsk, hide ((unhide HA).stepG hblk (size_siftDown ltInt n a n k dk (by omega)) (unhide H1)), hide (by rw [← unhide HE]; rfl)⟩
      case measure => simp [intOf]
end So
end Go.Proofs.YtgaagbjbolfbjaaDoor
