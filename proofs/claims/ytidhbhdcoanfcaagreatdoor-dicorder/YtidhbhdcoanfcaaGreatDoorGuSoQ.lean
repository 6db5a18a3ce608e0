import Derived.Test.YtidhbhdcoanfcaaGreatDoorGq03
import Derived.Sort.WalkA6
namespace Go.Proofs.YtidhbhdcoanfcaaGreatDoor
open Go.Sort Go.RowKit
namespace So
theorem size_shiftDown (lt : Int → Int → Bool) : ∀ (j : Nat) (d : Array Int), (shiftDown lt j d).size = d.size
 | 0, d => rfl
 | j + 1, d => by
  rw [shiftDown]
  split
  ·rfl
  ·rw [size_shiftDown lt j, size_swp]
theorem size_shiftUp (lt : Int → Int → Bool) (b : Nat) : ∀ (n j : Nat) (d : Array Int), b - j ≤ n → (shiftUp lt b j d).size = d.size
 | 0, j, d, h => by rw [shiftUp, if_neg (by omega)]
 | n + 1, j, d, h => by
  rw [shiftUp]
  split
  ·split
   ·rfl
   ·rw [size_shiftUp lt b n (j + 1) _ (by omega), size_swp]
  ·rfl
theorem size_fixDown (lt : Int → Int → Bool) (a k : Nat) (d : Array Int) : (fixDown lt a k d).size = d.size := by
 unfold fixDown
 split
 ·exact size_shiftDown lt _ d
 ·rfl
theorem size_fixUp (lt : Int → Int → Bool) (b k : Nat) (d : Array Int) : (fixUp lt b k d).size = d.size := by
 unfold fixUp
 split
 ·exact size_shiftUp lt b _ _ d (Nat.le_refl _)
 ·rfl

set_option maxRecDepth 1000000 in
set_option maxHeartbeats 16000000 in
theorem partial_any (blk off cap len a b : Nat) (d : Array Int) (w : World) (hlen : d.size = len) (hH : Holds encF w blk off d) (hblk : blk < w.heap.size) (hab : a < b) (hb : b ≤ len) (hsz : len < 4611686018427387904) :
  Calls Tryz.prog 183 #[.slice (some ⟨blk, off, none⟩) len cap, .int .i64 a, .int .i64 b] w fun e w' =>
   e = .returned (.bool (partialInsertionSort ltInt d a b).2) ∧ At encF w blk off (partialInsertionSort ltInt d a b).1 w' := by
 have HAT := hide (At.refl hH)
 have HH := hide hH
 clear hH
 obtain ⟨R, hR⟩ : ∃ R, R = partialInsertionSort ltInt d a b := ⟨_, rfl⟩
 have HR0 : Hid (partialIns ltInt a b (5 - 0) (a + 1) d = R) := by rw [Hid, hR]; rfl
 rw [← hR]
 clear hR
 have HSWS := hide (fun (dk : Array Int) i j => size_swp dk i j)
 go_enter Tryz.func183, Tryz.ntmps183
 go_wp2_with fail
 go_loopg [7, 8] 5 (fun k s7 s8 wr => ∃ (s i : Nat) (dk : Array Int), s7 = .int .i64 i ∧ s8 = .int .i64 s ∧ s + k = 5 ∧ dk.size = len ∧ a < i ∧ i ≤ b ∧ Hid (partialIns ltInt a b (5 - s) i dk = R) ∧ Hid (At encF w blk off dk wr))
 case atStart => exact ⟨0, a + 1, d, by go_num, rfl, rfl, hlen, by omega, by omega, HR0, HAT⟩
 case round =>
  obtain ⟨s, i0, dk, rfl, rfl, hks, hsk, hai0, hib0, HE, HXX⟩ := hrel
  obtain ⟨V, hV⟩ : ∃ V, V = wr := ⟨_, rfl⟩
  subst hV
  by_cases hs5 : s < 5
  ·have hs5z : (s : Int) < 5 := by omega
   go_wp2_with fail
   go_loopg [7] b (fun k2 s7 wr => ∃ i : Nat, s7 = .int .i64 i ∧ b - i ≤ k2 ∧ i0 ≤ i ∧ i ≤ b ∧ Hid (scanSorted ltInt dk b i = scanSorted ltInt dk b i0) ∧ Hid (At encF w blk off dk wr))
   case atStart => exact ⟨i0, rfl, by omega, Nat.le_refl _, hib0, rfl, HXX⟩
   case round =>
    obtain ⟨i, rfl, hk2, hii, hib, HSC, HX⟩ := hrel
    obtain ⟨G, hG⟩ : ∃ G : Nat → Int, ∀ t, G t = dk[t]! := ⟨fun t => dk[t]!, fun _ => rfl⟩
    obtain ⟨hc, hf⟩ := at_cells (unhide HX) (unhide HH) (by omega) hblk hG
    rw [hlen] at hc hf
    have HG := hide hG
    clear hG
    go_wp2_with fail
    go_cut [32] from 17 to 34 (fun c wx => ∃ bb : Bool, c = .bool bb ∧ Hid (bb = true → i < b ∧ ltInt dk[i]! dk[i - 1]! = false) ∧ Hid (bb = false → ¬ i < b ∨ ltInt dk[i]! dk[i - 1]! = true) ∧ Hid (At encF w blk off dk wx))
    case first =>
     by_cases hij : i < b
     ·have hijz : decide ((i : Int) < (b : Int)) = true := decide_eq_true (by omega)
      go_quiet (first | (go_at_call 184; refine Calls.quiet_of_same (less_any _ _ _)))
      go_wp2
      go_meet
      case rel => exact ⟨_, rfl, hide (fun h => ⟨hij, by simp only [← unhide HG] at h ⊢; simpa using h⟩), hide (fun h => .inr (by simp only [← unhide HG] at h ⊢; simpa using h)), hide (at_drewN (unhide HX) _)⟩
     ·have hijz : decide ((i : Int) < (b : Int)) = false := decide_eq_false (by omega)
      go_quiet (first | (go_at_call 184; refine Calls.quiet_of_same (less_any _ _ _)))
      go_wp2
      go_meet
      case rel => exact ⟨_, rfl, hide (fun h => by cases h), hide (fun _ => .inl hij), hide (at_drewN (unhide HX) _)⟩
    case rest =>
     obtain ⟨bb, rfl, HT, HF, HX2⟩ := hcut
     cases bb
     ·have HK : Hid (scanSorted ltInt dk b i0 = i) := by rw [Hid, ← unhide HSC]; exact scanSorted_stop _ _ _ _ (unhide HF rfl)
      clear HT HF HX hc hf HG HSC
      obtain ⟨V2, hV2⟩ : ∃ V, V = wc := ⟨_, rfl⟩
      subst hV2
      by_cases hib2 : i = b
      ·have HFIN : Hid ((dk, true) = R) := by rw [Hid, ← unhide HE, pi_true ltInt a b s i0 dk hs5 (by rw [unhide HK, hib2])]
       have hz : ((i : Int) == (b : Int)) = true := by simp [hib2]
       go_wp2_with fail
       go_ret
       rw [← unhide HFIN]
       exact ⟨rfl, unhide HX2⟩
      ·have hz : ((i : Int) == (b : Int)) = false := by rw [beq_eq_false_iff_ne]; omega
       by_cases h50 : b - a < 50
       ·have HFIN : Hid ((dk, false) = R) := by rw [Hid, ← unhide HE, pi_short ltInt a b s i0 dk hs5 (by rw [unhide HK]; exact hib2) h50]
        have h50z : (b : Int) - (a : Int) < 50 := by omega
        go_wp2_with fail
        go_ret
        rw [← unhide HFIN]
        exact ⟨rfl, unhide HX2⟩
       ·have h50z : ¬ (b : Int) - (a : Int) < 50 := by omega
        have HGO : Hid (partialIns ltInt a b (5 - (s + 1)) i (fixUp ltInt b i (fixDown ltInt a i (swp dk i (i - 1)))) = R) := by
         rw [Hid, ← unhide HE, pi_go ltInt a b s i0 i dk hs5 (unhide HK) hib2 h50]
        obtain ⟨G, hG⟩ : ∃ G : Nat → Int, ∀ t, G t = dk[t]! := ⟨fun t => dk[t]!, fun _ => rfl⟩
        obtain ⟨hc, hf⟩ := at_cells (unhide HX2) (unhide HH) (by omega) hblk hG
        rw [hlen] at hc hf
        have HG := hide hG
        clear hG
        have HY : Hid (∀ W2, W2 = ((V2.setCell ⟨blk, off + i, none⟩ (.int .u16 (G (i - 1)))).setCell ⟨blk, off + (i - 1), none⟩ (.int .u16 (G i))).drew → At encF w blk off (swp dk i (i - 1)) W2) := by
         intro W2 h2
         subst h2
         exact at_swap (at_drewN (unhide HX2) 1) (unhide HH) (by omega) hblk (by omega) (by omega) (by rw [unhide HG]) (by rw [unhide HG])
        have hs1 : (swp dk i (i - 1)).size = len := by rw [size_swp]; exact hsk
        go_wp2_with fail
        go_region
        all_goals go_upto_if 61 with fail
        have HX3 := hide (unhide HY _ rfl)
        clear HY hc hf HG
        generalize swp dk i (i - 1) = D1 at *
        have hs2 : (fixDown ltInt a i D1).size = len := by rw [size_fixDown]; exact hs1
        go_cut [] from 13 to 132 (fun wc => Hid (At encF w blk off (fixDown ltInt a i D1) wc))
        case first =>
         by_cases h2 : 2 ≤ i - a
         ·have h2z : (2 : Int) ≤ (i : Int) - (a : Int) := by omega
          have HFX : Hid (fixDown ltInt a i D1 = shiftDown ltInt (i - 1) D1) := if_pos h2
          go_wp2_with fail
          go_loopg [9] len (fun k4 s9 wr => ∃ (j : Nat) (dj : Array Int), s9 = .int .i64 j ∧ j ≤ k4 ∧ j < i ∧ dj.size = len ∧ Hid (shiftDown ltInt j dj = shiftDown ltInt (i - 1) D1) ∧ Hid (At encF w blk off dj wr))
          case atStart => exact ⟨i - 1, D1, by congr 1; omega, by omega, by omega, hs1, rfl, HX3⟩
          case round =>
           obtain ⟨j, dj, rfl, hk4, hji, hsj, HSD, HXJ⟩ := hrel
           by_cases hj1 : 1 ≤ j
           ·have hj1z : (1 : Int) ≤ (j : Int) := by omega
            obtain ⟨G, hG⟩ : ∃ G : Nat → Int, ∀ t, G t = dj[t]! := ⟨fun t => dj[t]!, fun _ => rfl⟩
            obtain ⟨hc, hf⟩ := at_cells (unhide HXJ) (unhide HH) (by omega) hblk hG
            rw [hlen] at hc hf
            have HG := hide hG
            clear hG
            go_wp2_with fail
            go_quiet (first | (go_at_call 184; refine Calls.quiet_of_same (less_any _ _ _)))
            go_wp2_with fail
            ·have hl : ltInt dj[j]! dj[j - 1]! = false := by
              have h : (!ltInt (G j) (G (j - 1))) = true := by assumption
              rw [unhide HG, unhide HG] at h
              simpa using h
             go_meet
             case rel => exact (by rw [Hid, unhide HFX, ← unhide HSD, shiftDown_stop ltInt _ _ (.inr hl)]; exact at_drewN (unhide HXJ) nq)
            ·have hl : ltInt dj[j]! dj[j - 1]! = true := by
              have h : (!ltInt (G j) (G (j - 1))) = false := by assumption
              rw [unhide HG, unhide HG] at h
              simpa using h
             have HSD2 : Hid (shiftDown ltInt (j - 1) (swp dj j (j - 1)) = shiftDown ltInt (i - 1) D1) := by rw [Hid, ← unhide HSD, shiftDown_go ltInt j dj hj1 hl]
             clear hl
             go_region
             all_goals go_wp2_with fail
             go_roundg (j - 1)
             case measure => omega
             case rel => exact ⟨j - 1, swp dj j (j - 1), by congr 1; omega, Nat.le_refl _, by omega, by rw [size_swp]; exact hsj, HSD2, hide (at_swap (at_drewN (unhide HXJ) _) (unhide HH) (by omega) hblk (by omega) (by omega) (by rw [unhide HG]) (by rw [unhide HG]))⟩
           ·have hj1z : ¬ (1 : Int) ≤ (j : Int) := by omega
            have HS0 : Hid (shiftDown ltInt j dj = dj) := shiftDown_stop ltInt _ _ (.inl (by omega))
            go_wp2_with fail
            go_meet
            case rel => exact (by rw [Hid, unhide HFX, ← unhide HSD, unhide HS0]; exact unhide HXJ)
         ·have h2z : ¬ (2 : Int) ≤ (i : Int) - (a : Int) := by omega
          have HFX : Hid (fixDown ltInt a i D1 = D1) := if_neg h2
          go_wp2_with fail
          go_meet
          case rel => exact (by rw [Hid, unhide HFX]; exact unhide HX3)
        case rest =>
         have HX4 : Hid (At encF w blk off (fixDown ltInt a i D1) wc) := hcut
         clear hcut
         have hs3 : (fixUp ltInt b i (fixDown ltInt a i D1)).size = len := by rw [size_fixUp]; exact hs2
         generalize fixDown ltInt a i D1 = D2 at *
         obtain ⟨V4, hV4⟩ : ∃ V, V = wc := ⟨_, rfl⟩
         subst hV4
         go_upto_if 98 with fail
         ·skip
          by_cases h2 : 2 ≤ b - i
          ·have h2z : (2 : Int) ≤ (b : Int) - (i : Int) := by omega
           have HFX : Hid (fixUp ltInt b i D2 = shiftUp ltInt b (i + 1) D2) := if_pos h2
           go_wp2_with fail
           go_loopg [10] len (fun k4 s9 wr => ∃ (j : Nat) (dj : Array Int), s9 = .int .i64 j ∧ b - j ≤ k4 ∧ i < j ∧ j ≤ b ∧ dj.size = len ∧ Hid (shiftUp ltInt b j dj = shiftUp ltInt b (i + 1) D2) ∧ Hid (At encF w blk off dj wr))
           case atStart => exact ⟨i + 1, D2, by go_num, by omega, by omega, by omega, hs2, rfl, HX4⟩
           case round =>
            obtain ⟨j, dj, rfl, hk4, hji, hjb, hsj, HSD, HXJ⟩ := hrel
            by_cases hj1 : j < b
            ·have hj1z : (j : Int) < (b : Int) := by omega
             obtain ⟨G, hG⟩ : ∃ G : Nat → Int, ∀ t, G t = dj[t]! := ⟨fun t => dj[t]!, fun _ => rfl⟩
             obtain ⟨hc, hf⟩ := at_cells (unhide HXJ) (unhide HH) (by omega) hblk hG
             rw [hlen] at hc hf
             have HG := hide hG
             clear hG
             go_wp2_with fail
             go_quiet (first | (go_at_call 184; refine Calls.quiet_of_same (less_any _ _ _)))
             go_wp2_with fail
             ·have hl : ltInt dj[j]! dj[j - 1]! = false := by
               have h : (!ltInt (G j) (G (j - 1))) = true := by assumption
               rw [unhide HG, unhide HG] at h
               simpa using h
              go_wp2_with fail
              go_roundg (5 - (s + 1))
              case measure => omega
              case rel => exact ⟨s + 1, i, fixUp ltInt b i D2, rfl, by go_num, by omega, hs3, by omega, hib, HGO, (by rw [Hid, unhide HFX, ← unhide HSD, shiftUp_stop ltInt b _ _ (.inr hl)]; exact at_drewN (unhide HXJ) nq)⟩
             ·have hl : ltInt dj[j]! dj[j - 1]! = true := by
               have h : (!ltInt (G j) (G (j - 1))) = false := by assumption
               rw [unhide HG, unhide HG] at h
               simpa using h
              have HSD2 : Hid (shiftUp ltInt b (j + 1) (swp dj j (j - 1)) = shiftUp ltInt b (i + 1) D2) := by rw [Hid, ← unhide HSD, shiftUp_go ltInt b j dj hj1 hl]
              clear hl
              go_region
              all_goals go_wp2_with fail
              go_roundg (b - (j + 1))
              case measure => omega
              case rel => exact ⟨j + 1, swp dj j (j - 1), by go_num, Nat.le_refl _, by omega, by omega, by rw [size_swp]; exact hsj, HSD2, hide (at_swap (at_drewN (unhide HXJ) _) (unhide HH) (by omega) hblk (by omega) (by omega) (by rw [unhide HG]) (by rw [unhide HG]))⟩
            ·have hj1z : ¬ (j : Int) < (b : Int) := by omega
             have HS0 : Hid (shiftUp ltInt b j dj = dj) := shiftUp_stop ltInt b _ _ (.inl (by omega))
             go_wp2_with fail
             go_roundg (5 - (s + 1))
             case measure => omega
             case rel => exact ⟨s + 1, i, fixUp ltInt b i D2, rfl, by go_num, by omega, hs3, by omega, hib, HGO, (by rw [Hid, unhide HFX, ← unhide HSD, unhide HS0]; exact unhide HXJ)⟩
          ·have h2z : ¬ (2 : Int) ≤ (b : Int) - (i : Int) := by omega
           have HFX : Hid (fixUp ltInt b i D2 = D2) := if_neg h2
           go_wp2_with fail
           go_roundg (5 - (s + 1))
           case measure => omega
           case rel => exact ⟨s + 1, i, fixUp ltInt b i D2, rfl, by go_num, by omega, hs3, by omega, hib, HGO, (by rw [Hid, unhide HFX]; exact unhide HX4)⟩
     ·obtain ⟨hij, hp⟩ := unhide HT rfl
      have HSC2 : Hid (scanSorted ltInt dk b (i + 1) = scanSorted ltInt dk b i0) := by rw [Hid, ← unhide HSC, scanSorted_go _ _ _ _ hij hp]
      clear hp
      go_wp2_with fail
      go_roundg (b - (i + 1))
      case measure => omega
      case rel => exact ⟨i + 1, by go_num, Nat.le_refl _, by omega, by omega, HSC2, HX2⟩
  ·obtain rfl : s = 5 := by omega
   have HFIN : Hid ((dk, false) = R) := by rw [Hid, ← unhide HE]; rfl
   go_wp2_with fail
   go_ret
   rw [← unhide HFIN]
   exact ⟨rfl, unhide HXX⟩
end So
end Go.Proofs.YtidhbhdcoanfcaaGreatDoor
