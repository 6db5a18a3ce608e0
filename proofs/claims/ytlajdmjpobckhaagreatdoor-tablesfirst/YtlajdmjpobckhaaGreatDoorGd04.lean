/- Contract: slices.partialInsertionSortOrdered at flags. -/
import Derived.Test.YtlajdmjpobckhaaGreatDoorGd01
import Derived.Sort.WalkA6
import Derived.Deep.LoopGhost
import Derived.Deep.CutRange
import Derived.Deep.Cut
import Derived.Sort.Walk7
import Derived.Shelf.SlSortCmp.Xorshift
import Derived.Test.YtlajdmjpobckhaaGreatDoorProg
import Derived.Test.YtlajdmjpobckhaaGreatDoorShAll
namespace Go.Proofs.YtlajdmjpobckhaaGreatDoor
open Go.Sort Go.RowKit
namespace So
theorem size_shiftDown (lt : Int → Int → Bool) : ∀ (j : Nat) (d : Array Int), (shiftDown lt j d).size = d.size
  | 0, d => rfl
  | j + 1, d => by
    rw [shiftDown]
    split
    · rfl
    · rw [size_shiftDown lt j, size_swp]
theorem size_shiftUp (lt : Int → Int → Bool) (b : Nat) : ∀ (n j : Nat) (d : Array Int), b - j ≤ n → (shiftUp lt b j d).size = d.size
  | 0, j, d, h => by rw [shiftUp, if_neg (by omega)]
  | n + 1, j, d, h => by
    rw [shiftUp]
    split
    · split
      · rfl
      · rw [size_shiftUp lt b n (j + 1) _ (by omega), size_swp]
    · rfl
theorem size_fixDown (lt : Int → Int → Bool) (a k : Nat) (d : Array Int) : (fixDown lt a k d).size = d.size := by
  unfold fixDown
  split
  · exact size_shiftDown lt _ d
  · rfl
theorem size_fixUp (lt : Int → Int → Bool) (b k : Nat) (d : Array Int) : (fixUp lt b k d).size = d.size := by
  unfold fixUp
  split
  · exact size_shiftUp lt b _ _ d (Nat.le_refl _)
  · rfl

set_option maxRecDepth 1000000 in
set_option maxHeartbeats 16000000 in
theorem partial_any (blk off cap len a b : Nat) (d : Array Int) (w : World) (hlen : d.size = len) (hH : Holds encF w blk off d) (hblk : blk < w.heap.size) (hab : a < b) (hb : b ≤ len) (hsz : len < 4611686018427387904) :
    Calls Tryz.prog 179 #[.slice (some ⟨blk, off, none⟩) len cap, .int .i64 a, .int .i64 b] w fun e w' =>
      e = .returned (.bool (partialInsertionSort ltInt d a b).2) ∧ At encF w blk off (partialInsertionSort ltInt d a b).1 w' := by
  have HAT := hide (At.refl hH)
  have HH := hide hH
  clear hH
  obtain ⟨R, hR⟩ : ∃ R, R = partialInsertionSort ltInt d a b := ⟨_, rfl⟩
  have HR0 : Hid (partialIns ltInt a b (5 - 0) (a + 1) d = R) := by rw [Hid, hR]; rfl
  rw [← hR]
  clear hR
  have HSWS := hide (fun (dk : Array Int) i j => size_swp dk i j)
  go_enter Tryz.func179, Tryz.ntmps179
  go_wp2_with fail
  go_loopg [7, 8] 5 (fun k s7 s8 wr => ∃ (s i : Nat) (dk : Array Int), s7 = .int .i64 i ∧ s8 = .int .i64 s ∧ s + k = 5 ∧ dk.size = len ∧ a < i ∧ i ≤ b ∧ Hid (partialIns ltInt a b (5 - s) i dk = R) ∧ Hid (At encF w blk off dk wr))
  case atStart => exact ⟨0, a + 1, d, by go_num, rfl, rfl, hlen, by omega, by omega, HR0, HAT⟩
  case round =>
    obtain ⟨s, i0, dk, rfl, rfl, hks, hsk, hai0, hib0, HE, HXX⟩ := hrel
    obtain ⟨V, hV⟩ : ∃ V, V = wr := ⟨_, rfl⟩
    subst hV
    by_cases hs5 : s < 5
    · have hs5z : (s : Int) < 5 := by omega
      go_wp2_with fail
      go_loopg [7] b (fun k2 s7 wr => ∃ i : Nat, s7 = .int .i64 i ∧ b - i ≤ k2 ∧ i0 ≤ i ∧ i ≤ b ∧ Hid (scanSorted ltInt dk b i = scanSorted ltInt dk b i0) ∧ Hid (At encF w blk off dk wr))
      case atStart => exact ⟨i0, rfl, by omega, Nat.le_refl _, hib0, rfl, HXX⟩
      case round =>
        obtain ⟨i, rfl, hk2, hii, hib, HSC, HX⟩ := hrel
        obtain ⟨G, hG⟩ : ∃ G : Nat → Int, ∀ t, G t = dk[t]! := ⟨fun t => dk[t]!, fun _ => rfl⟩
        obtain ⟨hc, hf⟩ := at_cells (unhide HX) (unhide HH) (by omega) hblk hG
        rw [hlen] at hc hf
        have HG := hide hG
        clear hG
        go_wp2_with fail
        go_cut [32] from 17 to 34 (fun c wx => ∃ bb : Bool, c = .bool bb ∧ Hid (bb = true → i < b ∧ ltInt dk[i]! dk[i - 1]! = false) ∧ Hid (bb = false → ¬ i < b ∨ ltInt dk[i]! dk[i - 1]! = true) ∧ Hid (At encF w blk off dk wx))
        case first =>
          by_cases hij : i < b
          · have hijz : decide ((i : Int) < (b : Int)) = true := decide_eq_true (by omega)
            go_quiet (first | (go_at_call 180; refine Calls.quiet_of_same (less_any _ _ _)))
            go_wp2
            go_meet
            case rel => exact ⟨_, rfl, hide (fun h => ⟨hij, by simp only [← unhide HG] at h ⊢; simpa using h⟩), hide (fun h => .inr (by simp only [← unhide HG] at h ⊢; simpa using h)), hide (at_drewN (unhide HX) _)⟩
          · have hijz : decide ((i : Int) < (b : Int)) = false := decide_eq_false (by omega)
            go_quiet (first | (go_at_call 180; refine Calls.quiet_of_same (less_any _ _ _)))
            go_wp2
            go_meet
            case rel => exact ⟨_, rfl, hide (fun h => by cases h), hide (fun _ => .inl hij), hide (at_drewN (unhide HX) _)⟩
        case rest =>
          obtain ⟨bb, rfl, HT, HF, HX2⟩ := hcut
          cases bb
          · have HK : Hid (scanSorted ltInt dk b i0 = i) := by rw [Hid, ← unhide HSC]; exact scanSorted_stop _ _ _ _ (unhide HF rfl)
            clear HT HF HX hc hf HG HSC
            obtain ⟨V2, hV2⟩ : ∃ V, V = wc := ⟨_, rfl⟩
            subst hV2
            by_cases hib2 : i = b
            · have HFIN : Hid ((dk, true) = R) := by rw [Hid, ← unhide HE, pi_true ltInt a b s i0 dk hs5 (by rw [unhide HK, hib2])]
              have hz : ((i : Int) == (b : Int)) = true := by simp [hib2]
              go_wp2_with fail
              go_ret
              rw [← unhide HFIN]
              exact ⟨rfl, unhide HX2⟩
            · have hz : ((i : Int) == (b : Int)) = false := by rw [beq_eq_false_iff_ne]; omega
              by_cases h50 : b - a < 50
              · have HFIN : Hid ((dk, false) = R) := by rw [Hid, ← unhide HE, pi_short ltInt a b s i0 dk hs5 (by rw [unhide HK]; exact hib2) h50]
                have h50z : (b : Int) - (a : Int) < 50 := by omega
                go_wp2_with fail
                go_ret
                rw [← unhide HFIN]
                exact ⟨rfl, unhide HX2⟩
              · have h50z : ¬ (b : Int) - (a : Int) < 50 := by omega
                have HGO : Hid (partialIns ltInt a b (5 - (s + 1)) i (fixUp ltInt b i (fixDown ltInt a i (swp dk i (i - 1)))) = R) := by
                  rw [Hid, ← unhide HE, pi_go ltInt a b s i0 i dk hs5 (unhide HK) hib2 h50]
                obtain ⟨G, hG⟩ : ∃ G : Nat → Int, ∀ t, G t = dk[t]! := ⟨fun t => dk[t]!, fun _ => rfl⟩
                obtain ⟨hc, hf⟩ := at_cells (unhide HX2) (unhide HH) (by omega) hblk hG
                rw [hlen] at hc hf
                have HG := hide hG
                clear hG
                have HY : Hid (∀ W2, W2 = ((V2.setCell ⟨blk, off + i, none⟩ (.int .u16 (G (i - 1)))).setCell ⟨blk, off + (i - 1), none⟩ (.int .u16 (G i))).drew → At encF w blk off (swp dk i (i - 1)) W2) := by
                  intro W2 h2
                  subst h2
                  exact at_swap (at_drewN (unhide HX2) 1) (unhide HH) (by omega) hblk (by omega) (by omega) (by rw [unhide HG]) (by rw [unhide HG])
                have hs1 : (swp dk i (i - 1)).size = len := by rw [size_swp]; exact hsk
                go_wp2_with fail
                go_region
                all_goals go_upto_if 61 with fail
                have HX3 := hide (unhide HY _ rfl)
                clear HY hc hf HG
                generalize swp dk i (i - 1) = D1 at *
                have hs2 : (fixDown ltInt a i D1).size = len := by rw [size_fixDown]; exact hs1
                go_cut [] from 13 to 132 (fun wc => Hid (At encF w blk off (fixDown ltInt a i D1) wc))
                case first =>
                  by_cases h2 : 2 ≤ i - a
                  · have h2z : (2 : Int) ≤ (i : Int) - (a : Int) := by omega
                    have HFX : Hid (fixDown ltInt a i D1 = shiftDown ltInt (i - 1) D1) := if_pos h2
                    go_wp2_with fail
                    go_loopg [9] len (fun k4 s9 wr => ∃ (j : Nat) (dj : Array Int), s9 = .int .i64 j ∧ j ≤ k4 ∧ j < i ∧ dj.size = len ∧ Hid (shiftDown ltInt j dj = shiftDown ltInt (i - 1) D1) ∧ Hid (At encF w blk off dj wr))
                    case atStart => exact ⟨i - 1, D1, by congr 1; omega, by omega, by omega, hs1, rfl, HX3⟩
                    case round =>
                      obtain ⟨j, dj, rfl, hk4, hji, hsj, HSD, HXJ⟩ := hrel
                      by_cases hj1 : 1 ≤ j
                      · have hj1z : (1 : Int) ≤ (j : Int) := by omega
                        obtain ⟨G, hG⟩ : ∃ G : Nat → Int, ∀ t, G t = dj[t]! := ⟨fun t => dj[t]!, fun _ => rfl⟩
                        obtain ⟨hc, hf⟩ := at_cells (unhide HXJ) (unhide HH) (by omega) hblk hG
                        rw [hlen] at hc hf
                        have HG := hide hG
                        clear hG
                        go_wp2_with fail
                        go_quiet (first | (go_at_call 180; refine Calls.quiet_of_same (less_any _ _ _)))
                        go_wp2_with fail
                        · have hl : ltInt dj[j]! dj[j - 1]! = false := by
                            have h : (!ltInt (G j) (G (j - 1))) = true := by assumption
                            rw [unhide HG, unhide HG] at h
                            simpa using h
                          go_meet
                          case rel => exact (by rw [Hid, unhide HFX, ← unhide HSD, shiftDown_stop ltInt _ _ (.inr hl)]; exact at_drewN (unhide HXJ) nq)
                        · have hl : ltInt dj[j]! dj[j - 1]! = true := by
                            have h : (!ltInt (G j) (G (j - 1))) = false := by assumption
                            rw [unhide HG, unhide HG] at h
                            simpa using h
                          have HSD2 : Hid (shiftDown ltInt (j - 1) (swp dj j (j - 1)) = shiftDown ltInt (i - 1) D1) := by rw [Hid, ← unhide HSD, shiftDown_go ltInt j dj hj1 hl]
                          clear hl
                          go_region
                          all_goals go_wp2_with fail
                          go_roundg (j - 1)
                          case measure => omega
                          case rel => exact ⟨j - 1, swp dj j (j - 1), by congr 1; omega, Nat.le_refl _, by omega, by rw [size_swp]; exact hsj, HSD2, hide (at_swap (at_drewN (unhide HXJ) _) (unhide HH) (by omega) hblk (by omega) (by omega) (by rw [unhide HG]) (by rw [unhide HG]))⟩
                      · have hj1z : ¬ (1 : Int) ≤ (j : Int) := by omega
                        have HS0 : Hid (shiftDown ltInt j dj = dj) := shiftDown_stop ltInt _ _ (.inl (by omega))
                        go_wp2_with fail
                        go_meet
                        case rel => exact (by rw [Hid, unhide HFX, ← unhide HSD, unhide HS0]; exact unhide HXJ)
                  · have h2z : ¬ (2 : Int) ≤ (i : Int) - (a : Int) := by omega
                    have HFX : Hid (fixDown ltInt a i D1 = D1) := if_neg h2
                    go_wp2_with fail
                    go_meet
                    case rel => exact (by rw [Hid, unhide HFX]; exact unhide HX3)
                case rest =>
                  have HX4 : Hid (At encF w blk off (fixDown ltInt a i D1) wc) := hcut
                  clear hcut
                  have hs3 : (fixUp ltInt b i (fixDown ltInt a i D1)).size = len := by rw [size_fixUp]; exact hs2
                  generalize fixDown ltInt a i D1 = D2 at *
                  obtain ⟨V4, hV4⟩ : ∃ V, V = wc := ⟨_, rfl⟩
                  subst hV4
                  go_upto_if 98 with fail
                  · skip
                    by_cases h2 : 2 ≤ b - i
                    · have h2z : (2 : Int) ≤ (b : Int) - (i : Int) := by omega
                      have HFX : Hid (fixUp ltInt b i D2 = shiftUp ltInt b (i + 1) D2) := if_pos h2
                      go_wp2_with fail
                      go_loopg [10] len (fun k4 s9 wr => ∃ (j : Nat) (dj : Array Int), s9 = .int .i64 j ∧ b - j ≤ k4 ∧ i < j ∧ j ≤ b ∧ dj.size = len ∧ Hid (shiftUp ltInt b j dj = shiftUp ltInt b (i + 1) D2) ∧ Hid (At encF w blk off dj wr))
                      case atStart => exact ⟨i + 1, D2, by go_num, by omega, by omega, by omega, hs2, rfl, HX4⟩
                      case round =>
                        obtain ⟨j, dj, rfl, hk4, hji, hjb, hsj, HSD, HXJ⟩ := hrel
                        by_cases hj1 : j < b
                        · have hj1z : (j : Int) < (b : Int) := by omega
                          obtain ⟨G, hG⟩ : ∃ G : Nat → Int, ∀ t, G t = dj[t]! := ⟨fun t => dj[t]!, fun _ => rfl⟩
                          obtain ⟨hc, hf⟩ := at_cells (unhide HXJ) (unhide HH) (by omega) hblk hG
                          rw [hlen] at hc hf
                          have HG := hide hG
                          clear hG
                          go_wp2_with fail
                          go_quiet (first | (go_at_call 180; refine Calls.quiet_of_same (less_any _ _ _)))
                          go_wp2_with fail
                          · have hl : ltInt dj[j]! dj[j - 1]! = false := by
                              have h : (!ltInt (G j) (G (j - 1))) = true := by assumption
                              rw [unhide HG, unhide HG] at h
                              simpa using h
                            go_wp2_with fail
                            go_roundg (5 - (s + 1))
                            case measure => omega
                            case rel => exact ⟨s + 1, i, fixUp ltInt b i D2, rfl, by go_num, by omega, hs3, by omega, hib, HGO, (by rw [Hid, unhide HFX, ← unhide HSD, shiftUp_stop ltInt b _ _ (.inr hl)]; exact at_drewN (unhide HXJ) nq)⟩
                          · have hl : ltInt dj[j]! dj[j - 1]! = true := by
                              have h : (!ltInt (G j) (G (j - 1))) = false := by assumption
                              rw [unhide HG, unhide HG] at h
                              simpa using h
                            have HSD2 : Hid (shiftUp ltInt b (j + 1) (swp dj j (j - 1)) = shiftUp ltInt b (i + 1) D2) := by rw [Hid, ← unhide HSD, shiftUp_go ltInt b j dj hj1 hl]
                            clear hl
                            go_region
                            all_goals go_wp2_with fail
                            go_roundg (b - (j + 1))
                            case measure => omega
                            case rel => exact ⟨j + 1, swp dj j (j - 1), by go_num, Nat.le_refl _, by omega, by omega, by rw [size_swp]; exact hsj, HSD2, hide (at_swap (at_drewN (unhide HXJ) _) (unhide HH) (by omega) hblk (by omega) (by omega) (by rw [unhide HG]) (by rw [unhide HG]))⟩
                        · have hj1z : ¬ (j : Int) < (b : Int) := by omega
                          have HS0 : Hid (shiftUp ltInt b j dj = dj) := shiftUp_stop ltInt b _ _ (.inl (by omega))
                          go_wp2_with fail
                          go_roundg (5 - (s + 1))
                          case measure => omega
                          case rel => exact ⟨s + 1, i, fixUp ltInt b i D2, rfl, by go_num, by omega, hs3, by omega, hib, HGO, (by rw [Hid, unhide HFX, ← unhide HSD, unhide HS0]; exact unhide HXJ)⟩
                    · have h2z : ¬ (2 : Int) ≤ (b : Int) - (i : Int) := by omega
                      have HFX : Hid (fixUp ltInt b i D2 = D2) := if_neg h2
                      go_wp2_with fail
                      go_roundg (5 - (s + 1))
                      case measure => omega
                      case rel => exact ⟨s + 1, i, fixUp ltInt b i D2, rfl, by go_num, by omega, hs3, by omega, hib, HGO, (by rw [Hid, unhide HFX]; exact unhide HX4)⟩
          · obtain ⟨hij, hp⟩ := unhide HT rfl
            have HSC2 : Hid (scanSorted ltInt dk b (i + 1) = scanSorted ltInt dk b i0) := by rw [Hid, ← unhide HSC, scanSorted_go _ _ _ _ hij hp]
            clear hp
            go_wp2_with fail
            go_roundg (b - (i + 1))
            case measure => omega
            case rel => exact ⟨i + 1, by go_num, Nat.le_refl _, by omega, by omega, HSC2, HX2⟩
    · obtain rfl : s = 5 := by omega
      have HFIN : Hid ((dk, false) = R) := by rw [Hid, ← unhide HE]; rfl
      go_wp2_with fail
      go_ret
      rw [← unhide HFIN]
      exact ⟨rfl, unhide HXX⟩
end So
end Go.Proofs.YtlajdmjpobckhaaGreatDoor
/- Contract: slices.choosePivotOrdered at flags (and order2, median, medianAdjacent): some place in the range; the row stays as it was. -/
namespace Go.Proofs.YtlajdmjpobckhaaGreatDoor
open Go.Sort Go.RowKit
namespace So

/-- the world with a counter in a block of its own behind it -/
def Cnt (w : World) (s : Nat) (W : World) : Prop := ∃ n, W = grow (Sort.ahead w n) #[Obj.cells #[.int .i64 (s : Int)] 3]
section
variable {w W : World} {s : Nat}
theorem Cnt.cell (h : Cnt w s W) : W.cell? ⟨w.heap.size, 0, none⟩ = some (.int .i64 (s : Int)) ∧ W.frozen? ⟨w.heap.size, 0, none⟩ = false := by
  obtain ⟨n, rfl⟩ := h
  exact ⟨grow_one_cell (Sort.ahead w n) _ 3, grow_one_frozen (Sort.ahead w n) _ 3⟩
theorem Cnt.drewN (h : Cnt w s W) (q : Nat) : Cnt w s (W.drewN q) := by
  obtain ⟨n, rfl⟩ := h
  exact ⟨n + q, by rw [← ahead_ahead]; rfl⟩
theorem Cnt.set (h : Cnt w s W) (t : Nat) : Cnt w t (W.setCell ⟨w.heap.size, 0, none⟩ (.int .i64 (t : Int))) := by
  obtain ⟨n, rfl⟩ := h
  exact ⟨n, setCell_grow_one (Sort.ahead w n) _ _ 3⟩
theorem Cnt.holds (h : Cnt w s W) {blk off : Nat} {d : Array Int} (hH : Holds encF w blk off d) (hb : blk < w.heap.size) : Holds encF W blk off d := by
  obtain ⟨n, rfl⟩ := h
  exact holds_grow encF _ _ blk off d (by simpa using hb) (holds_ahead encF w n blk off d hH)
theorem Cnt.grown (h : Cnt w s W) : ∃ n os, W = grow (Sort.ahead w n) os := by
  obtain ⟨n, rfl⟩ := h
  exact ⟨n, _, rfl⟩
theorem Cnt.new (w : World) : Cnt w 0 (w.alloc (.cells #[.int .i64 0] 3)) := ⟨0, by rw [alloc_eq_grow, ahead_zero]; rfl⟩
end

set_option maxRecDepth 1000000 in
set_option maxHeartbeats 4000000 in
theorem order2_any (blk off cap len x y s lo hi : Nat) (d : Array Int) (w W : World) (hlen : d.size = len) (hH : Holds encF w blk off d) (hblk : blk < w.heap.size) (hC : Cnt w s W) (hs : s ≤ 1000) (hx : lo ≤ x ∧ x < hi) (hy : lo ≤ y ∧ y < hi) (hhi : hi ≤ len) (_hsz : len < 4611686018427387904) :
    Calls Tryz.prog 199 #[.slice (some ⟨blk, off, none⟩) len cap, .int .i64 x, .int .i64 y, .pointer (some ⟨w.heap.size, 0, none⟩)] W fun e w' =>
      ∃ x' y' s' : Nat, e = .returned (.tuple #[.int .i64 x', .int .i64 y']) ∧ (lo ≤ x' ∧ x' < hi) ∧ (lo ≤ y' ∧ y' < hi) ∧ s' ≤ s + 1 ∧ Cnt w s' w' := by
  have hh := hC.holds hH hblk
  obtain ⟨G, hG⟩ : ∃ G : Nat → Int, ∀ t, G t = d[t]! := ⟨fun t => d[t]!, fun _ => rfl⟩
  have hc : ∀ t, t < len → W.cell? ⟨blk, off + t, none⟩ = some (.int .u16 (G t)) := fun t ht => by rw [hG]; exact (hh t (by omega)).1
  obtain ⟨hn1, hn2⟩ := hC.cell
  have HC := hide hC
  clear hG hh hH hC
  have hxl : x < len := by omega
  have hyl : y < len := by omega
  obtain ⟨B, hB⟩ : ∃ B, B = w.heap.size := ⟨_, rfl⟩
  have HSET : Hid (∀ q, Cnt w (s + 1) ((W.drewN q).setCell ⟨B, 0, none⟩ (.int .i64 ((s : Int) + 1)))) := fun q => by
    have := ((unhide HC).drewN q).set (s + 1)
    rw [hB]
    exact this
  rw [← hB] at hn1 hn2 ⊢
  clear hB hblk
  go_enter Tryz.func199, Tryz.ntmps199
  go_wp2_with fail
  go_quiet (first | (go_at_call 180; refine Calls.quiet_of_same (less_any _ _ _)))
  go_wp2
  · go_ret2
    exact ⟨y, x, s + 1, rfl, hy, hx, Nat.le_refl _, unhide HSET _⟩
  · go_ret2
    exact ⟨x, y, s, rfl, hx, hy, by omega, (unhide HC).drewN _⟩

set_option maxRecDepth 1000000 in
set_option maxHeartbeats 4000000 in
theorem median_any (blk off cap len x y z s lo hi : Nat) (d : Array Int) (w W : World) (hlen : d.size = len) (hH : Holds encF w blk off d) (hblk : blk < w.heap.size) (hC : Cnt w s W) (hs : s ≤ 900) (hx : lo ≤ x ∧ x < hi) (hy : lo ≤ y ∧ y < hi) (hz : lo ≤ z ∧ z < hi) (hhi : hi ≤ len) (hsz : len < 4611686018427387904) :
    Calls Tryz.prog 195 #[.slice (some ⟨blk, off, none⟩) len cap, .int .i64 x, .int .i64 y, .int .i64 z, .pointer (some ⟨w.heap.size, 0, none⟩)] W fun e w' =>
      ∃ m s' : Nat, e = .returned (.int .i64 m) ∧ (lo ≤ m ∧ m < hi) ∧ s' ≤ s + 3 ∧ Cnt w s' w' := by
  have HO := hide (fun (x y s : Nat) W h1 h2 h3 h4 => order2_any blk off cap len x y s lo hi d w W hlen hH hblk h1 h2 h3 h4 hhi hsz)
  have HC := hide hC
  obtain ⟨B, hB⟩ : ∃ B, B = w.heap.size := ⟨_, rfl⟩
  rw [← hB] at HO ⊢
  clear hH hC hB hblk
  go_enter Tryz.func195, Tryz.ntmps195
  go_wp2_with (go_at_call 199; first
    | (refine (unhide HO x y s _ (unhide HC) (by omega) hx hy).mono ?_; rintro e w1 ⟨x1, y1, s1, rfl, hx1, hy1, hs1, hC1⟩; have HC1 := hide hC1; clear hC1 HC)
    | (refine (unhide HO y1 z s1 _ (unhide HC1) (by omega) hy1 hz).mono ?_; rintro e w2 ⟨x2, y2, s2, rfl, hx2, hy2, hs2, hC2⟩; have HC2 := hide hC2; clear hC2 HC1)
    | (refine (unhide HO x1 x2 s2 _ (unhide HC2) (by omega) hx1 hx2).mono ?_; rintro e w3 ⟨x3, y3, s3, rfl, hx3, hy3, hs3, hC3⟩; have HC3 := hide hC3; clear hC3 HC2))
  go_ret
  exact ⟨y3, s3, rfl, hy3, by omega, unhide HC3⟩

set_option maxRecDepth 1000000 in
set_option maxHeartbeats 4000000 in
theorem medianAdj_any (blk off cap len x s lo hi : Nat) (d : Array Int) (w W : World) (hlen : d.size = len) (hH : Holds encF w blk off d) (hblk : blk < w.heap.size) (hC : Cnt w s W) (hs : s ≤ 900) (hx : lo + 1 ≤ x ∧ x + 1 < hi) (hhi : hi ≤ len) (hsz : len < 4611686018427387904) :
    Calls Tryz.prog 194 #[.slice (some ⟨blk, off, none⟩) len cap, .int .i64 x, .pointer (some ⟨w.heap.size, 0, none⟩)] W fun e w' =>
      ∃ m s' : Nat, e = .returned (.int .i64 m) ∧ (lo ≤ m ∧ m < hi) ∧ s' ≤ s + 3 ∧ Cnt w s' w' := by
  obtain ⟨p, hp⟩ : ∃ p : Nat, p = x - 1 := ⟨_, rfl⟩
  obtain ⟨n, hn⟩ : ∃ n : Nat, n = x + 1 := ⟨_, rfl⟩
  have hpz : (x : Int) - 1 = (p : Int) := by omega
  have hnz : (x : Int) + 1 = (n : Int) := by omega
  have HM := hide (median_any blk off cap len p x n s lo hi d w W hlen hH hblk hC hs (by omega) (by omega) (by omega) hhi hsz)
  obtain ⟨B, hB⟩ : ∃ B, B = w.heap.size := ⟨_, rfl⟩
  rw [← hB] at HM ⊢
  clear hH hC hB hblk hp hn
  go_enter Tryz.func194, Tryz.ntmps194
  go_wp2_with (go_at_call 195; refine (unhide HM).mono ?_; rintro e w1 ⟨m, s', rfl, hm, hs', hC'⟩)
  go_ret
  exact ⟨m, s', rfl, hm, hs', hC'⟩

set_option maxRecDepth 1000000 in
set_option maxHeartbeats 8000000 in
theorem pivot_any (blk off cap len a b : Nat) (d : Array Int) (w : World) (hlen : d.size = len) (hH : Holds encF w blk off d) (hblk : blk < w.heap.size) (hab : a < b) (hb : b ≤ len) (hsz : len < 4611686018427387904) :
    Calls Tryz.prog 177 #[.slice (some ⟨blk, off, none⟩) len cap, .int .i64 a, .int .i64 b] w fun e w' =>
      ∃ (m : Nat) (h : Int), e = .returned (.tuple #[.int .i64 m, .int .i64 h]) ∧ (a ≤ m ∧ m < b) ∧ ∃ n os, w' = grow (Sort.ahead w n) os := by
  obtain ⟨l, hl⟩ : ∃ l, l = b - a := ⟨_, rfl⟩
  obtain ⟨q, hq⟩ : ∃ q, q = l / 4 := ⟨_, rfl⟩
  obtain ⟨i, hi⟩ : ∃ i, i = a + q := ⟨_, rfl⟩
  obtain ⟨j, hj⟩ : ∃ j, j = a + q * 2 := ⟨_, rfl⟩
  obtain ⟨k, hk⟩ : ∃ k, k = a + q * 3 := ⟨_, rfl⟩
  have hlz : (b : Int) - (a : Int) = (l : Int) := by omega
  have hqz : (l : Int).tdiv 4 = (q : Int) := by rw [Int.tdiv_eq_ediv_of_nonneg (by omega)]; omega
  have hqz2 : (l : Int) / 4 = (q : Int) := by omega
  have hiz : (a : Int) + (q : Int) = (i : Int) := by omega
  have hjz : (a : Int) + (q : Int) * 2 = (j : Int) := by omega
  have hkz : (a : Int) + (q : Int) * 3 = (k : Int) := by omega
  have hjr : a ≤ j ∧ j < b := by omega
  have h8 : 8 ≤ l → (a ≤ i ∧ i < b) ∧ (a ≤ k ∧ k < b) := by omega
  have h50 : 50 ≤ l → (a + 1 ≤ i ∧ i + 1 < b) ∧ (a + 1 ≤ j ∧ j + 1 < b) ∧ (a + 1 ≤ k ∧ k + 1 < b) := by omega
  have hql : q ≤ l := by omega
  have hll : l ≤ len := by omega
  have HA := hide (fun (x s : Nat) W h1 h2 h3 => medianAdj_any blk off cap len x s a b d w W hlen hH hblk h1 h2 h3 hb hsz)
  have HM := hide (fun (x y z s : Nat) W h1 h2 h3 h4 h5 => median_any blk off cap len x y z s a b d w W hlen hH hblk h1 h2 h3 h4 h5 hb hsz)
  have HN := hide (Cnt.new w)
  clear hl hq hi hj hk hH
  go_enter Tryz.func177, Tryz.ntmps177
  by_cases c8 : 8 ≤ l
  · have c8z : (8 : Int) ≤ (l : Int) := by omega
    by_cases c50 : 50 ≤ l
    · have c50z : (50 : Int) ≤ (l : Int) := by omega
      obtain ⟨r1, r2, r3⟩ := h50 c50
      go_wp2_with (first
        | (go_at_call 194; first
          | (refine (unhide HA i 0 _ (unhide HN) (by omega) r1).mono ?_; rintro e w1 ⟨m1, s1, rfl, hm1, hs1, hC1⟩; have HC1 := hide hC1; clear hC1 HN)
          | (refine (unhide HA j s1 _ (unhide HC1) (by omega) r2).mono ?_; rintro e w2 ⟨m2, s2, rfl, hm2, hs2, hC2⟩; have HC2 := hide hC2; clear hC2 HC1)
          | (refine (unhide HA k s2 _ (unhide HC2) (by omega) r3).mono ?_; rintro e w3 ⟨m3, s3, rfl, hm3, hs3, hC3⟩; have HC3 := hide hC3; clear hC3 HC2))
        | (go_at_call 195; refine (unhide HM m1 m2 m3 s3 _ (unhide HC3) (by omega) hm1 hm2 hm3).mono ?_; rintro e w4 ⟨m4, s4, rfl, hm4, hs4, hC4⟩; have HC4 := hide hC4; obtain ⟨cc, _⟩ := hC4.cell; clear hC4 HC3))
      all_goals go_ret2
      all_goals exact ⟨m4, _, rfl, hm4, (unhide HC4).grown⟩
    · have c50z : ¬ (50 : Int) ≤ (l : Int) := by omega
      obtain ⟨r1, r3⟩ := h8 c8
      go_wp2_with (go_at_call 195; refine (unhide HM i j k 0 _ (unhide HN) (by omega) r1 hjr r3).mono ?_; rintro e w4 ⟨m4, s4, rfl, hm4, hs4, hC4⟩; have HC4 := hide hC4; obtain ⟨cc, _⟩ := hC4.cell; clear hC4 HN)
      all_goals go_ret2
      all_goals exact ⟨m4, _, rfl, hm4, (unhide HC4).grown⟩
  · have c8z : ¬ (8 : Int) ≤ (l : Int) := by omega
    go_wp2
    go_ret2
    exact ⟨j, ⟨_, rfl⟩, hjr, (unhide HN).grown⟩
end So
end Go.Proofs.YtlajdmjpobckhaaGreatDoor
/- Contract of (*slices.xorshift).Next, of the shelf, laid at this program: no walk of ours. -/
namespace Go.Proofs
open Go.Shelf
def Tryz.laysF48_ren : Go.Shelf.Ren := ⟨fun | 48 => 143 | n => n, fun | 0 => 0 | 39 => 170 | 55 => 201 | 66 => 212 | 76 => 231 | n => n, fun | n => n⟩
theorem Tryz.laysF48 : Go.Proofs.SlLaysF0.n48 Tryz.prog Tryz.laysF48_ren := {
  mixed := by kernel_rfl
  f48 := Tryz.func143.trans (congrArg some (by kernel_rfl))
  t0 := Tryz.underlying0
  a0 := Tryz.isAgg0
  z0 := Tryz.sizeOf0
  v0 := Tryz.zeroValue0
  t39 := Tryz.underlying170
  a39 := Tryz.isAgg170
  z39 := Tryz.sizeOf170
  v39 := Tryz.zeroValue170
  t55 := Tryz.underlying201
  a55 := Tryz.isAgg201
  z55 := Tryz.sizeOf201
  v55 := Tryz.zeroValue201
  t66 := Tryz.underlying212
  a66 := Tryz.isAgg212
  z66 := Tryz.sizeOf212
  v66 := Tryz.zeroValue212
  t76 := Tryz.underlying231
  a76 := Tryz.isAgg231
  z76 := Tryz.sizeOf231
  v76 := Tryz.zeroValue231 }
open Go.RowKit Go.Lib Go.Sort in
theorem Tryz.xorshift_Next (rb ro X : Nat) (hX : X < 18446744073709551616) (w : World) (hc : w.cell? ⟨rb, ro, none⟩ = some (.int .u64 X)) (hf : w.frozen? ⟨rb, ro, none⟩ = false) :
    Calls Tryz.prog 143 #[.pointer (some ⟨rb, ro, none⟩)] w fun e w' => e = .returned (.int .u64 (xorNextN X : Nat)) ∧ w' = (w.setCell ⟨rb, ro, none⟩ (.int .u64 (xorNextN X : Nat))).drewN 3 :=
  AnyF.xorshift_Next Tryz.laysF48 rb ro X hX w hc hf
end Go.Proofs
/- The shelf. -/
