/- Contract: slices.breakPatternsOrdered at flags: some order of the same flags in the range. -/
import Derived.Test.YtlajdmjpobckhaaGreatDoorGd01
import Derived.Test.YtlajdmjpobckhaaGreatDoorGd04
import Derived.Sort.Walk7
import Derived.Test.YtlajdmjpobckhaaGreatDoorGd03
import Derived.Shelf.SlicesE.Compact
import Derived.Test.YtlajdmjpobckhaaGreatDoorProg
import Derived.Test.YtlajdmjpobckhaaGreatDoorGd02
import Derived.Laws.OwnMore
import Derived.Laws.CopyOwn
import Derived.WalkKit
import Derived.Shelf.SlicesE.Index
namespace Go.Proofs.YtlajdmjpobckhaaGreatDoor
open Go.Sort Go.RowKit
namespace So

theorem nextPow_any (n : Nat) (hn : n < 4611686018427387904) (w : World) :
    Calls Tryz.prog 142 #[.int .i64 n] w fun e w' => e = .returned (.int .u64 ((1 <<< bitsLen n : Nat) : Int)) ∧ w' = w := by
  have hL : ∀ w, Calls Tryz.prog 92 #[.int .u64 (n : Int)] w fun e w' => e = .returned (.int .i64 (bitsLen n : Nat)) ∧ w' = w := fun w => by
    have h := Tryz.bits_Len (n : Int) w (by omega) (by omega)
    rwa [Int.toNat_natCast, bitLen_eq _ (by omega)] at h
  have hk : bitsLen n ≤ 62 := (bitsLen_le_iff n 62).2 (by omega)
  have hp := wrap_two_pow (bitsLen n) hk
  have hw : IntKind.u64.wrap (n : Int) = n := by simp [IntKind.wrap, IntKind.bits, IntKind.signed]; omega
  have HL := hide hL
  clear hL
  generalize bitsLen n = k at *
  go_enter Tryz.func142, Tryz.ntmps142
  go_wp2_with (go_at_call 92; refine (unhide HL _).mono ?_; rintro e w' ⟨rfl, rfl⟩)
  go_ret
  exact ⟨rfl, rfl⟩

/-- the row under way, and the generator in a block of its own behind it -/
def Rnd (w : World) (blk off : Nat) (X : Nat) (dk : Array Int) (W : World) : Prop := ∃ n, W = grow (putRow encF (Sort.ahead w n) blk off dk) #[Obj.cells #[.int .u64 (X : Int)] 212]
section
variable {w W : World} {blk off X : Nat} {d dk : Array Int}
theorem Rnd.at (h : Rnd w blk off X dk W) : At encF w blk off dk W := by
  obtain ⟨n, rfl⟩ := h
  exact ⟨n, _, rfl⟩
theorem Rnd.cell (h : Rnd w blk off X dk W) : W.cell? ⟨w.heap.size, 0, none⟩ = some (.int .u64 (X : Int)) ∧ W.frozen? ⟨w.heap.size, 0, none⟩ = false := by
  obtain ⟨n, rfl⟩ := h
  have hz : (putRow encF (Sort.ahead w n) blk off dk).heap.size = w.heap.size := by simp
  rw [← hz]
  exact ⟨grow_one_cell _ _ _, grow_one_frozen _ _ _⟩
theorem Rnd.set (h : Rnd w blk off X dk W) (Y : Nat) : Rnd w blk off Y dk (W.setCell ⟨w.heap.size, 0, none⟩ (.int .u64 (Y : Int))) := by
  obtain ⟨n, rfl⟩ := h
  have hz : (putRow encF (Sort.ahead w n) blk off dk).heap.size = w.heap.size := by simp
  rw [← hz]
  exact ⟨n, setCell_grow_one _ _ _ _⟩
theorem Rnd.drewN (h : Rnd w blk off X dk W) (q : Nat) : Rnd w blk off X dk (W.drewN q) := by
  obtain ⟨n, rfl⟩ := h
  refine ⟨n + q, ?_⟩
  rw [← putRow_drewN]
  rfl
theorem Rnd.swap (h : Rnd w blk off X dk W) (hb : blk < w.heap.size) {i j : Nat} (hi : i < dk.size) (hj : j < dk.size) {x y : Value} (hx : x = encF dk[j]!) (hy : y = encF dk[i]!) :
    Rnd w blk off X (swp dk i j) ((W.setCell ⟨blk, off + i, none⟩ x).setCell ⟨blk, off + j, none⟩ y) := by
  subst hx; subst hy
  obtain ⟨n, rfl⟩ := h
  refine ⟨n, ?_⟩
  rw [setCell_grow _ _ _ _ _ (by simpa using hb), setCell_grow _ _ _ _ _ (by simpa using hb), putRow_swp encF _ blk off dk i j hi hj]
theorem Rnd.new (hH : Holds encF w blk off d) (X : Nat) : Rnd w blk off X d (w.alloc (.cells #[.int .u64 (X : Int)] 212)) :=
  ⟨0, by rw [ahead_zero, putRow_self encF w blk off d hH, alloc_eq_grow]⟩
end

set_option maxRecDepth 1000000 in
set_option maxHeartbeats 8000000 in
theorem break_any (blk off cap len a b : Nat) (d : Array Int) (w : World) (hlen : d.size = len) (hH : Holds encF w blk off d) (hblk : blk < w.heap.size) (hab : a ≤ b) (hb : b ≤ len) (hsz : len < 4611686018427387904) :
    Calls Tryz.prog 176 #[.slice (some ⟨blk, off, none⟩) len cap, .int .i64 a, .int .i64 b] w fun e w' =>
      e = .returned (.tuple #[]) ∧ ∃ d', At encF w blk off d' w' ∧ PermIn a b d d' := by
  obtain ⟨l, hl⟩ : ∃ l, l = b - a := ⟨_, rfl⟩
  have hlz : (b : Int) - (a : Int) = (l : Int) := by omega
  have hll : l ≤ len := by omega
  have HAT := hide (At.refl hH)
  have HNW := hide (Rnd.new hH l)
  have HH := hide hH
  clear hH
  obtain ⟨q, hq⟩ : ∃ q, q = l / 4 := ⟨_, rfl⟩
  have hqz : (l : Int).tdiv 4 = (q : Int) := by rw [Int.tdiv_eq_ediv_of_nonneg (by omega)]; omega
  have hqz2 : (l : Int) / 4 = (q : Int) := by omega
  have hql : 4 * q ≤ l := by omega
  have hq2 : 8 ≤ l → 2 ≤ q := by omega
  have hab2 : a + l ≤ b := by omega
  clear hl hq
  by_cases c8 : 8 ≤ l
  · have c8z : (8 : Int) ≤ (l : Int) := by omega
    have hq3 := hq2 c8
    obtain ⟨M, hM⟩ : ∃ M : Nat, M = 1 <<< bitsLen l := ⟨_, rfl⟩
    have hM1 : 1 ≤ M := by rw [hM, Nat.one_shiftLeft]; exact Nat.two_pow_pos _
    have hM2 : M ≤ 2 * l := by rw [hM, Nat.one_shiftLeft]; exact two_pow_bitsLen_le (by omega)
    have hNP : ∀ w, Calls Tryz.prog 142 #[.int .i64 (l : Int)] w fun e w' => e = .returned (.int .u64 (M : Int)) ∧ w' = w := by rw [hM]; exact fun w => nextPow_any l (by omega) w
    have HNP := hide hNP
    clear hNP hM
    have hwl : IntKind.u64.wrap (l : Int) = l := by simp [IntKind.wrap, IntKind.bits, IntKind.signed]; omega
    go_enter Tryz.func176, Tryz.ntmps176
    go_wp2_with (go_at_call 142; refine (unhide HNP _).mono ?_; rintro e w1 ⟨rfl, hw1⟩; subst hw1)
    go_loopw [9] (fun vi wr => ∃ (i X : Nat) (dk : Array Int), vi = .int .i64 i ∧ a + q * 2 ≤ i + 1 ∧ i ≤ a + q * 2 + 2 ∧ X < 18446744073709551616 ∧ dk.size = len ∧ Hid (Rnd w blk off X dk wr) ∧ Hid (PermIn a b d dk)) (fun vi _ => (a + q * 2 + 3) - (intOf vi).toNat)
    case atStart => exact ⟨a + q * 2 - 1, l, d, by congr 1; omega, by omega, by omega, by omega, hlen, HNW, hide (permIn_refl _ _ _)⟩
    case round =>
      obtain ⟨i, X, dk, rfl, hi1, hi2, hX, hsk, HR, HP⟩ := hrel
      by_cases hlt : i ≤ a + q * 2 + 1
      · have hltz : (i : Int) ≤ (a : Int) + (q : Int) * 2 + 1 := by omega
        obtain ⟨Y, hYe⟩ : ∃ Y : Nat, Y = xorNextN X := ⟨_, rfl⟩
        have hY : Y < 18446744073709551616 := by rw [hYe]; exact xorNextN_lt X hX
        obtain ⟨O, hO⟩ : ∃ O : Nat, O = Y &&& (M - 1) := ⟨_, rfl⟩
        have lO : O ≤ M - 1 := by rw [hO]; exact Nat.and_le_right
        have eAnd : bits .and .u64 (Y : Int) ((M : Int) - 1) = (O : Int) := by
          rw [show ((M : Int) - 1) = ((M - 1 : Nat) : Int) by omega, bits_and_u64_nat _ _ hY (by omega), hO]
        have HNX : Hid (Calls Tryz.prog 143 #[.pointer (some ⟨w.heap.size, 0, none⟩)] wr fun e w' => e = .returned (.int .u64 (Y : Int)) ∧ Rnd w blk off Y dk w') := by
          obtain ⟨h1, h2⟩ := (unhide HR).cell
          refine (Tryz.xorshift_Next w.heap.size 0 X hX wr h1 h2).mono ?_
          rintro e w1 ⟨rfl, rfl⟩
          rw [← hYe]
          exact ⟨rfl, ((unhide HR).set Y).drewN 3⟩
        obtain ⟨G, hG⟩ : ∃ G : Nat → Int, ∀ t, G t = dk[t]! := ⟨fun t => dk[t]!, fun _ => rfl⟩
        have HG := hide hG
        clear hG hYe hO HR
        by_cases hLO : l ≤ O
        · have hLOz : (l : Int) ≤ (O : Int) := by omega
          obtain ⟨o, ho⟩ : ∃ o : Nat, o = O - l := ⟨_, rfl⟩
          have hoz : (O : Int) - (l : Int) = (o : Int) := by omega
          have hol : o < l := by omega
          clear ho
          by_cases hEq : i = a + o
          · subst hEq
            go_wp2_with (go_at_call 143; refine (unhide HNX).mono ?_; rintro e w1 ⟨rfl, hR1⟩; have HR1 := hide hR1; clear hR1; obtain ⟨hc, hf⟩ := at_cells (unhide HR1).at (unhide HH) (by omega) hblk (unhide HG); rw [hlen] at hc hf)
            go_region
            all_goals go_wp2
            go_roundw
            case rel => exact ⟨a + o + 1, Y, swp dk (a + o) (a + o), by go_num, by omega, by omega, hY, by rw [size_swp]; exact hsk, hide ((unhide HR1).drewN 1 |>.swap hblk (by omega) (by omega) (by rw [unhide HG]) (by rw [unhide HG])), hide (permIn_trans _ _ _ _ _ (unhide HP) (swp_permIn dk a b (a + o) (a + o) (by omega) (by omega) (by omega) (by omega) (by omega)))⟩
            case measure => simp [intOf] <;> omega
          · go_wp2_with (go_at_call 143; refine (unhide HNX).mono ?_; rintro e w1 ⟨rfl, hR1⟩; have HR1 := hide hR1; clear hR1; obtain ⟨hc, hf⟩ := at_cells (unhide HR1).at (unhide HH) (by omega) hblk (unhide HG); rw [hlen] at hc hf)
            go_region
            all_goals go_wp2
            go_roundw
            case rel => exact ⟨i + 1, Y, swp dk i (a + o), by go_num, by omega, by omega, hY, by rw [size_swp]; exact hsk, hide ((unhide HR1).drewN 1 |>.swap hblk (by omega) (by omega) (by rw [unhide HG]) (by rw [unhide HG])), hide (permIn_trans _ _ _ _ _ (unhide HP) (swp_permIn dk a b i (a + o) (by omega) (by omega) (by omega) (by omega) (by omega)))⟩
            case measure => simp [intOf] <;> omega
        · have hLOz : ¬ (l : Int) ≤ (O : Int) := by omega
          obtain ⟨o, ho⟩ : ∃ o : Nat, o = O := ⟨_, rfl⟩
          subst ho
          have hol : o < l := by omega
          by_cases hEq : i = a + o
          · subst hEq
            go_wp2_with (go_at_call 143; refine (unhide HNX).mono ?_; rintro e w1 ⟨rfl, hR1⟩; have HR1 := hide hR1; clear hR1; obtain ⟨hc, hf⟩ := at_cells (unhide HR1).at (unhide HH) (by omega) hblk (unhide HG); rw [hlen] at hc hf)
            go_region
            all_goals go_wp2
            go_roundw
            case rel => exact ⟨a + o + 1, Y, swp dk (a + o) (a + o), by go_num, by omega, by omega, hY, by rw [size_swp]; exact hsk, hide ((unhide HR1).drewN 1 |>.swap hblk (by omega) (by omega) (by rw [unhide HG]) (by rw [unhide HG])), hide (permIn_trans _ _ _ _ _ (unhide HP) (swp_permIn dk a b (a + o) (a + o) (by omega) (by omega) (by omega) (by omega) (by omega)))⟩
            case measure => simp [intOf] <;> omega
          · go_wp2_with (go_at_call 143; refine (unhide HNX).mono ?_; rintro e w1 ⟨rfl, hR1⟩; have HR1 := hide hR1; clear hR1; obtain ⟨hc, hf⟩ := at_cells (unhide HR1).at (unhide HH) (by omega) hblk (unhide HG); rw [hlen] at hc hf)
            go_region
            all_goals go_wp2
            go_roundw
            case rel => exact ⟨i + 1, Y, swp dk i (a + o), by go_num, by omega, by omega, hY, by rw [size_swp]; exact hsk, hide ((unhide HR1).drewN 1 |>.swap hblk (by omega) (by omega) (by rw [unhide HG]) (by rw [unhide HG])), hide (permIn_trans _ _ _ _ _ (unhide HP) (swp_permIn dk a b i (a + o) (by omega) (by omega) (by omega) (by omega) (by omega)))⟩
            case measure => simp [intOf] <;> omega
      · have hltz : ¬ (i : Int) ≤ (a : Int) + (q : Int) * 2 + 1 := by omega
        go_wp2
        go_end0
        exact ⟨rfl, dk, (unhide HR).at, unhide HP⟩
  · have c8z : ¬ (8 : Int) ≤ (l : Int) := by omega
    go_enter Tryz.func176, Tryz.ntmps176
    go_wp2
    go_end0
    exact ⟨rfl, d, unhide HAT, permIn_refl _ _ _⟩
end So
end Go.Proofs.YtlajdmjpobckhaaGreatDoor
/- Contract: slices.pdqsortOrdered at flags: the range holds the same flags, and they don't fall. -/
namespace Go.Proofs.YtlajdmjpobckhaaGreatDoor
open Go.Sort Go.RowKit
namespace So

set_option maxRecDepth 1000000 in
set_option maxHeartbeats 32000000 in
theorem pdq_any : ∀ (N blk off cap len a b limit : Nat) (d : Array Int) (w : World), b - a < N → d.size = len → Holds encF w blk off d → blk < w.heap.size → a ≤ b → b ≤ len → len < 4611686018427387904 → limit < 4611686018427387904 → Go.Sort.Below ltInt a b d →
    Calls Tryz.prog 162 #[.slice (some ⟨blk, off, none⟩) len cap, .int .i64 a, .int .i64 b, .int .i64 limit] w fun e w' =>
      e = .returned (.tuple #[]) ∧ ∃ d', At encF w blk off d' w' ∧ PermIn a b d d' ∧ SortedIn ltInt a b d' := by
  intro N
  induction N with
  | zero => intro _ _ _ _ _ _ _ _ _ h; exact absurd h (Nat.not_lt_zero _)
  | succ N ih =>
    intro blk off cap len a b limit d w hN hlen hH hblk hab hb hsz hlimit hBel
    have HAT := hide (At.refl hH)
    have HH := hide hH
    have HK0 := hide (Kont.start (by omega) hab hBel)
    have HIH := hide ih
    clear hH hBel ih
    go_enter Tryz.func162, Tryz.ntmps162
    go_wp2
    go_loopg [1, 2, 3, 8, 9] (b - a) (fun k s1 s2 s3 s8 s9 wr => ∃ (i j lim : Nat) (wb wp : Bool) (dk : Array Int), s1 = .int .i64 i ∧ s2 = .int .i64 j ∧ s3 = .int .i64 lim ∧ s8 = .bool wb ∧ s9 = .bool wp ∧
      i ≤ j ∧ j ≤ len ∧ j - i ≤ k ∧ k ≤ b - a ∧ lim ≤ limit ∧ dk.size = len ∧ Hid (Kont a b d i j dk) ∧ Hid (At encF w blk off dk wr))
    case atStart => exact ⟨a, b, limit, true, true, d, rfl, rfl, rfl, rfl, rfl, hab, hb, Nat.le_refl _, Nat.le_refl _, Nat.le_refl _, hlen, HK0, HAT⟩
    case round =>
      obtain ⟨i, j, lim, wb, wp, dk, rfl, rfl, rfl, rfl, rfl, hij, hjl, hk, hkN, hlim, hsk, HK, HX⟩ := hrel
      have HOL := hide ((unhide HX).holds (unhide HH) (by omega) hblk)
      by_cases h12 : j - i ≤ 12
      · have h12z : (j : Int) - (i : Int) ≤ 12 := by omega
        have HC := hide (insertion_any blk off cap len i j dk wr hsk (unhide HOL).1 (unhide HOL).2 hij hjl hsz)
        have HS := hide (insertionSort_holds (lt := ltInt) swo dk i j hij (by omega))
        go_wp2_with (go_at_call 174; refine (unhide HC).mono ?_; rintro e w1 ⟨rfl, h1⟩; have H1 := hide h1; clear h1)
        (try simp only [Exit.inBlock, Exit.then]); refine bodyPost_ret (results_none rfl _ _ _) rfl ?_
        obtain ⟨q1, q2⟩ := (unhide HK).go _ (unhide HS).1 (unhide HS).2
        exact ⟨rfl, _, (unhide HX).stepG hblk (unhide HS).1.1 (unhide H1), q1, q2⟩
      · have h12z : ¬ ((j : Int) - (i : Int) ≤ 12) := by omega
        by_cases hl0 : lim = 0
        · subst hl0
          have HC := hide (heap_any blk off cap len i j dk wr hsk (unhide HOL).1 (unhide HOL).2 hij hjl hsz)
          have HS := hide (heapSort_holds (lt := ltInt) swo dk i j hij (by omega))
          go_wp2_with (go_at_call 175; refine (unhide HC).mono ?_; rintro e w1 ⟨rfl, h1⟩; have H1 := hide h1; clear h1)
          (try simp only [Exit.inBlock, Exit.then]); refine bodyPost_ret (results_none rfl _ _ _) rfl ?_
          obtain ⟨q1, q2⟩ := (unhide HK).go _ (unhide HS).1 (unhide HS).2
          exact ⟨rfl, _, (unhide HX).stepG hblk (unhide HS).1.1 (unhide H1), q1, q2⟩
        · have hl0z : ¬ ((lim : Int) = 0) := by omega
          go_upto_if 35 with fail
          go_cut [3] from 19 to 133 (fun s3 wc => ∃ (lim2 : Nat) (d1 : Array Int), s3 = .int .i64 lim2 ∧ lim2 ≤ limit ∧ d1.size = len ∧ Hid (Kont a b d i j d1) ∧ Hid (At encF w blk off d1 wc))
          case first =>
            cases wb
            · have HC := hide (break_any blk off cap len i j dk wr hsk (unhide HOL).1 (unhide HOL).2 hij hjl hsz)
              go_wp2_with (go_at_call 176; refine (unhide HC).mono ?_; rintro e w1 ⟨rfl, d1, h1, p1⟩; have H1 := hide h1; have P1 := hide p1; clear h1 p1)
              go_meet
              case rel => exact ⟨lim - 1, d1, by congr 1; omega, by omega, by rw [(unhide P1).1]; exact hsk, hide ((unhide HK).perm (unhide P1)), hide ((unhide HX).stepG hblk (unhide P1).1 (unhide H1))⟩
            · go_wp2_with fail
              go_meet
              case rel => exact ⟨lim, dk, rfl, hlim, hsk, HK, HX⟩
          case rest =>
            obtain ⟨lim2, d1, rfl, hlim2, hs1, HK1, HX1⟩ := hcut
            clear HK HX HOL hsk
            have HOL1 := hide ((unhide HX1).holds (unhide HH) (by omega) hblk)
            have HC1 := hide (pivot_any blk off cap len i j d1 wc hs1 (unhide HOL1).1 (unhide HOL1).2 (by omega) hjl hsz)
            go_upto_if 50 with (go_at_call 177; refine (unhide HC1).mono ?_; rintro e w2 ⟨pv, hint, rfl, hpv, h2⟩; have H2 := hide h2; clear h2)
            have HX2 := hide ((unhide HX1).same (unhide HH) (by omega) hblk (unhide H2))
            clear H2 HC1 HOL1 HX1
            have HOL2 := hide ((unhide HX2).holds (unhide HH) (by omega) hblk)
            go_cut [11, 12] from 19 to 133 (fun s11 s12 wc => ∃ (p2 : Nat) (h2 : Int) (d2 : Array Int), s11 = .int .i64 p2 ∧ s12 = .int .i64 h2 ∧ (i ≤ p2 ∧ p2 < j) ∧ d2.size = len ∧ Hid (Kont a b d i j d2) ∧ Hid (At encF w blk off d2 wc))
            case first =>
              by_cases hh : hint = 2
              · subst hh
                have HC := hide (reverse_any blk off cap len i j d1 w2 hs1 (unhide HOL2).1 (unhide HOL2).2 hij hjl hsz)
                go_wp2_with (go_at_call 178; refine (unhide HC).mono ?_; rintro e w3 ⟨rfl, d2, h3, p3⟩; have H3 := hide h3; have P3 := hide p3; clear h3 p3)
                go_meet
                case rel => exact ⟨(j - 1) - (pv - i), 1, d2, by congr 1; omega, rfl, by omega, by rw [(unhide P3).1]; exact hs1, hide ((unhide HK1).perm (unhide P3)), hide ((unhide HX2).stepG hblk (unhide P3).1 (unhide H3))⟩
              · have hhb : (hint == 2) = false := beq_eq_false_iff_ne.2 hh
                go_wp2_with fail
                go_meet
                case rel => exact ⟨pv, hint, d1, rfl, rfl, hpv, hs1, HK1, HX2⟩
            case rest =>
              obtain ⟨p2, h2, d2, rfl, rfl, hp2, hs2, HK2, HX3⟩ := hcut
              clear HK1 HX2 HOL2 hs1 hpv
              have HOL3 := hide ((unhide HX3).holds (unhide HH) (by omega) hblk)
              obtain ⟨V3, hV3⟩ : ∃ V, V = wc := ⟨_, rfl⟩
              subst hV3
              go_upto_region 15 with fail
              go_cut [68] from 19 to 133 (fun c wx => ∃ bb : Bool, c = .bool bb ∧ wx = V3)
              case first =>
                cases wb
                · go_wp2_with fail
                  go_meet
                  case rel => exact ⟨_, rfl, rfl⟩
                · cases wp
                  · go_wp2_with fail
                    go_meet
                    case rel => exact ⟨_, rfl, rfl⟩
                  · go_wp2_with fail
                    go_meet
                    case rel => exact ⟨_, rfl, rfl⟩
              case rest =>
                obtain ⟨bb, rfl, hwx⟩ := hcut
                subst hwx
                go_upto_if 68 with fail
                go_cut [] from 19 to 133 (fun wc => ∃ d3 : Array Int, d3.size = len ∧ Hid (Kont a b d i j d3) ∧ Hid (At encF w blk off d3 wc))
                case first =>
                  cases bb
                  · go_wp2_with fail
                    go_meet
                    case rel => exact ⟨d2, hs2, HK2, HX3⟩
                  · have HC := hide (partial_any blk off cap len i j d2 _ hs2 (unhide HOL3).1 (unhide HOL3).2 (by omega) hjl hsz)
                    have HS := hide (partialInsertionSort_holds (lt := ltInt) swo d2 i j (by omega) (by omega) (unhide HK2).below)
                    generalize partialInsertionSort ltInt d2 i j = PR at *
                    obtain ⟨pd, pb⟩ := PR
                    cases pb
                    · go_wp2_with (go_at_call 179; refine (unhide HC).mono ?_; rintro e w4 ⟨rfl, h4⟩; have H4 := hide h4; clear h4)
                      go_meet
                      case rel => exact ⟨pd, by rw [(unhide HS).1.1]; exact hs2, hide ((unhide HK2).perm (unhide HS).1), hide ((unhide HX3).stepG hblk (unhide HS).1.1 (unhide H4))⟩
                    · go_wp2_with (go_at_call 179; refine (unhide HC).mono ?_; rintro e w4 ⟨rfl, h4⟩; have H4 := hide h4; clear h4)
                      (try simp only [Exit.inBlock, Exit.then]); refine bodyPost_ret (results_none rfl _ _ _) rfl ?_
                      obtain ⟨q1, q2⟩ := (unhide HK2).go _ (unhide HS).1 ((unhide HS).2 trivial)
                      exact ⟨rfl, _, (unhide HX3).stepG hblk (unhide HS).1.1 (unhide H4), q1, q2⟩
                case rest =>
                  obtain ⟨d3, hs3, HK3, HX4⟩ := hcut
                  clear HK2 HX3 HOL3 hs2
                  obtain ⟨V4, hV4⟩ : ∃ V, V = wc := ⟨_, rfl⟩
                  subst hV4
                  obtain ⟨G, hG⟩ : ∃ G : Nat → Int, ∀ t, G t = d3[t]! := ⟨fun t => d3[t]!, fun _ => rfl⟩
                  obtain ⟨hc, hf⟩ := at_cells (unhide HX4) (unhide HH) (by omega) hblk hG
                  rw [hlen] at hc hf
                  have HG := hide hG
                  clear hG
                  go_wp2_with fail
                  go_cut [87] from 19 to 133 (fun c wx => ∃ bb : Bool, c = .bool bb ∧ Hid (bb = true → 0 < i ∧ ltInt d3[i - 1]! d3[p2]! = false) ∧ Hid (At encF w blk off d3 wx))
                  case first =>
                    by_cases hi0 : 0 < i
                    · have hi0z : decide ((0 : Int) < (i : Int)) = true := decide_eq_true (by omega)
                      go_quiet (first | (go_at_call 180; refine Calls.quiet_of_same (less_any _ _ _)))
                      go_wp2
                      go_meet
                      case rel => exact ⟨_, rfl, hide (fun h => ⟨hi0, by simp only [← unhide HG] at h ⊢; simpa using h⟩), hide (at_drewN (unhide HX4) _)⟩
                    · have hi0z : decide ((0 : Int) < (i : Int)) = false := decide_eq_false (by omega)
                      go_quiet (first | (go_at_call 180; refine Calls.quiet_of_same (less_any _ _ _)))
                      go_wp2
                      go_meet
                      case rel => exact ⟨_, rfl, hide (fun h => by cases h), hide (at_drewN (unhide HX4) _)⟩
                  case rest =>
                    obtain ⟨bb2, rfl, HT, HX5⟩ := hcut
                    clear HX4 hc hf HG
                    have HOL5 := hide ((unhide HX5).holds (unhide HH) (by omega) hblk)
                    cases bb2
                    · have HC := hide (part_any blk off cap len i j p2 d3 wc hs3 (unhide HOL5).1 (unhide HOL5).2 hp2.1 hp2.2 hjl hsz)
                      clear HT
                      go_upto_if 113 with (go_at_call 182; refine (unhide HC).mono ?_; rintro e w6 ⟨m, okp, d4, rfl, h6, q1, q2, q3, q4, q5⟩; have H6 := hide h6; have HSP := hide (Split.of q1 q2 q3 q4 q5); clear h6 q3 q4 q5)
                      have hs4 : d4.size = len := by rw [(unhide HSP).perm.1]; exact hs3
                      have HX6 := hide ((unhide HX5).stepG hblk (unhide HSP).perm.1 (unhide H6))
                      have HOL6 := hide ((unhide HX6).holds (unhide HH) (by omega) hblk)
                      clear H6 HX5 HOL5 HC
                      by_cases hlr : m - i < j - m
                      · have hlrz : (m : Int) - (i : Int) < (j : Int) - (m : Int) := by omega
                        have HL := hide ((unhide HK3).left (unhide HSP))
                        have HR := hide (unhide HIH blk off cap len i m lim2 d4 w6 (by omega) hs4 (unhide HOL6).1 (unhide HOL6).2 q1 (by omega) hsz (by omega) (unhide HL).1)
                        go_wp2_with (go_at_call 162; refine (unhide HR).mono ?_; rintro e w7 ⟨rfl, L, h7, p7, s7⟩; have H7 := hide h7; have P7 := hide p7; have HK7 := hide ((unhide HL).2 L p7 s7); clear h7 p7 s7)
                        go_roundg (j - (m + 1))
                        case measure => omega
                        case rel => exact ⟨m + 1, j, lim2, _, okp, L, by go_num, rfl, rfl, rfl, rfl, by omega, hjl, Nat.le_refl _, by omega, hlim2, by rw [(unhide P7).1]; exact hs4, HK7, hide ((unhide HX6).stepG hblk (unhide P7).1 (unhide H7))⟩
                      · have hlrz : ¬ (m : Int) - (i : Int) < (j : Int) - (m : Int) := by omega
                        have HL := hide ((unhide HK3).right (unhide HSP))
                        obtain ⟨m1, hm1⟩ : ∃ m1, m1 = m + 1 := ⟨_, rfl⟩
                        have hm1z : (m : Int) + 1 = (m1 : Int) := by omega
                        have HR := hide (unhide HIH blk off cap len m1 j lim2 d4 w6 (by omega) hs4 (unhide HOL6).1 (unhide HOL6).2 (by omega) (by omega) hsz (by omega) (by rw [hm1]; exact (unhide HL).1))
                        have HM1 := hide hm1
                        clear hm1
                        go_wp2_with (go_at_call 162; refine (unhide HR).mono ?_; rintro e w7 ⟨rfl, L, h7, p7, s7⟩; have H7 := hide h7; have P7 := hide p7; have HK7 := hide ((unhide HL).2 L (by rw [← unhide HM1]; exact p7) (by rw [← unhide HM1]; exact s7)); clear h7 p7 s7)
                        go_roundg (m - i)
                        case measure => omega
                        case rel => exact ⟨i, m, lim2, _, okp, L, rfl, rfl, rfl, rfl, rfl, q1, by omega, Nat.le_refl _, by omega, hlim2, by rw [(unhide P7).1]; exact hs4, HK7, hide ((unhide HX6).stepG hblk (unhide P7).1 (unhide H7))⟩
                    · obtain ⟨hi0, hnl⟩ := unhide HT rfl
                      have HNL := hide hnl
                      clear hnl HT
                      have HC := hide (equal_any blk off cap len i j p2 d3 wc hs3 (unhide HOL5).1 (unhide HOL5).2 hp2.1 hp2.2 hjl hsz)
                      go_wp2_with (go_at_call 181; refine (unhide HC).mono ?_; rintro e w6 ⟨m, d4, rfl, h6, q1, q2, q3, q4, q5, q6⟩; have H6 := hide h6; have HK4 := hide ((unhide HK3).equal hi0 (unhide HNL) q1 q2 q3 q4 q5 q6); have P6 := hide q3; clear h6 q3 q4 q5 q6)
                      go_roundg (j - m)
                      case measure => omega
                      case rel => exact ⟨m, j, lim2, wb, wp, d4, rfl, rfl, rfl, rfl, rfl, q2, hjl, Nat.le_refl _, by omega, hlim2, by rw [(unhide P6).1]; exact hs3, HK4, hide ((unhide HX5).stepG hblk (unhide P6).1 (unhide H6))⟩
end So
end Go.Proofs.YtlajdmjpobckhaaGreatDoor
/- Contract of slices.Compact at flags, of the shelf, laid at this program: no walk of ours. -/
namespace Go.Proofs
open Go.Shelf
def Tryz.laysCo_ren : Go.Shelf.Ren := ⟨fun | 43 => 152 | n => n, fun | 0 => 0 | 3 => 3 | 4 => 4 | 22 => 176 | 23 => 61 | n => n, fun | n => n⟩
theorem Tryz.laysCo : Go.Proofs.SlLaysE.n43 Tryz.prog Tryz.laysCo_ren := {
  mixed := by kernel_rfl
  f43 := ⟨"slices.Compact[hornbook/flags.Set,hornbook/api.Flag]", by decide, Tryz.func152.trans (congrArg some (by kernel_rfl))⟩
  t0 := Tryz.underlying0
  a0 := Tryz.isAgg0
  z0 := Tryz.sizeOf0
  v0 := Tryz.zeroValue0
  t3 := Tryz.underlying3
  a3 := Tryz.isAgg3
  z3 := Tryz.sizeOf3
  v3 := Tryz.zeroValue3
  t4 := Tryz.underlying4
  a4 := Tryz.isAgg4
  z4 := Tryz.sizeOf4
  v4 := Tryz.zeroValue4
  t22 := Tryz.underlying176
  a22 := Tryz.isAgg176
  z22 := Tryz.sizeOf176
  v22 := Tryz.zeroValue176
  a23 := Tryz.isAgg61
  z23 := Tryz.sizeOf61 }
open Go.RowKit Go.Lib Go.Sort in
theorem Tryz.flag_Compact (blk off cap : Nat) (d : Array Int) (w : World) (hH : Holds (Value.int .u16) w blk off d) (hsz : d.size ≤ 9223372036854775807) (hcap : d.size ≤ cap) :
    Calls Tryz.prog 152 #[.slice (some ⟨blk, off, none⟩) d.size cap] w fun e w' => e = .returned (.slice (some ⟨blk, off, none⟩) (compactUpTo d d.size).length cap) ∧ ∃ q, w' = putRow (Value.int .u16) (Sort.ahead w q) blk off (compactUpTo d d.size ++ List.replicate (d.size - (compactUpTo d d.size).length) 0).toArray :=
  AnyE.slices_Compact Tryz.laysCo (Value.int .u16) (fun _ => rfl) (EqlAt.intD _ _ .u16) (NeqAt.intD _ _ .u16) 0 Tryz.zeroValue61 blk off cap d w hH hsz hcap
end Go.Proofs
/- Contracts: slices.Sort at flags, flags.own and flags.Of: the set of the flags, in memory of its own. -/
namespace Go.Proofs.YtlajdmjpobckhaaGreatDoor
open Go.Sort Go.RowKit
namespace So

set_option maxRecDepth 1000000 in
set_option maxHeartbeats 4000000 in
theorem sort_at (blk off cap len : Nat) (d : Array Int) (w : World) (hlen : d.size = len) (hH : Holds encF w blk off d) (hblk : blk < w.heap.size) (hsz : len < 4611686018427387904) :
    Calls Tryz.prog 151 #[.slice (some ⟨blk, off, none⟩) len cap] w fun e w' =>
      e = .returned (.tuple #[]) ∧ ∃ d', At encF w blk off d' w' ∧ PermIn 0 len d d' ∧ SortedIn ltInt 0 len d' := by
  have hL : ∀ w, Calls Tryz.prog 92 #[.int .u64 (len : Int)] w fun e w' => e = .returned (.int .i64 (bitsLen len : Nat)) ∧ w' = w := fun w => by
    have h := Tryz.bits_Len (len : Int) w (by omega) (by omega)
    rwa [Int.toNat_natCast, bitLen_eq _ (by omega)] at h
  have hk : bitsLen len ≤ 62 := (bitsLen_le_iff len 62).2 (by omega)
  have hw : IntKind.u64.wrap (len : Int) = len := by simp [IntKind.wrap, IntKind.bits, IntKind.signed]; omega
  have HP := hide (pdq_any (len + 1) blk off cap len 0 len (bitsLen len) d w (by omega) hlen hH hblk (Nat.zero_le _) (Nat.le_refl _) hsz (by omega) (.inl rfl))
  have HL := hide hL
  clear hL hH
  generalize bitsLen len = k at *
  go_enter Tryz.func151, Tryz.ntmps151
  go_wp2_with (first
    | (go_at_call 92; refine (unhide HL _).mono ?_; rintro e w1 ⟨rfl, hw1⟩; obtain rfl := hw1.symm)
    | (go_at_call 162; refine (unhide HP).mono ?_; rintro e w2 ⟨rfl, h2⟩))
  go_end0
  exact ⟨rfl, h2⟩

theorem infoF : (Tryz.prog.info? 61).map (fun i => (i.zero, i.size, i.bytes)) = some (some (.int .u16 0), 1, 2) := by kernel_rfl
theorem info_parts {P : Program} {e : TypeId} {z : Value} {s b : Nat} (h : (P.info? e).map (fun i => (i.zero, i.size, i.bytes)) = some (some z, s, b)) : ∃ i, P.info? e = some i ∧ i.zero = some z ∧ i.size = s ∧ i.bytes = b := by
  cases hi : P.info? e with
  | none => rw [hi] at h; cases h
  | some i => rw [hi] at h; simp at h; exact ⟨i, rfl, h.1, h.2.1, h.2.2⟩
theorem copy_run (dT sT : TypeId) (hu : Tryz.prog.underlying dT = some (.slice 61)) (W : World) (g n cap : Nat) (ao : Option Addr) (cur : Array Value) (cs : List Value) (hh : W.heap[g]? = some (.cells cur 61 (0, 0))) (hcl : cs.length = n)
    (hsrc : 0 < n → ∃ ad, ao = some ad ∧ ∀ j v, cs[j]? = some v → W.cell? (ad.add j) = some v) (hfit : n ≤ cur.size) (hone : ∀ v ∈ cs, v.oneCell' = true) :
    ∃ W2, (Builtin.copy_ #[dT, sT] 3 #[.slice (some ⟨g, 0, none⟩) n n, .slice ao n cap]).run Tryz.prog W = .ok (goInt n) W2 ∧ W2.heap[g]? = some (.cells (cs ++ cur.toList.drop n).toArray 61 (0, 0)) ∧ Go.RowKit.Below g W W2 := by
  have hgs : g < W.heap.size := (Array.getElem?_eq_some_iff.1 hh).1
  by_cases h0 : n = 0
  · subst h0
    refine ⟨W, ?_, ?_, Go.RowKit.Below.refl _ _⟩
    · exact run_copy_none W dT sT 3 61 _ _ 0 0 0 cap hu (by kernel_rfl) (by simp)
    · have : cs = [] := List.eq_nil_of_length_eq_zero hcl
      rw [this, hh]
      simp
  · obtain ⟨ad, rfl, hs⟩ := hsrc (by omega)
    have hr := run_copy_row (P := Tryz.prog) W dT sT 3 61 g 0 n n ad n cap cur 61 cs hu (by kernel_rfl) hh (by rw [hcl]; simp) hs (by omega) hone
    rw [hcl] at hr
    refine ⟨_, hr, ?_, ?_⟩
    · rw [setRow_heap W g cur _ _ _ hh]
      simp
    · exact ⟨rfl, rfl, rfl, by simp [World.setRow], fun k hk => setRow_other W g k _ (by omega)⟩

set_option maxRecDepth 1000000 in
set_option maxHeartbeats 4000000 in
theorem own_any (v : Value) (L : List Int) (w : World) (hA : FArg w v L) (hn : L.length ≤ 1099511627776) :
    Calls Tryz.prog 150 #[v] w fun e w' => ∃ u, e = .returned u ∧ FRow w.heap.size w' u L ∧ Go.RowKit.Below w.heap.size w w' := by
  obtain ⟨i0, hi, hz0, hz1, hz2⟩ := info_parts infoF
  obtain ⟨ao, cap, rfl, hc, hm, _, hcell⟩ := hA
  obtain ⟨w1, hrun, hown, hgrow⟩ := run_make_full (P := Tryz.prog) w w.heap.size 176 61 i0 (.int .u16 0) 1 Tryz.underlying176 hi hz0 hz1 .i64 .i64 L.length (by rw [hz2]; omega) (by unfold maxLen; omega) (Nat.le_refl _)
  have hB1 : Go.RowKit.Below w.heap.size w w1 := (Go.RowKit.Below.refl _ w).grown hgrow (Nat.le_refl _) (fun k e => by cases e)
  obtain ⟨_, ⟨e0, _⟩ | ⟨g, cap1, cur, e1, hg, hh, hc1, hm1, hs1, _⟩⟩ := hown
  · cases e0
  · injection e1 with e1 _ e3
    injection e1 with e1
    injection e1 with e1 _ _
    subst e3
    rw [← e1] at hh
    obtain ⟨w2, hcopy, hw2, hB2⟩ := copy_run 176 39 Tryz.underlying176 w1 w.heap.size L.length cap ao cur (L.map encF) hh (by simp) (fun h0 => by
      obtain ⟨g, off, e, hg, hx⟩ := hcell h0
      refine ⟨_, e, fun j v hv => ?_⟩
      simp only [List.getElem?_map, Option.map_eq_some_iff] at hv
      obtain ⟨x, hx2, rfl⟩ := hv
      rw [Go.WideShapes.add_plain]
      exact (hB1.cell (p := ⟨g, off + j, none⟩) hg).trans (hx j x hx2)) (by omega) (fun v hv => by
      obtain ⟨x, _, rfl⟩ := List.mem_map.1 hv
      rfl)
    have HFIN : Hid (FRow w.heap.size w2 (.slice (some ⟨w.heap.size, 0, none⟩) L.length L.length) L) := by
      refine ⟨w.heap.size, L.length, _, rfl, Nat.le_refl _, hw2, Nat.le_refl _, by unfold maxLen; omega, ?_, ?_⟩
      · simp; omega
      · simp
    have HB2 : Hid (Go.RowKit.Below w.heap.size w w2) := hB1.trans hB2
    have hlen : (L.length : Int) ≤ 1099511627776 := by omega
    clear hcell hgrow hi hz0 hz1 hz2 e1 hg hs1 hc1 hm1 hc hm hh hw2 hB1 hB2
    generalize L.length = n at *
    go_enter Tryz.func150, Tryz.ntmps150
    go_wp2
    go_ret
    exact ⟨_, rfl, unhide HFIN, unhide HB2⟩

set_option maxRecDepth 1000000 in
set_option maxHeartbeats 4000000 in
theorem of_any (v : Value) (L : List Int) (w : World) (hA : FArg w v L) (hn : L.length ≤ 1099511627776) :
    Calls Tryz.prog 131 #[v] w fun e w' => ∃ u l, e = .returned u ∧ IsSet l L ∧ FRow w.heap.size w' u l ∧ Go.RowKit.Below w.heap.size w w' := by
  have HO := hide (own_any v L w hA hn)
  have HS : Hid (∀ W u, FRow w.heap.size W u L → Go.RowKit.Below w.heap.size w W → Calls Tryz.prog 151 #[u] W fun e w' => e = .returned (.tuple #[]) ∧ ∃ d' : Array Int, d'.size = L.length ∧ d'.toList.Perm L ∧ SortedIn ltInt 0 L.length d' ∧ FRow w.heap.size w' u d'.toList ∧ Go.RowKit.Below w.heap.size w w') := fun W u hF hB => by
    obtain ⟨g, cap, rfl, hg, hgs, h1, h2, hH⟩ := hF.cells
    refine (sort_at g 0 cap L.length L.toArray W (by simp) hH hgs (by omega)).mono ?_
    rintro e w' ⟨rfl, d', hat, hp, hs⟩
    have hsz : d'.size = L.length := by rw [hp.1]; simp
    refine ⟨rfl, d', hsz, ?_, hs, hF.at hat hsz, hB.trans (at_below hat hg hB.size)⟩
    have := hp.2.2
    rw [Array.extract_eq_self_of_le (by omega), Array.extract_eq_self_of_le (by simp)] at this
    simpa using this
  have HC : Hid (∀ W u (d : Array Int), d.size = L.length → d.toList.Perm L → SortedIn ltInt 0 L.length d → FRow w.heap.size W u d.toList → Go.RowKit.Below w.heap.size w W → Calls Tryz.prog 152 #[u] W fun e w' => ∃ u l, e = .returned u ∧ IsSet l L ∧ FRow w.heap.size w' u l ∧ Go.RowKit.Below w.heap.size w w') := fun W u d hd hp hs hF hB => by
    obtain ⟨g, cap, rfl, hg, hgs, h1, h2, hH⟩ := hF.cells
    simp only [Array.toArray_toList, Array.length_toList] at hH h1 ⊢
    have hset : IsSet (Lib.compactUpTo d d.size) d.toList := compact_set fun i j hij hj => lt_false.1 (hs i j (Nat.zero_le _) hij (by omega))
    refine (Tryz.flag_Compact g 0 cap d W hH (by omega) h1).mono ?_
    rintro e w' ⟨rfl, q, rfl⟩
    have hl := hset.len
    generalize hCq : Lib.compactUpTo d d.size = C at *
    simp only [Array.length_toList] at hl
    have hat : At encF W g 0 (C ++ List.replicate (d.size - C.length) 0).toArray (putRow encF (Sort.ahead W q) g 0 (C ++ List.replicate (d.size - C.length) 0).toArray) := ⟨q, #[], by rw [grow_empty]⟩
    have hF2 := hF.at hat (by simp; omega)
    simp only [Array.length_toList] at hF2
    have e3 : d.size = (C ++ List.replicate (d.size - C.length) 0).length := by simp; omega
    have hF3 : FRow w.heap.size (putRow encF (Sort.ahead W q) g 0 (C ++ List.replicate (d.size - C.length) 0).toArray) (.slice (some ⟨g, 0, none⟩) (C ++ List.replicate (d.size - C.length) (0 : Int)).length cap) (C ++ List.replicate (d.size - C.length) 0) := by
      rw [← e3]
      exact hF2
    refine ⟨_, C, rfl, hset.congr fun x => hp.mem_iff, hF3.take (List.prefix_append _ _), hB.trans (at_below hat hg hB.size)⟩
  clear hA hn
  go_enter Tryz.func131, Tryz.ntmps131
  go_wp2_with (first
    | (go_at_call 150; refine (unhide HO).mono ?_; rintro e w1 ⟨u, rfl, hF, hB⟩; have HF := hide hF; have HB := hide hB; clear hF hB)
    | (go_at_call 151; refine (unhide HS _ _ (unhide HF) (unhide HB)).mono ?_; rintro e w2 ⟨rfl, d', hd, hp, hs, hF2, hB2⟩; have HX := hide (unhide HC _ _ d' hd hp hs hF2 hB2); clear hd hp hs hF2 hB2)
    | (go_at_call 152; refine (unhide HX).mono ?_; rintro e w3 ⟨u3, l, rfl, h3⟩; have H3 := hide h3; clear h3))
  go_ret
  exact ⟨u3, l, rfl, unhide H3⟩
theorem of_set (v : Value) (L : List Int) (w : World) (hA : FArg w v L) (hn : L.length ≤ 1099511627776) :
    Calls Tryz.prog 131 #[v] w fun e w' => ∃ u, e = .returned u ∧ FRow w.heap.size w' u (setOf L) ∧ Go.RowKit.Below w.heap.size w w' := by
  refine (of_any v L w hA hn).mono ?_
  rintro e w' ⟨u, l, rfl, h1, h2, h3⟩
  rw [h1.eq] at h2
  exact ⟨u, rfl, h2, h3⟩
end So
end Go.Proofs.YtlajdmjpobckhaaGreatDoor
/- Contract of slices.Contains at flags, of the shelf, laid at this program: no walk of ours. -/
namespace Go.Proofs
open Go.Shelf
end Go.Proofs
