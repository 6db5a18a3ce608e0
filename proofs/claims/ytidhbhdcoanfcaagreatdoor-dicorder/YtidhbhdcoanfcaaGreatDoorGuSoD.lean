import Derived.Test.YtidhbhdcoanfcaaGreatDoorGuSoK
import Derived.Test.YtidhbhdcoanfcaaGreatDoorGq06
import Derived.Test.YtidhbhdcoanfcaaGreatDoorGuSoQ
import Derived.Test.YtidhbhdcoanfcaaGreatDoorGuSoM
import Derived.Test.YtidhbhdcoanfcaaGreatDoorGq10
namespace Go.Proofs.YtidhbhdcoanfcaaGreatDoor
open Go.Sort Go.RowKit
namespace So

set_option maxRecDepth 1000000 in
set_option maxHeartbeats 32000000 in
theorem pdq_any : ∀ (N blk off cap len a b limit : Nat) (d : Array Int) (w : World), b - a < N → d.size = len → Holds encF w blk off d → blk < w.heap.size → a ≤ b → b ≤ len → len < 4611686018427387904 → limit < 4611686018427387904 → Go.Sort.Below ltInt a b d →
  Calls Tryz.prog 166 #[.slice (some ⟨blk, off, none⟩) len cap, .int .i64 a, .int .i64 b, .int .i64 limit] w fun e w' =>
   e = .returned (.tuple #[]) ∧ ∃ d', At encF w blk off d' w' ∧ PermIn a b d d' ∧ SortedIn ltInt a b d' := by
 intro N
 induction N with
 | zero => intro _ _ _ _ _ _ _ _ _ h; exact absurd h (Nat.not_lt_zero _)
 | succ N ih =>
  intro blk off cap len a b limit d w hN hlen hH hblk hab hb hsz hlimit hBel
  have HAT := hide (At.refl hH)
  have HH := hide hH
  have HK0 := hide (Kont.start (by omega) hab hBel)
  have HIH := hide ih
  clear hH hBel ih
  go_enter Tryz.func166, Tryz.ntmps166
  go_wp2
  go_loopg [1, 2, 3, 8, 9] (b - a) (fun k s1 s2 s3 s8 s9 wr => ∃ (i j lim : Nat) (wb wp : Bool) (dk : Array Int), s1 = .int .i64 i ∧ s2 = .int .i64 j ∧ s3 = .int .i64 lim ∧ s8 = .bool wb ∧ s9 = .bool wp ∧
   i ≤ j ∧ j ≤ len ∧ j - i ≤ k ∧ k ≤ b - a ∧ lim ≤ limit ∧ dk.size = len ∧ Hid (Kont a b d i j dk) ∧ Hid (At encF w blk off dk wr))
  case atStart => exact ⟨a, b, limit, true, true, d, rfl, rfl, rfl, rfl, rfl, hab, hb, Nat.le_refl _, Nat.le_refl _, Nat.le_refl _, hlen, HK0, HAT⟩
  case round =>
   obtain ⟨i, j, lim, wb, wp, dk, rfl, rfl, rfl, rfl, rfl, hij, hjl, hk, hkN, hlim, hsk, HK, HX⟩ := hrel
   have HOL := hide ((unhide HX).holds (unhide HH) (by omega) hblk)
   by_cases h12 : j - i ≤ 12
   ·have h12z : (j : Int) - (i : Int) ≤ 12 := by omega
    have HC := hide (insertion_any blk off cap len i j dk wr hsk (unhide HOL).1 (unhide HOL).2 hij hjl hsz)
    have HS := hide (insertionSort_holds (lt := ltInt) swo dk i j hij (by omega))
    go_wp2_with (go_at_call 178; refine (unhide HC).mono ?_; rintro e w1 ⟨rfl, h1⟩; have H1 := hide h1; clear h1)
    (try simp only [Exit.inBlock, Exit.then]); refine bodyPost_ret (results_none rfl _ _ _) rfl ?_
    obtain ⟨q1, q2⟩ := (unhide HK).go _ (unhide HS).1 (unhide HS).2
    exact ⟨rfl, _, (unhide HX).stepG hblk (unhide HS).1.1 (unhide H1), q1, q2⟩
   ·have h12z : ¬ ((j : Int) - (i : Int) ≤ 12) := by omega
    by_cases hl0 : lim = 0
    ·subst hl0
     have HC := hide (heap_any blk off cap len i j dk wr hsk (unhide HOL).1 (unhide HOL).2 hij hjl hsz)
     have HS := hide (heapSort_holds (lt := ltInt) swo dk i j hij (by omega))
     go_wp2_with (go_at_call 179; refine (unhide HC).mono ?_; rintro e w1 ⟨rfl, h1⟩; have H1 := hide h1; clear h1)
     (try simp only [Exit.inBlock, Exit.then]); refine bodyPost_ret (results_none rfl _ _ _) rfl ?_
     obtain ⟨q1, q2⟩ := (unhide HK).go _ (unhide HS).1 (unhide HS).2
     exact ⟨rfl, _, (unhide HX).stepG hblk (unhide HS).1.1 (unhide H1), q1, q2⟩
    ·have hl0z : ¬ ((lim : Int) = 0) := by omega
     go_upto_if 35 with fail
     go_cut [3] from 19 to 133 (fun s3 wc => ∃ (lim2 : Nat) (d1 : Array Int), s3 = .int .i64 lim2 ∧ lim2 ≤ limit ∧ d1.size = len ∧ Hid (Kont a b d i j d1) ∧ Hid (At encF w blk off d1 wc))
     case first =>
      cases wb
      ·have HC := hide (break_any blk off cap len i j dk wr hsk (unhide HOL).1 (unhide HOL).2 hij hjl hsz)
       go_wp2_with (go_at_call 180; refine (unhide HC).mono ?_; rintro e w1 ⟨rfl, d1, h1, p1⟩; have H1 := hide h1; have P1 := hide p1; clear h1 p1)
       go_meet
       case rel => exact ⟨lim - 1, d1, by congr 1; omega, by omega, by rw [(unhide P1).1]; exact hsk, hide ((unhide HK).perm (unhide P1)), hide ((unhide HX).stepG hblk (unhide P1).1 (unhide H1))⟩
      ·go_wp2_with fail
       go_meet
       case rel => exact ⟨lim, dk, rfl, hlim, hsk, HK, HX⟩
     case rest =>
      obtain ⟨lim2, d1, rfl, hlim2, hs1, HK1, HX1⟩ := hcut
      clear HK HX HOL hsk
      have HOL1 := hide ((unhide HX1).holds (unhide HH) (by omega) hblk)
      have HC1 := hide (pivot_any blk off cap len i j d1 wc hs1 (unhide HOL1).1 (unhide HOL1).2 (by omega) hjl hsz)
      go_upto_if 50 with (go_at_call 181; refine (unhide HC1).mono ?_; rintro e w2 ⟨pv, hint, rfl, hpv, h2⟩; have H2 := hide h2; clear h2)
      have HX2 := hide ((unhide HX1).same (unhide HH) (by omega) hblk (unhide H2))
      clear H2 HC1 HOL1 HX1
      have HOL2 := hide ((unhide HX2).holds (unhide HH) (by omega) hblk)
      go_cut [11, 12] from 19 to 133 (fun s11 s12 wc => ∃ (p2 : Nat) (h2 : Int) (d2 : Array Int), s11 = .int .i64 p2 ∧ s12 = .int .i64 h2 ∧ (i ≤ p2 ∧ p2 < j) ∧ d2.size = len ∧ Hid (Kont a b d i j d2) ∧ Hid (At encF w blk off d2 wc))
      case first =>
       by_cases hh : hint = 2
       ·subst hh
        have HC := hide (reverse_any blk off cap len i j d1 w2 hs1 (unhide HOL2).1 (unhide HOL2).2 hij hjl hsz)
        go_wp2_with (go_at_call 182; refine (unhide HC).mono ?_; rintro e w3 ⟨rfl, d2, h3, p3⟩; have H3 := hide h3; have P3 := hide p3; clear h3 p3)
        go_meet
        case rel => exact ⟨(j - 1) - (pv - i), 1, d2, by congr 1; omega, rfl, by omega, by rw [(unhide P3).1]; exact hs1, hide ((unhide HK1).perm (unhide P3)), hide ((unhide HX2).stepG hblk (unhide P3).1 (unhide H3))⟩
       ·have hhb : (hint == 2) = false := beq_eq_false_iff_ne.2 hh
        go_wp2_with fail
        go_meet
        case rel => exact ⟨pv, hint, d1, rfl, rfl, hpv, hs1, HK1, HX2⟩
      case rest =>
       obtain ⟨p2, h2, d2, rfl, rfl, hp2, hs2, HK2, HX3⟩ := hcut
       clear HK1 HX2 HOL2 hs1 hpv
       have HOL3 := hide ((unhide HX3).holds (unhide HH) (by omega) hblk)
       obtain ⟨V3, hV3⟩ : ∃ V, V = wc := ⟨_, rfl⟩
       subst hV3
       go_upto_region 15 with fail
       go_cut [68] from 19 to 133 (fun c wx => ∃ bb : Bool, c = .bool bb ∧ wx = V3)
       case first =>
        cases wb
        ·go_wp2_with fail
         go_meet
         case rel => exact ⟨_, rfl, rfl⟩
        ·cases wp
         ·go_wp2_with fail
          go_meet
          case rel => exact ⟨_, rfl, rfl⟩
         ·go_wp2_with fail
          go_meet
          case rel => exact ⟨_, rfl, rfl⟩
       case rest =>
        obtain ⟨bb, rfl, hwx⟩ := hcut
        subst hwx
        go_upto_if 68 with fail
        go_cut [] from 19 to 133 (fun wc => ∃ d3 : Array Int, d3.size = len ∧ Hid (Kont a b d i j d3) ∧ Hid (At encF w blk off d3 wc))
        case first =>
         cases bb
         ·go_wp2_with fail
          go_meet
          case rel => exact ⟨d2, hs2, HK2, HX3⟩
         ·have HC := hide (partial_any blk off cap len i j d2 _ hs2 (unhide HOL3).1 (unhide HOL3).2 (by omega) hjl hsz)
          have HS := hide (partialInsertionSort_holds (lt := ltInt) swo d2 i j (by omega) (by omega) (unhide HK2).below)
          generalize partialInsertionSort ltInt d2 i j = PR at *
          obtain ⟨pd, pb⟩ := PR
          cases pb
          ·go_wp2_with (go_at_call 183; refine (unhide HC).mono ?_; rintro e w4 ⟨rfl, h4⟩; have H4 := hide h4; clear h4)
           go_meet
           case rel => exact ⟨pd, by rw [(unhide HS).1.1]; exact hs2, hide ((unhide HK2).perm (unhide HS).1), hide ((unhide HX3).stepG hblk (unhide HS).1.1 (unhide H4))⟩
          ·go_wp2_with (go_at_call 183; refine (unhide HC).mono ?_; rintro e w4 ⟨rfl, h4⟩; have H4 := hide h4; clear h4)
           (try simp only [Exit.inBlock, Exit.then]); refine bodyPost_ret (results_none rfl _ _ _) rfl ?_
           obtain ⟨q1, q2⟩ := (unhide HK2).go _ (unhide HS).1 ((unhide HS).2 trivial)
           exact ⟨rfl, _, (unhide HX3).stepG hblk (unhide HS).1.1 (unhide H4), q1, q2⟩
        case rest =>
         obtain ⟨d3, hs3, HK3, HX4⟩ := hcut
         clear HK2 HX3 HOL3 hs2
         obtain ⟨V4, hV4⟩ : ∃ V, V = wc := ⟨_, rfl⟩
         subst hV4
         obtain ⟨G, hG⟩ : ∃ G : Nat → Int, ∀ t, G t = d3[t]! := ⟨fun t => d3[t]!, fun _ => rfl⟩
         obtain ⟨hc, hf⟩ := at_cells (unhide HX4) (unhide HH) (by omega) hblk hG
         rw [hlen] at hc hf
         have HG := hide hG
         clear hG
         go_wp2_with fail
         go_cut [87] from 19 to 133 (fun c wx => ∃ bb : Bool, c = .bool bb ∧ Hid (bb = true → 0 < i ∧ ltInt d3[i - 1]! d3[p2]! = false) ∧ Hid (At encF w blk off d3 wx))
         case first =>
          by_cases hi0 : 0 < i
          ·have hi0z : decide ((0 : Int) < (i : Int)) = true := decide_eq_true (by omega)
           go_quiet (first | (go_at_call 184; refine Calls.quiet_of_same (less_any _ _ _)))
           go_wp2
           go_meet
           case rel => exact ⟨_, rfl, hide (fun h => ⟨hi0, by simp only [← unhide HG] at h ⊢; simpa using h⟩), hide (at_drewN (unhide HX4) _)⟩
          ·have hi0z : decide ((0 : Int) < (i : Int)) = false := decide_eq_false (by omega)
           go_quiet (first | (go_at_call 184; refine Calls.quiet_of_same (less_any _ _ _)))
           go_wp2
           go_meet
           case rel => exact ⟨_, rfl, hide (fun h => by cases h), hide (at_drewN (unhide HX4) _)⟩
         case rest =>
          obtain ⟨bb2, rfl, HT, HX5⟩ := hcut
          clear HX4 hc hf HG
          have HOL5 := hide ((unhide HX5).holds (unhide HH) (by omega) hblk)
          cases bb2
          ·have HC := hide (part_any blk off cap len i j p2 d3 wc hs3 (unhide HOL5).1 (unhide HOL5).2 hp2.1 hp2.2 hjl hsz)
           clear HT
           go_upto_if 113 with (go_at_call 186; refine (unhide HC).mono ?_; rintro e w6 ⟨m, okp, d4, rfl, h6, q1, q2, q3, q4, q5⟩; have H6 := hide h6; have HSP := hide (Split.of q1 q2 q3 q4 q5); clear h6 q3 q4 q5)
           have hs4 : d4.size = len := by rw [(unhide HSP).perm.1]; exact hs3
           have HX6 := hide ((unhide HX5).stepG hblk (unhide HSP).perm.1 (unhide H6))
           have HOL6 := hide ((unhide HX6).holds (unhide HH) (by omega) hblk)
           clear H6 HX5 HOL5 HC
           by_cases hlr : m - i < j - m
           ·have hlrz : (m : Int) - (i : Int) < (j : Int) - (m : Int) := by omega
            have HL := hide ((unhide HK3).left (unhide HSP))
            have HR := hide (unhide HIH blk off cap len i m lim2 d4 w6 (by omega) hs4 (unhide HOL6).1 (unhide HOL6).2 q1 (by omega) hsz (by omega) (unhide HL).1)
            go_wp2_with (go_at_call 166; refine (unhide HR).mono ?_; rintro e w7 ⟨rfl, L, h7, p7, s7⟩; have H7 := hide h7; have P7 := hide p7; have HK7 := hide ((unhide HL).2 L p7 s7); clear h7 p7 s7)
            go_roundg (j - (m + 1))
            case measure => omega
            case rel => exact ⟨m + 1, j, lim2, _, okp, L, by go_num, rfl, rfl, rfl, rfl, by omega, hjl, Nat.le_refl _, by omega, hlim2, by rw [(unhide P7).1]; exact hs4, HK7, hide ((unhide HX6).stepG hblk (unhide P7).1 (unhide H7))⟩
           ·have hlrz : ¬ (m : Int) - (i : Int) < (j : Int) - (m : Int) := by omega
            have HL := hide ((unhide HK3).right (unhide HSP))
            obtain ⟨m1, hm1⟩ : ∃ m1, m1 = m + 1 := ⟨_, rfl⟩
            have hm1z : (m : Int) + 1 = (m1 : Int) := by omega
            have HR := hide (unhide HIH blk off cap len m1 j lim2 d4 w6 (by omega) hs4 (unhide HOL6).1 (unhide HOL6).2 (by omega) (by omega) hsz (by omega) (by rw [hm1]; exact (unhide HL).1))
            have HM1 := hide hm1
            clear hm1
            go_wp2_with (go_at_call 166; refine (unhide HR).mono ?_; rintro e w7 ⟨rfl, L, h7, p7, s7⟩; have H7 := hide h7; have P7 := hide p7; have HK7 := hide ((unhide HL).2 L (by rw [← unhide HM1]; exact p7) (by rw [← unhide HM1]; exact s7)); clear h7 p7 s7)
            go_roundg (m - i)
            case measure => omega
            case rel => exact ⟨i, m, lim2, _, okp, L, rfl, rfl, rfl, rfl, rfl, q1, by omega, Nat.le_refl _, by omega, hlim2, by rw [(unhide P7).1]; exact hs4, HK7, hide ((unhide HX6).stepG hblk (unhide P7).1 (unhide H7))⟩
          ·obtain ⟨hi0, hnl⟩ := unhide HT rfl
           have HNL := hide hnl
           clear hnl HT
           have HC := hide (equal_any blk off cap len i j p2 d3 wc hs3 (unhide HOL5).1 (unhide HOL5).2 hp2.1 hp2.2 hjl hsz)
           go_wp2_with (go_at_call 185; refine (unhide HC).mono ?_; rintro e w6 ⟨m, d4, rfl, h6, q1, q2, q3, q4, q5, q6⟩; have H6 := hide h6; have HK4 := hide ((unhide HK3).equal hi0 (unhide HNL) q1 q2 q3 q4 q5 q6); have P6 := hide q3; clear h6 q3 q4 q5 q6)
           go_roundg (j - m)
           case measure => omega
           case rel => exact ⟨m, j, lim2, wb, wp, d4, rfl, rfl, rfl, rfl, rfl, q2, hjl, Nat.le_refl _, by omega, hlim2, by rw [(unhide P6).1]; exact hs3, HK4, hide ((unhide HX5).stepG hblk (unhide P6).1 (unhide H6))⟩
end So
end Go.Proofs.YtidhbhdcoanfcaaGreatDoor
