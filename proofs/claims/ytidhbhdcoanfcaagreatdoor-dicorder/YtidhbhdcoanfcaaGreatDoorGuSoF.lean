import Derived.Test.YtidhbhdcoanfcaaGreatDoorGq03
namespace Go.Proofs.YtidhbhdcoanfcaaGreatDoor
open Go.Sort Go.RowKit
namespace So
def pL (v x : Int) : Bool := ltInt x v

set_option maxRecDepth 1000000 in
set_option maxHeartbeats 16000000 in
theorem part_any (blk off cap len a b pv : Nat) (d : Array Int) (w : World) (hlen : d.size = len) (hH : Holds encF w blk off d) (hblk : blk < w.heap.size) (hap : a ≤ pv) (hpb : pv < b) (hb : b ≤ len) (hsz : len < 4611686018427387904) :
  Calls Tryz.prog 186 #[.slice (some ⟨blk, off, none⟩) len cap, .int .i64 a, .int .i64 b, .int .i64 pv] w fun e w' =>
   ∃ (m : Nat) (ok : Bool) (d' : Array Int), e = .returned (.tuple #[.int .i64 m, .bool ok]) ∧ At encF w blk off d' w' ∧ a ≤ m ∧ m < b ∧ PermIn a b d d' ∧ (∀ t, a ≤ t → t < m → pL d'[m]! d'[t]! = true) ∧ ∀ t, m < t → t < b → pL d'[m]! d'[t]! = false := by
 have HAT := hide (At.refl hH)
 have HH := hide hH
 clear hH
 go_enter Tryz.func186, Tryz.ntmps186
 go_wp2_with fail
 go_cut [] from 12 (fun wc => Hid (At encF w blk off (swp d a pv) wc))
 case first =>
  obtain ⟨G, hG⟩ : ∃ G : Nat → Int, ∀ t, G t = d[t]! := ⟨fun t => d[t]!, fun _ => rfl⟩
  obtain ⟨hc, hf⟩ := at_cells (unhide HAT) (unhide HH) rfl hblk hG
  rw [hlen] at hc hf
  have HG := hide hG
  clear hG
  by_cases e : a = pv
  ·subst e
   go_region
   all_goals go_wp2_with fail
   go_meet
   case rel => exact hide (at_swap (at_drewN (unhide HAT) 1) (unhide HH) rfl hblk (by omega) (by omega) (by rw [unhide HG]) (by rw [unhide HG]))
  ·go_region
   all_goals go_wp2_with fail
   go_meet
   case rel => exact hide (at_swap (at_drewN (unhide HAT) 1) (unhide HH) rfl hblk (by omega) (by omega) (by rw [unhide HG]) (by rw [unhide HG]))
 case rest =>
  have HX0 := hcut
  obtain ⟨i0, hi0⟩ : ∃ i0, i0 = a + 1 := ⟨_, rfl⟩
  obtain ⟨j0, hj0⟩ : ∃ j0, j0 = b - 1 := ⟨_, rfl⟩
  have HPI0 : Hid (PI pL a b i0 j0 d (swp d a pv)) := by subst hi0; subst hj0; exact PI.start (by omega) (by omega) (swp_permIn d a b a pv (by omega) (by omega) hap hpb (by omega))
  have hsk : (swp d a pv).size = len := by rw [size_swp]; exact hlen
  have HXX : Hid (At encF w blk off (swp d a pv) wc) := hcut
  clear hcut HX0
  have hai0 : a < i0 := by omega
  have hij0 : i0 ≤ j0 + 1 := by omega
  have hjb0 : j0 < b := by omega
  have hi0z : (a : Int) + 1 = (i0 : Int) := by omega
  have hj0z : (b : Int) - 1 = (j0 : Int) := by omega
  clear hi0 hj0
  generalize swp d a pv = dk at *
  obtain ⟨V, hV⟩ : ∃ V, V = wc := ⟨_, rfl⟩
  subst hV
  go_wp2_with fail
  go_loopg [10] b (fun k2 s9 wr => ∃ i : Nat, s9 = .int .i64 i ∧ j0 + 1 - i ≤ k2 ∧ i0 ≤ i ∧ a < i ∧ i ≤ j0 + 1 ∧ Hid (PI pL a b i j0 d dk) ∧ Hid (At encF w blk off dk wr))
  case atStart => exact ⟨i0, rfl, by omega, Nat.le_refl _, hai0, hij0, HPI0, HXX⟩
  case round =>
   obtain ⟨i, rfl, hk2, hii, hai, hij1, HPI, HX⟩ := hrel
   obtain ⟨j, hj⟩ : ∃ j, j = j0 := ⟨_, rfl⟩
   subst hj
   obtain ⟨G, hG⟩ : ∃ G : Nat → Int, ∀ t, G t = dk[t]! := ⟨fun t => dk[t]!, fun _ => rfl⟩
   obtain ⟨hc, hf⟩ := at_cells (unhide HX) (unhide HH) (by omega) hblk hG
   rw [hlen] at hc hf
   have HG := hide hG
   clear hG
   go_wp2_with fail
   go_cut [43] from 30 to 45 (fun c wx => ∃ bb : Bool, c = .bool bb ∧ Hid (bb = true → i ≤ j ∧ pL dk[a]! dk[i]! = true) ∧ Hid (bb = false → i ≤ j → pL dk[a]! dk[i]! = false) ∧ Hid (At encF w blk off dk wx))
   case first =>
    by_cases hij : i ≤ j
    ·have hijz : decide ((i : Int) ≤ (j : Int)) = true := decide_eq_true (by omega)
     go_quiet (first | (go_at_call 184; refine Calls.quiet_of_same (less_any _ _ _)))
     go_wp2
     go_meet
     case rel => exact ⟨_, rfl, hide (fun h => ⟨hij, by simp only [pL, ← unhide HG] at h ⊢; simpa using h⟩), hide (fun h _ => by simp only [pL, ← unhide HG] at h ⊢; simpa using h), hide (at_drewN (unhide HX) _)⟩
    ·have hijz : decide ((i : Int) ≤ (j : Int)) = false := decide_eq_false (by omega)
     go_quiet (first | (go_at_call 184; refine Calls.quiet_of_same (less_any _ _ _)))
     go_wp2
     go_meet
     case rel => exact ⟨_, rfl, hide (fun h => by cases h), hide (fun _ h => absurd h hij), hide (at_drewN (unhide HX) _)⟩
   case rest =>
    obtain ⟨bb, rfl, HT, HF, HX2⟩ := hcut
    cases bb
    ·have HNI : Hid (i ≤ j → pL dk[a]! dk[i]! = false) := unhide HF rfl
     clear HT HF HX hc hf HG
     obtain ⟨V2, hV2⟩ : ∃ V, V = wc := ⟨_, rfl⟩
     subst hV2
     obtain ⟨j1, hj1⟩ : ∃ j1, j1 = j := ⟨_, rfl⟩
     subst hj1
     go_wp2_with fail
     go_loopg [11] b (fun k3 s10 wr => ∃ j : Nat, s10 = .int .i64 j ∧ j + 1 - i ≤ k3 ∧ j ≤ j1 ∧ i ≤ j + 1 ∧ j < b ∧ Hid (PI pL a b i j d dk) ∧ Hid (At encF w blk off dk wr))
     case atStart => exact ⟨j1, rfl, by omega, Nat.le_refl _, hij1, hjb0, HPI, HX2⟩
     case round =>
      obtain ⟨j, rfl, hk3, hjj, hij2, hjb, HPI2, HX⟩ := hrel
      obtain ⟨G, hG⟩ : ∃ G : Nat → Int, ∀ t, G t = dk[t]! := ⟨fun t => dk[t]!, fun _ => rfl⟩
      obtain ⟨hc, hf⟩ := at_cells (unhide HX) (unhide HH) (by omega) hblk hG
      rw [hlen] at hc hf
      have HG := hide hG
      clear hG
      go_wp2_with fail
      go_cut [60] from 46 to 62 (fun c wx => ∃ bb : Bool, c = .bool bb ∧ Hid (bb = true → i ≤ j ∧ pL dk[a]! dk[j]! = false) ∧ Hid (bb = false → i ≤ j → pL dk[a]! dk[j]! = true) ∧ Hid (At encF w blk off dk wx))
      case first =>
       by_cases hij : i ≤ j
       ·have hijz : decide ((i : Int) ≤ (j : Int)) = true := decide_eq_true (by omega)
        go_quiet (first | (go_at_call 184; refine Calls.quiet_of_same (less_any _ _ _)))
        go_wp2
        go_meet
        case rel => exact ⟨_, rfl, hide (fun h => ⟨hij, by simp only [pL, ← unhide HG] at h ⊢; simpa using h⟩), hide (fun h _ => by simp only [pL, ← unhide HG] at h ⊢; simpa using h), hide (at_drewN (unhide HX) _)⟩
       ·have hijz : decide ((i : Int) ≤ (j : Int)) = false := decide_eq_false (by omega)
        go_quiet (first | (go_at_call 184; refine Calls.quiet_of_same (less_any _ _ _)))
        go_wp2
        go_meet
        case rel => exact ⟨_, rfl, hide (fun h => by cases h), hide (fun _ h => absurd h hij), hide (at_drewN (unhide HX) _)⟩
      case rest =>
       obtain ⟨bb, rfl, HT, HF, HX3⟩ := hcut
       cases bb
       ·have HNJ : Hid (i ≤ j → pL dk[a]! dk[j]! = true) := unhide HF rfl
        clear HT HF HX hc hf HG HX2 HPI
        obtain ⟨V3, hV3⟩ : ∃ V, V = wc := ⟨_, rfl⟩
        subst hV3
        by_cases hij : i ≤ j
        ·have hijz : ¬ (j : Int) < (i : Int) := by omega
         obtain ⟨hlt, hsw⟩ := (unhide HPI2).swap hij (unhide HNI (by omega)) (unhide HNJ hij)
         have HSW := hide hsw
         clear hsw
         obtain ⟨G, hG⟩ : ∃ G : Nat → Int, ∀ t, G t = dk[t]! := ⟨fun t => dk[t]!, fun _ => rfl⟩
         obtain ⟨hc, hf⟩ := at_cells (unhide HX3) (unhide HH) (by omega) hblk hG
         rw [hlen] at hc hf
         have HG := hide hG
         clear hG
         have HY : Hid (∀ W2, W2 = ((V3.setCell ⟨blk, off + i, none⟩ (.int .u16 (G j))).setCell ⟨blk, off + j, none⟩ (.int .u16 (G i))).drew → At encF w blk off (swp dk i j) W2) := by
          intro W2 h2
          subst h2
          exact at_swap (at_drewN (unhide HX3) 1) (unhide HH) (by omega) hblk (by omega) (by omega) (by rw [unhide HG]) (by rw [unhide HG])
         have hsk2 : (swp dk i j).size = len := by rw [size_swp]; exact hsk
         generalize swp dk i j = dq at *
         go_wp2_with fail
         go_region
         all_goals go_wp2_with fail
         have HX9 := hide (unhide HY _ rfl)
         clear hc hf HY HG
         go_loopg [10, 11] b (fun k s9 s10 wr => ∃ (i j : Nat) (dk : Array Int), s9 = .int .i64 i ∧ s10 = .int .i64 j ∧ j + 1 - i ≤ k ∧ dk.size = len ∧ a < i ∧ i ≤ j + 1 ∧ j < b ∧ Hid (PI pL a b i j d dk) ∧ Hid (At encF w blk off dk wr))
         case atStart => exact ⟨i + 1, j - 1, dq, by go_num, by congr 1; omega, by omega, hsk2, by omega, by omega, by omega, HSW, HX9⟩
         case round =>
          obtain ⟨i0, j0, dk, rfl, rfl, hk0, hsk, hai0, hij0, hjb0, HPI0, HXX⟩ := hrel
          obtain ⟨V, hV⟩ : ∃ V, V = wr := ⟨_, rfl⟩
          subst hV
          go_wp2_with fail
          go_loopg [10] b (fun k2 s9 wr => ∃ i : Nat, s9 = .int .i64 i ∧ j0 + 1 - i ≤ k2 ∧ i0 ≤ i ∧ a < i ∧ i ≤ j0 + 1 ∧ Hid (PI pL a b i j0 d dk) ∧ Hid (At encF w blk off dk wr))
          case atStart => exact ⟨i0, rfl, by omega, Nat.le_refl _, hai0, hij0, HPI0, HXX⟩
          case round =>
           obtain ⟨i, rfl, hk2, hii, hai, hij1, HPI, HX⟩ := hrel
           obtain ⟨j, hj⟩ : ∃ j, j = j0 := ⟨_, rfl⟩
           subst hj
           obtain ⟨G, hG⟩ : ∃ G : Nat → Int, ∀ t, G t = dk[t]! := ⟨fun t => dk[t]!, fun _ => rfl⟩
           obtain ⟨hc, hf⟩ := at_cells (unhide HX) (unhide HH) (by omega) hblk hG
           rw [hlen] at hc hf
           have HG := hide hG
           clear hG
           go_wp2_with fail
           go_cut [112] from 99 to 114 (fun c wx => ∃ bb : Bool, c = .bool bb ∧ Hid (bb = true → i ≤ j ∧ pL dk[a]! dk[i]! = true) ∧ Hid (bb = false → i ≤ j → pL dk[a]! dk[i]! = false) ∧ Hid (At encF w blk off dk wx))
           case first =>
            by_cases hij : i ≤ j
            ·have hijz : decide ((i : Int) ≤ (j : Int)) = true := decide_eq_true (by omega)
             go_quiet (first | (go_at_call 184; refine Calls.quiet_of_same (less_any _ _ _)))
             go_wp2
             go_meet
             case rel => exact ⟨_, rfl, hide (fun h => ⟨hij, by simp only [pL, ← unhide HG] at h ⊢; simpa using h⟩), hide (fun h _ => by simp only [pL, ← unhide HG] at h ⊢; simpa using h), hide (at_drewN (unhide HX) _)⟩
            ·have hijz : decide ((i : Int) ≤ (j : Int)) = false := decide_eq_false (by omega)
             go_quiet (first | (go_at_call 184; refine Calls.quiet_of_same (less_any _ _ _)))
             go_wp2
             go_meet
             case rel => exact ⟨_, rfl, hide (fun h => by cases h), hide (fun _ h => absurd h hij), hide (at_drewN (unhide HX) _)⟩
           case rest =>
            obtain ⟨bb, rfl, HT, HF, HX2⟩ := hcut
            cases bb
            ·have HNI : Hid (i ≤ j → pL dk[a]! dk[i]! = false) := unhide HF rfl
             clear HT HF HX hc hf HG
             obtain ⟨V2, hV2⟩ : ∃ V, V = wc := ⟨_, rfl⟩
             subst hV2
             obtain ⟨j1, hj1⟩ : ∃ j1, j1 = j := ⟨_, rfl⟩
             subst hj1
             go_wp2_with fail
             go_loopg [11] b (fun k3 s10 wr => ∃ j : Nat, s10 = .int .i64 j ∧ j + 1 - i ≤ k3 ∧ j ≤ j1 ∧ i ≤ j + 1 ∧ j < b ∧ Hid (PI pL a b i j d dk) ∧ Hid (At encF w blk off dk wr))
             case atStart => exact ⟨j1, rfl, by omega, Nat.le_refl _, hij1, hjb0, HPI, HX2⟩
             case round =>
              obtain ⟨j, rfl, hk3, hjj, hij2, hjb, HPI2, HX⟩ := hrel
              obtain ⟨G, hG⟩ : ∃ G : Nat → Int, ∀ t, G t = dk[t]! := ⟨fun t => dk[t]!, fun _ => rfl⟩
              obtain ⟨hc, hf⟩ := at_cells (unhide HX) (unhide HH) (by omega) hblk hG
              rw [hlen] at hc hf
              have HG := hide hG
              clear hG
              go_wp2_with fail
              go_cut [129] from 115 to 131 (fun c wx => ∃ bb : Bool, c = .bool bb ∧ Hid (bb = true → i ≤ j ∧ pL dk[a]! dk[j]! = false) ∧ Hid (bb = false → i ≤ j → pL dk[a]! dk[j]! = true) ∧ Hid (At encF w blk off dk wx))
              case first =>
               by_cases hij : i ≤ j
               ·have hijz : decide ((i : Int) ≤ (j : Int)) = true := decide_eq_true (by omega)
                go_quiet (first | (go_at_call 184; refine Calls.quiet_of_same (less_any _ _ _)))
                go_wp2
                go_meet
                case rel => exact ⟨_, rfl, hide (fun h => ⟨hij, by simp only [pL, ← unhide HG] at h ⊢; simpa using h⟩), hide (fun h _ => by simp only [pL, ← unhide HG] at h ⊢; simpa using h), hide (at_drewN (unhide HX) _)⟩
               ·have hijz : decide ((i : Int) ≤ (j : Int)) = false := decide_eq_false (by omega)
                go_quiet (first | (go_at_call 184; refine Calls.quiet_of_same (less_any _ _ _)))
                go_wp2
                go_meet
                case rel => exact ⟨_, rfl, hide (fun h => by cases h), hide (fun _ h => absurd h hij), hide (at_drewN (unhide HX) _)⟩
              case rest =>
               obtain ⟨bb, rfl, HT, HF, HX3⟩ := hcut
               cases bb
               ·have HNJ : Hid (i ≤ j → pL dk[a]! dk[j]! = true) := unhide HF rfl
                clear HT HF HX hc hf HG HX2 HPI
                obtain ⟨V3, hV3⟩ : ∃ V, V = wc := ⟨_, rfl⟩
                subst hV3
                by_cases hij : i ≤ j
                ·have hijz : ¬ (j : Int) < (i : Int) := by omega
                 obtain ⟨hlt, hsw⟩ := (unhide HPI2).swap hij (unhide HNI (by omega)) (unhide HNJ hij)
                 have HSW := hide hsw
                 clear hsw
                 obtain ⟨G, hG⟩ : ∃ G : Nat → Int, ∀ t, G t = dk[t]! := ⟨fun t => dk[t]!, fun _ => rfl⟩
                 obtain ⟨hc, hf⟩ := at_cells (unhide HX3) (unhide HH) (by omega) hblk hG
                 rw [hlen] at hc hf
                 have HG := hide hG
                 clear hG
                 go_wp2_with fail
                 go_region
                 all_goals go_wp2_with fail
                 go_roundg (j - 1 + 1 - (i + 1))
                 case measure => omega
                 case rel => exact ⟨i + 1, j - 1, swp dk i j, by go_num, by congr 1; omega, Nat.le_refl _, by rw [size_swp]; exact hsk, by omega, by omega, by omega, HSW, hide (at_swap (at_drewN (unhide HX3) 1) (unhide HH) (by omega) hblk (by omega) (by omega) (by rw [unhide HG]) (by rw [unhide HG]))⟩
                ·have hijz : (j : Int) < (i : Int) := by omega
                 obtain ⟨G, hG⟩ : ∃ G : Nat → Int, ∀ t, G t = dk[t]! := ⟨fun t => dk[t]!, fun _ => rfl⟩
                 obtain ⟨hc, hf⟩ := at_cells (unhide HX3) (unhide HH) (by omega) hblk hG
                 rw [hlen] at hc hf
                 have HG := hide hG
                 clear hG
                 have HD := hide ((unhide HPI2).done hij)
                 by_cases ej : j = a
                 ·subst ej
                  go_wp2_with fail
                  go_region
                  all_goals go_wp2_with fail
                  go_ret2
                  obtain ⟨q1, q2, q3, q4, q5⟩ := unhide HD
                  exact ⟨j, false, swp dk j j, rfl, at_swap (at_drewN (unhide HX3) 1) (unhide HH) (by omega) hblk (by omega) (by omega) (by rw [unhide HG]) (by rw [unhide HG]), q1, q2, q3, q4, q5⟩
                 ·go_wp2_with fail
                  go_region
                  all_goals go_wp2_with fail
                  go_ret2
                  obtain ⟨q1, q2, q3, q4, q5⟩ := unhide HD
                  exact ⟨j, false, swp dk j a, rfl, at_swap (at_drewN (unhide HX3) 1) (unhide HH) (by omega) hblk (by omega) (by omega) (by rw [unhide HG]) (by rw [unhide HG]), q1, q2, q3, q4, q5⟩
               ·obtain ⟨hij, hp⟩ := unhide HT rfl
                have HPI3 := hide ((unhide HPI2).down hij hp)
                clear hp
                go_wp2_with fail
                go_roundg (j - 1 + 1 - i)
                case measure => omega
                case rel => exact ⟨j - 1, by congr 1; omega, Nat.le_refl _, by omega, by omega, by omega, HPI3, HX3⟩
            ·obtain ⟨hij, hp⟩ := unhide HT rfl
             have HPI2 := hide ((unhide HPI).up hij hp)
             clear hp
             go_wp2_with fail
             go_roundg (j + 1 - (i + 1))
             case measure => omega
             case rel => exact ⟨i + 1, by go_num, Nat.le_refl _, by omega, by omega, by omega, HPI2, HX2⟩
        ·have hijz : (j : Int) < (i : Int) := by omega
         obtain ⟨G, hG⟩ : ∃ G : Nat → Int, ∀ t, G t = dk[t]! := ⟨fun t => dk[t]!, fun _ => rfl⟩
         obtain ⟨hc, hf⟩ := at_cells (unhide HX3) (unhide HH) (by omega) hblk hG
         rw [hlen] at hc hf
         have HG := hide hG
         clear hG
         have HD := hide ((unhide HPI2).done hij)
         by_cases ej : j = a
         ·subst ej
          go_wp2_with fail
          go_region
          all_goals go_wp2_with fail
          go_ret2
          obtain ⟨q1, q2, q3, q4, q5⟩ := unhide HD
          exact ⟨j, true, swp dk j j, rfl, at_swap (at_drewN (unhide HX3) 1) (unhide HH) (by omega) hblk (by omega) (by omega) (by rw [unhide HG]) (by rw [unhide HG]), q1, q2, q3, q4, q5⟩
         ·go_wp2_with fail
          go_region
          all_goals go_wp2_with fail
          go_ret2
          obtain ⟨q1, q2, q3, q4, q5⟩ := unhide HD
          exact ⟨j, true, swp dk j a, rfl, at_swap (at_drewN (unhide HX3) 1) (unhide HH) (by omega) hblk (by omega) (by omega) (by rw [unhide HG]) (by rw [unhide HG]), q1, q2, q3, q4, q5⟩
       ·obtain ⟨hij, hp⟩ := unhide HT rfl
        have HPI3 := hide ((unhide HPI2).down hij hp)
        clear hp
        go_wp2_with fail
        go_roundg (j - 1 + 1 - i)
        case measure => omega
        case rel => exact ⟨j - 1, by congr 1; omega, Nat.le_refl _, by omega, by omega, by omega, HPI3, HX3⟩
    ·obtain ⟨hij, hp⟩ := unhide HT rfl
     have HPI2 := hide ((unhide HPI).up hij hp)
     clear hp
     go_wp2_with fail
     go_roundg (j + 1 - (i + 1))
     case measure => omega
     case rel => exact ⟨i + 1, by go_num, Nat.le_refl _, by omega, by omega, by omega, HPI2, HX2⟩
end So
end Go.Proofs.YtidhbhdcoanfcaaGreatDoor
