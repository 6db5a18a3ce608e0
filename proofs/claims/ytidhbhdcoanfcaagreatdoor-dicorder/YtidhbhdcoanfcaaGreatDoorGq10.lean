import Derived.Test.YtidhbhdcoanfcaaGreatDoorShAll
import Derived.Test.YtidhbhdcoanfcaaGreatDoorGq03
import Derived.Test.YtidhbhdcoanfcaaGreatDoorGuShF
import Derived.Sort.Walk7

namespace Go.Proofs.YtidhbhdcoanfcaaGreatDoor
open Go.Sort Go.RowKit
namespace So

theorem nextPow_any (n : Nat) (hn : n < 4611686018427387904) (w : World) :
  Calls Tryz.prog 146 #[.int .i64 n] w fun e w' => e = .returned (.int .u64 ((1 <<< bitsLen n : Nat) : Int)) ∧ w' = w := by
 have hL : ∀ w, Calls Tryz.prog 96 #[.int .u64 (n : Int)] w fun e w' => e = .returned (.int .i64 (bitsLen n : Nat)) ∧ w' = w := fun w => by
  have h := Tryz.bits_Len (n : Int) w (by omega) (by omega)
  rwa [Int.toNat_natCast, bitLen_eq _ (by omega)] at h
 have hk : bitsLen n ≤ 62 := (bitsLen_le_iff n 62).2 (by omega)
 have hp := wrap_two_pow (bitsLen n) hk
 have hw : IntKind.u64.wrap (n : Int) = n := by simp [IntKind.wrap, IntKind.bits, IntKind.signed]; omega
 have HL := hide hL
 clear hL
 generalize bitsLen n = k at *
 go_enter Tryz.func146, Tryz.ntmps146
 go_wp2_with (go_at_call 96; refine (unhide HL _).mono ?_; rintro e w' ⟨rfl, rfl⟩)
 go_ret
 exact ⟨rfl, rfl⟩

def Rnd (w : World) (blk off : Nat) (X : Nat) (dk : Array Int) (W : World) : Prop := ∃ n, W = grow (putRow encF (Sort.ahead w n) blk off dk) #[Obj.cells #[.int .u64 (X : Int)] 215]
section
variable {w W : World} {blk off X : Nat} {d dk : Array Int}
theorem Rnd.at (h : Rnd w blk off X dk W) : At encF w blk off dk W := by
 obtain ⟨n, rfl⟩ := h
 exact ⟨n, _, rfl⟩
theorem Rnd.cell (h : Rnd w blk off X dk W) : W.cell? ⟨w.heap.size, 0, none⟩ = some (.int .u64 (X : Int)) ∧ W.frozen? ⟨w.heap.size, 0, none⟩ = false := by
 obtain ⟨n, rfl⟩ := h
 have hz : (putRow encF (Sort.ahead w n) blk off dk).heap.size = w.heap.size := by simp
 rw [← hz]
 exact ⟨grow_one_cell _ _ _, grow_one_frozen _ _ _⟩
theorem Rnd.set (h : Rnd w blk off X dk W) (Y : Nat) : Rnd w blk off Y dk (W.setCell ⟨w.heap.size, 0, none⟩ (.int .u64 (Y : Int))) := by
 obtain ⟨n, rfl⟩ := h
 have hz : (putRow encF (Sort.ahead w n) blk off dk).heap.size = w.heap.size := by simp
 rw [← hz]
 exact ⟨n, setCell_grow_one _ _ _ _⟩
theorem Rnd.drewN (h : Rnd w blk off X dk W) (q : Nat) : Rnd w blk off X dk (W.drewN q) := by
 obtain ⟨n, rfl⟩ := h
 refine ⟨n + q, ?_⟩
 rw [← putRow_drewN]
 rfl
theorem Rnd.swap (h : Rnd w blk off X dk W) (hb : blk < w.heap.size) {i j : Nat} (hi : i < dk.size) (hj : j < dk.size) {x y : Value} (hx : x = encF dk[j]!) (hy : y = encF dk[i]!) :
  Rnd w blk off X (swp dk i j) ((W.setCell ⟨blk, off + i, none⟩ x).setCell ⟨blk, off + j, none⟩ y) := by
 subst hx; subst hy
 obtain ⟨n, rfl⟩ := h
 refine ⟨n, ?_⟩
 rw [setCell_grow _ _ _ _ _ (by simpa using hb), setCell_grow _ _ _ _ _ (by simpa using hb), putRow_swp encF _ blk off dk i j hi hj]
theorem Rnd.new (hH : Holds encF w blk off d) (X : Nat) : Rnd w blk off X d (w.alloc (.cells #[.int .u64 (X : Int)] 215)) :=
 ⟨0, by rw [ahead_zero, putRow_self encF w blk off d hH, alloc_eq_grow]⟩
end

set_option maxRecDepth 1000000 in
set_option maxHeartbeats 8000000 in
theorem break_any (blk off cap len a b : Nat) (d : Array Int) (w : World) (hlen : d.size = len) (hH : Holds encF w blk off d) (hblk : blk < w.heap.size) (hab : a ≤ b) (hb : b ≤ len) (hsz : len < 4611686018427387904) :
  Calls Tryz.prog 180 #[.slice (some ⟨blk, off, none⟩) len cap, .int .i64 a, .int .i64 b] w fun e w' =>
   e = .returned (.tuple #[]) ∧ ∃ d', At encF w blk off d' w' ∧ PermIn a b d d' := by
 obtain ⟨l, hl⟩ : ∃ l, l = b - a := ⟨_, rfl⟩
 have hlz : (b : Int) - (a : Int) = (l : Int) := by omega
 have hll : l ≤ len := by omega
 have HAT := hide (At.refl hH)
 have HNW := hide (Rnd.new hH l)
 have HH := hide hH
 clear hH
 obtain ⟨q, hq⟩ : ∃ q, q = l / 4 := ⟨_, rfl⟩
 have hqz : (l : Int).tdiv 4 = (q : Int) := by rw [Int.tdiv_eq_ediv_of_nonneg (by omega)]; omega
 have hqz2 : (l : Int) / 4 = (q : Int) := by omega
 have hql : 4 * q ≤ l := by omega
 have hq2 : 8 ≤ l → 2 ≤ q := by omega
 have hab2 : a + l ≤ b := by omega
 clear hl hq
 by_cases c8 : 8 ≤ l
 ·have c8z : (8 : Int) ≤ (l : Int) := by omega
  have hq3 := hq2 c8
  obtain ⟨M, hM⟩ : ∃ M : Nat, M = 1 <<< bitsLen l := ⟨_, rfl⟩
  have hM1 : 1 ≤ M := by rw [hM, Nat.one_shiftLeft]; exact Nat.two_pow_pos _
  have hM2 : M ≤ 2 * l := by rw [hM, Nat.one_shiftLeft]; exact two_pow_bitsLen_le (by omega)
  have hNP : ∀ w, Calls Tryz.prog 146 #[.int .i64 (l : Int)] w fun e w' => e = .returned (.int .u64 (M : Int)) ∧ w' = w := by rw [hM]; exact fun w => nextPow_any l (by omega) w
  have HNP := hide hNP
  clear hNP hM
  have hwl : IntKind.u64.wrap (l : Int) = l := by simp [IntKind.wrap, IntKind.bits, IntKind.signed]; omega
  go_enter Tryz.func180, Tryz.ntmps180
  go_wp2_with (go_at_call 146; refine (unhide HNP _).mono ?_; rintro e w1 ⟨rfl, hw1⟩; subst hw1)
  go_loopw [9] (fun vi wr => ∃ (i X : Nat) (dk : Array Int), vi = .int .i64 i ∧ a + q * 2 ≤ i + 1 ∧ i ≤ a + q * 2 + 2 ∧ X < 18446744073709551616 ∧ dk.size = len ∧ Hid (Rnd w blk off X dk wr) ∧ Hid (PermIn a b d dk)) (fun vi _ => (a + q * 2 + 3) - (intOf vi).toNat)
  case atStart => exact ⟨a + q * 2 - 1, l, d, by congr 1; omega, by omega, by omega, by omega, hlen, HNW, hide (permIn_refl _ _ _)⟩
  case round =>
   obtain ⟨i, X, dk, rfl, hi1, hi2, hX, hsk, HR, HP⟩ := hrel
   by_cases hlt : i ≤ a + q * 2 + 1
   ·have hltz : (i : Int) ≤ (a : Int) + (q : Int) * 2 + 1 := by omega
    obtain ⟨Y, hYe⟩ : ∃ Y : Nat, Y = xorNextN X := ⟨_, rfl⟩
    have hY : Y < 18446744073709551616 := by rw [hYe]; exact xorNextN_lt X hX
    obtain ⟨O, hO⟩ : ∃ O : Nat, O = Y &&& (M - 1) := ⟨_, rfl⟩
    have lO : O ≤ M - 1 := by rw [hO]; exact Nat.and_le_right
    have eAnd : bits .and .u64 (Y : Int) ((M : Int) - 1) = (O : Int) := by
     rw [show ((M : Int) - 1) = ((M - 1 : Nat) : Int) by omega, bits_and_u64_nat _ _ hY (by omega), hO]
    have HNX : Hid (Calls Tryz.prog 147 #[.pointer (some ⟨w.heap.size, 0, none⟩)] wr fun e w' => e = .returned (.int .u64 (Y : Int)) ∧ Rnd w blk off Y dk w') := by
     obtain ⟨h1, h2⟩ := (unhide HR).cell
     refine (Tryz.xorshift_Next w.heap.size 0 X hX wr h1 h2).mono ?_
     rintro e w1 ⟨rfl, rfl⟩
     rw [← hYe]
     exact ⟨rfl, ((unhide HR).set Y).drewN 3⟩
    obtain ⟨G, hG⟩ : ∃ G : Nat → Int, ∀ t, G t = dk[t]! := ⟨fun t => dk[t]!, fun _ => rfl⟩
    have HG := hide hG
    clear hG hYe hO HR
    by_cases hLO : l ≤ O
    ·have hLOz : (l : Int) ≤ (O : Int) := by omega
     obtain ⟨o, ho⟩ : ∃ o : Nat, o = O - l := ⟨_, rfl⟩
     have hoz : (O : Int) - (l : Int) = (o : Int) := by omega
     have hol : o < l := by omega
     clear ho
     by_cases hEq : i = a + o
     ·subst hEq
      go_wp2_with (go_at_call 147; refine (unhide HNX).mono ?_; rintro e w1 ⟨rfl, hR1⟩; have HR1 := hide hR1; clear hR1; obtain ⟨hc, hf⟩ := at_cells (unhide HR1).at (unhide HH) (by omega) hblk (unhide HG); rw [hlen] at hc hf)
      go_region
      all_goals go_wp2
      go_roundw
      case rel => exact ⟨a + o + 1, Y, swp dk (a + o) (a + o), by go_num, by omega, by omega, hY, by rw [size_swp]; exact hsk, hide ((unhide HR1).drewN 1 |>.swap hblk (by omega) (by omega) (by rw [unhide HG]) (by rw [unhide HG])), hide (permIn_trans _ _ _ _ _ (unhide HP) (swp_permIn dk a b (a + o) (a + o) (by omega) (by omega) (by omega) (by omega) (by omega)))⟩
      case measure => simp [intOf] <;> omega
     ·go_wp2_with (go_at_call 147; refine (unhide HNX).mono ?_; rintro e w1 ⟨rfl, hR1⟩; have HR1 := hide hR1; clear hR1; obtain ⟨hc, hf⟩ := at_cells (unhide HR1).at (unhide HH) (by omega) hblk (unhide HG); rw [hlen] at hc hf)
      go_region
      all_goals go_wp2
      go_roundw
      case rel => exact ⟨i + 1, Y, swp dk i (a + o), by go_num, by omega, by omega, hY, by rw [size_swp]; exact hsk, hide ((unhide HR1).drewN 1 |>.swap hblk (by omega) (by omega) (by rw [unhide HG]) (by rw [unhide HG])), hide (permIn_trans _ _ _ _ _ (unhide HP) (swp_permIn dk a b i (a + o) (by omega) (by omega) (by omega) (by omega) (by omega)))⟩
      case measure => simp [intOf] <;> omega
    ·have hLOz : ¬ (l : Int) ≤ (O : Int) := by omega
     obtain ⟨o, ho⟩ : ∃ o : Nat, o = O := ⟨_, rfl⟩
     subst ho
     have hol : o < l := by omega
     by_cases hEq : i = a + o
     ·subst hEq
      go_wp2_with (go_at_call 147; refine (unhide HNX).mono ?_; rintro e w1 ⟨rfl, hR1⟩; have HR1 := hide hR1; clear hR1; obtain ⟨hc, hf⟩ := at_cells (unhide HR1).at (unhide HH) (by omega) hblk (unhide HG); rw [hlen] at hc hf)
      go_region
      all_goals go_wp2
      go_roundw
      case rel => exact ⟨a + o + 1, Y, swp dk (a + o) (a + o), by go_num, by omega, by omega, hY, by rw [size_swp]; exact hsk, hide ((unhide HR1).drewN 1 |>.swap hblk (by omega) (by omega) (by rw [unhide HG]) (by rw [unhide HG])), hide (permIn_trans _ _ _ _ _ (unhide HP) (swp_permIn dk a b (a + o) (a + o) (by omega) (by omega) (by omega) (by omega) (by omega)))⟩
      case measure => simp [intOf] <;> omega
     ·go_wp2_with (go_at_call 147; refine (unhide HNX).mono ?_; rintro e w1 ⟨rfl, hR1⟩; have HR1 := hide hR1; clear hR1; obtain ⟨hc, hf⟩ := at_cells (unhide HR1).at (unhide HH) (by omega) hblk (unhide HG); rw [hlen] at hc hf)
      go_region
      all_goals go_wp2
      go_roundw
      case rel => exact ⟨i + 1, Y, swp dk i (a + o), by go_num, by omega, by omega, hY, by rw [size_swp]; exact hsk, hide ((unhide HR1).drewN 1 |>.swap hblk (by omega) (by omega) (by rw [unhide HG]) (by rw [unhide HG])), hide (permIn_trans _ _ _ _ _ (unhide HP) (swp_permIn dk a b i (a + o) (by omega) (by omega) (by omega) (by omega) (by omega)))⟩
      case measure => simp [intOf] <;> omega
   ·have hltz : ¬ (i : Int) ≤ (a : Int) + (q : Int) * 2 + 1 := by omega
    go_wp2
    go_end0
    exact ⟨rfl, dk, (unhide HR).at, unhide HP⟩
 ·have c8z : ¬ (8 : Int) ≤ (l : Int) := by omega
  go_enter Tryz.func180, Tryz.ntmps180
  go_wp2
  go_end0
  exact ⟨rfl, d, unhide HAT, permIn_refl _ _ _⟩
end So
end Go.Proofs.YtidhbhdcoanfcaaGreatDoor
