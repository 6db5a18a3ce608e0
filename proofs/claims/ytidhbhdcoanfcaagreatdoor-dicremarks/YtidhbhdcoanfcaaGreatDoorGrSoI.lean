import Derived.Test.YtidhbhdcoanfcaaGreatDoorGp03
namespace Go.Proofs.YtidhbhdcoanfcaaGreatDoor
open Go.Sort Go.RowKit
namespace So

set_option maxRecDepth 1000000 in
set_option maxHeartbeats 4000000 in
theorem insertion_any (blk off cap len a b : Nat) (d : Array Int) (w : World) (hlen : d.size = len) (hH : Holds encF w blk off d) (hblk : blk < w.heap.size) (hab : a ≤ b) (hb : b ≤ len) (hsz : len < 4611686018427387904) :
  Calls Tryz.prog 178 #[.slice (some ⟨blk, off, none⟩) len cap, .int .i64 a, .int .i64 b] w fun e w' =>
   e = .returned (.tuple #[]) ∧ At encF w blk off (insertionSort ltInt d a b) w' := by
 have HAT := hide (At.refl hH)
 have HH := hide hH
 clear hH
 go_enter Tryz.func178, Tryz.ntmps178
 go_wp2
 go_loopw [6] (fun vi wr => ∃ (i : Nat) (dk : Array Int), vi = .int .i64 i ∧ a < i ∧ i ≤ b + 1 ∧ dk.size = len ∧ Hid (At encF w blk off dk wr) ∧ Hid (insOuter ltInt a b i dk = insertionSort ltInt d a b)) (fun vi _ => b + 1 - (intOf vi).toNat)
 case atStart => exact ⟨a + 1, d, by go_num, by omega, by omega, hlen, HAT, rfl⟩
 case round =>
  obtain ⟨i, dk, rfl, hai, hib, hsk, HA, HO⟩ := hrel
  by_cases hlt : i < b
  ·have hltz : (i : Int) < (b : Int) := by omega
   go_wp2
   go_loopw [7] (fun vj w2 => ∃ (j : Nat) (dj : Array Int), vj = .int .i64 j ∧ a ≤ j ∧ j ≤ i ∧ dj.size = len ∧ Hid (At encF w blk off dj w2) ∧ Hid (insInner ltInt a j dj = insInner ltInt a i dk)) (fun vj _ => (intOf vj).toNat)
   case atStart => exact ⟨i, dk, rfl, by omega, Nat.le_refl _, hsk, HA, rfl⟩
   case round =>
    obtain ⟨j, dj, rfl, haj, hji, hsj, HB, HI⟩ := hrel
    obtain ⟨G, hG⟩ : ∃ G : Nat → Int, ∀ t, G t = dj[t]! := ⟨fun t => dj[t]!, fun _ => rfl⟩
    obtain ⟨hc, hf⟩ := at_cells (unhide HB) (unhide HH) (by omega) hblk hG
    rw [hlen] at hc hf
    have HG := hide hG
    clear hG
    have OUT : Hid ((j ≤ a ∨ ltInt (G j) (G (j - 1)) = false) → insOuter ltInt a b (i + 1) dj = insertionSort ltInt d a b) := fun hs => by
     rw [← unhide HO, insOuter_go _ _ _ _ _ hlt, ← unhide HI, insInner_stop _ _ _ _ (by rw [unhide HG, unhide HG] at hs; exact hs)]
    by_cases hja : a < j
    ·have hjaz : decide ((a : Int) < (j : Int)) = true := decide_eq_true (by omega)
     go_wp2
     go_quiet (first | (go_at_call 184; refine Calls.quiet_of_same (less_any _ _ _)))
     go_wp2
     ·have hl : ltInt (G j) (G (j - 1)) = true := by assumption
      go_region
      all_goals go_wp2
      go_roundw
      case rel =>
       refine ⟨j - 1, swp dj j (j - 1), by congr 1; omega, by omega, by omega, by rw [size_swp]; exact hsj, ?_, ?_⟩
       ·exact hide (at_swap (at_drewN (unhide HB) _) (unhide HH) (by omega) hblk (by omega) (by omega) (by rw [unhide HG]) (by rw [unhide HG]))
       ·refine hide ?_
        rw [← unhide HI, insInner_go ltInt a j dj hja (by rw [← unhide HG, ← unhide HG]; exact hl)]
      case measure => simp [intOf]; omega
     ·have hl : ltInt (G j) (G (j - 1)) = false := by assumption
      go_roundw
      case rel => exact ⟨i + 1, dj, by go_num, by omega, by omega, hsj, hide (at_drewN (unhide HB) _), hide (unhide OUT (.inr hl))⟩
      case measure => simp [intOf]; omega
    ·have hjaz : decide ((a : Int) < (j : Int)) = false := decide_eq_false (by omega)
     go_wp2
     go_quiet (first | (go_at_call 184; refine Calls.quiet_of_same (less_any _ _ _)))
     go_wp2
     go_roundw
     case rel => exact ⟨i + 1, dj, by go_num, by omega, by omega, hsj, hide (at_drewN (unhide HB) _), hide (unhide OUT (.inl (by omega)))⟩
     case measure => simp [intOf]; omega
  ·have hltz : ¬ (i : Int) < (b : Int) := by omega
   have HE : Hid (dk = insertionSort ltInt d a b) := by
    rw [Hid, ← unhide HO, insOuter_stop _ _ _ _ _ hlt]
   go_wp2
   go_end0
   exact ⟨rfl, by rw [← unhide HE]; exact unhide HA⟩
end So
end Go.Proofs.YtidhbhdcoanfcaaGreatDoor
