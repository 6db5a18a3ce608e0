/- Contract: slices.reverseRangeOrdered at flags: some order of the same flags in the range. -/
import Derived.Test.YtgaagbjbolfbjaaDoorSoA
namespace Go.Proofs.YtgaagbjbolfbjaaDoor
open Go.Sort Go.RowKit
namespace So

set_option maxRecDepth 1000000 in
set_option maxHeartbeats 4000000 in
theorem reverse_any (blk off cap len a b : Nat) (d : Array Int) (w : World) (hlen : d.size = len) (hH : Holds encF w blk off d) (hblk : blk < w.heap.size) (hab : a ≤ b) (hb : b ≤ len) (hsz : len < 4611686018427387904) :
    Calls Tryd.prog 32 #[.slice (some ⟨blk, off, none⟩) len cap, .int .i64 a, .int .i64 b] w fun e w' =>
      e = .returned (.tuple #[]) ∧ ∃ d', At encF w blk off d' w' ∧ PermIn a b d d' := by
  have HAT := hide (At.refl hH)
  have HH := hide hH
  clear hH
  go_enter Tryd.func32, Tryd.ntmps32
  go_wp2
  go_loopw [6, 7] (fun vi vj wr => ∃ (i : Nat) (jz : Int) (dk : Array Int), vi = .int .i64 i ∧ vj = .int .i64 jz ∧ a ≤ i ∧ i ≤ b ∧ jz < b ∧ -1 ≤ jz ∧ dk.size = len ∧ Hid (At encF w blk off dk wr) ∧ Hid (PermIn a b d dk)) (fun vi vj _ => (intOf vj - intOf vi).toNat)
  case atStart => exact ⟨a, (b : Int) - 1, d, rfl, rfl, by omega, by omega, by omega, by omega, hlen, HAT, hide (permIn_refl _ _ _)⟩
  case round =>
    obtain ⟨i, jz, dk, rfl, rfl, hai, hib, hjb, hj1, hsk, HA, HP⟩ := hrel
    by_cases hlt : (i : Int) < jz
    · obtain ⟨j, rfl⟩ : ∃ j : Nat, jz = j := ⟨jz.toNat, by omega⟩
      obtain ⟨G, hG⟩ : ∃ G : Nat → Int, ∀ t, G t = dk[t]! := ⟨fun t => dk[t]!, fun _ => rfl⟩
      obtain ⟨hc, hf⟩ := at_cells (unhide HA) (unhide HH) (by omega) hblk hG
      rw [hlen] at hc hf
      have HG := hide hG
      clear hG
      go_wp2_with fail
      go_region
      all_goals go_wp2
      go_roundw
      case rel =>
        refine ⟨i + 1, (j : Int) - 1, swp dk i j, by go_num, rfl, by omega, by omega, by omega, by omega, by rw [size_swp]; exact hsk, ?_, hide (permIn_trans _ _ _ _ _ (unhide HP) (swp_permIn dk a b i j hai (by omega) (by omega) (by omega) (by omega)))⟩
        exact hide (at_swap (at_drewN (unhide HA) 1) (unhide HH) (by omega) hblk (by omega) (by omega) (by rw [unhide HG]) (by rw [unhide HG]))
      case measure => simp [intOf]; omega
    · go_wp2
      go_end0
      exact ⟨rfl, dk, unhide HA, unhide HP⟩
end So
end Go.Proofs.YtgaagbjbolfbjaaDoor
