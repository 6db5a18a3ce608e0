/- Contracts: words.Reverse and the document's Reverse answer the bytes from the last to the first; nothing old in memory turns. -/
import Derived.Test.YtmioplahlbapdaaBts
import Derived.Test.YtmioplahlbapdaaShR
import Derived.Lib.OwnBridge
import Derived.Lib.ConvBytes
import Derived.Lib.SmallJoins
import Derived.BigCall
namespace Go.Proofs.Ytmioplahlbapdaa
open Go.RowKit
namespace RvW
open Bts

def enc (b : UInt8) : Value := .int .u8 (b.toNat : Int)
theorem one : OneCell enc := fun _ => rfl
theorem holds_conv (w : World) (s : ByteArray) : Sort.Holds enc (Lib.bytesWorld w 5 s) w.heap.size 0 s.data.toList.toArray := by
  intro j hj
  have hj' : j < s.size := by simpa using hj
  constructor
  · have h := Lib.bytesWorld_cell w 5 s j hj'
    rw [Nat.zero_add, h]
    simp [enc, hj']
  · simp only [World.frozen?, Lib.bytesWorld_at_new, Lib.bytesCells]
    simp
    omega

set_option maxHeartbeats 1000000 in
theorem rev_any (s : ByteArray) (w : World) (hs : s.size ≤ maxLen) :
    Calls Try.prog 18 #[.string s] w fun e w' => e = .returned (.string (Wd.str s.data.toList.reverse)) ∧ Below w.heap.size w w' := by
  unfold maxLen at hs
  have hcv := Lib.run_convert_string_bytes (P := Try.prog) w 9 37 5 s Try.underlying9 Try.underlying37 Try.underlying5
  have hH := holds_conv w s
  have hB := Joins.below_bytesWorld w.heap.size w 5 s (Nat.le_refl _)
  have hl : s.data.toList.length = s.size := by simp
  have hR := fun c => Try.slices_Reverse enc one w.heap.size 0 c s.data.toList (Lib.bytesWorld w 5 s) hH (by omega)
  rw [hl] at hR
  have hc : ∀ n c, (convert 37 9 (.slice (some ⟨w.heap.size, 0, none⟩) s.size c)).run Try.prog (Sort.putRow enc (Sort.ahead (Lib.bytesWorld w 5 s) n) w.heap.size 0 s.data.toList.reverse.toArray) = .ok (.string (Wd.str s.data.toList.reverse)) (Sort.putRow enc (Sort.ahead (Lib.bytesWorld w 5 s) n) w.heap.size 0 s.data.toList.reverse.toArray) := by
    intro n c
    have h := run_convert_bytes_back (P := Try.prog) (Sort.putRow enc (Sort.ahead (Lib.bytesWorld w 5 s) n) w.heap.size 0 s.data.toList.reverse.toArray) 37 9 5 ⟨w.heap.size, 0, none⟩ c s.data.toList.reverse Try.underlying37 Try.underlying5 Try.underlying9 (fun j hj => by
      have hp := Sort.cell?_putRow enc (Sort.ahead (Lib.bytesWorld w 5 s) n) w.heap.size 0 s.data.toList.toArray s.data.toList.reverse.toArray hH (by simp) j (by simpa using hj)
      rw [add_zero_off]
      rw [Nat.zero_add] at hp
      rw [hp, getElem!_pos _ j (by simpa using hj)]
      simp [enc])
    rw [List.length_reverse, hl] at h
    exact h
  have hP := fun n => Lib.below_putRow (enc := enc) (q := n) (d := s.data.toList.reverse.toArray) hB (Nat.le_refl w.heap.size)
  have HC := hide hc
  have HP := hide hP
  have HR := hide hR
  clear hc hP hR hH hB hl
  generalize Lib.bytesWorld w 5 s = W1 at *
  generalize grownCap w s.size 0 5 = c at *
  go_enter Try.func18, Try.ntmps18
  go_wp2_with (go_at_call 27; refine (unhide HR _).mono ?_)
  rintro e W2 ⟨rfl, n, rfl⟩
  have hcv2 := unhide HC n c
  have HB2 := hide (unhide HP n)
  clear HC HP HR
  generalize Sort.putRow enc (Sort.ahead W1 n) w.heap.size 0 s.data.toList.reverse.toArray = W3 at *
  go_wp2
  go_ret
  exact ⟨rfl, unhide HB2⟩

theorem rev_step (s : ByteArray) (j : Nat) (h : j < s.size) : (s.data.toList.drop j).reverse = (s.data.toList.drop (j + 1)).reverse ++ [s[j]] := by
  rw [Wd.drop_cons s j h, List.reverse_cons]

set_option maxHeartbeats 2000000 in
theorem ref_any (s : ByteArray) (w : World) (hs : s.size ≤ 140737488355328) :
    Calls Try.prog 19 #[.string s] w fun e w' => e = .returned (.string (Wd.str s.data.toList.reverse)) ∧ Below w.heap.size w w' := by
  obtain ⟨i0, hi, hz0, hz1, hz2⟩ := info_parts info5
  go_enter Try.func19, Try.ntmps19
  go_wp2
  go_loopw [3, 4] (fun v i wr => ∃ k : Nat, k ≤ s.size ∧ i = .int .i64 ((k : Int) - 1) ∧ wr.ownsRow w.heap.size 5 1 v (s.data.toList.drop k).reverse.length (Bts.bytes (s.data.toList.drop k).reverse) ∧ Below w.heap.size w wr) (fun _ i _ => (intOf i + 1).toNat)
  case atStart => exact ⟨s.size, Nat.le_refl _, rfl, by rw [Wd.drop_end s _ (Nat.le_refl _)]; exact owns_made w, (Below.refl _ w).alloc (Nat.le_refl _) _⟩
  case round =>
    obtain ⟨k, hk, rfl, hown, hB⟩ := hrel
    by_cases hk0 : 0 < k
    · obtain ⟨j, rfl⟩ : ∃ j, k = j + 1 := ⟨k - 1, by omega⟩
      have hjl : j < s.size := by omega
      have HDR := hide (rev_step s j hjl)
      have hlen : (s.data.toList.drop (j + 1)).reverse.length + 1 ≤ s.size := by simp; omega
      generalize (s.data.toList.drop (j + 1)).reverse = acc at *
      have e1 : ((j + 1 : Nat) : Int) - 1 = (j : Int) := by omega
      rw [e1]
      clear e1 hk hk0
      go_wp2_with (at_builtin; refine wpList_append_own _ rfl _ _ 37 rfl w.heap.size 5 i0 (.int .u8 0) 1 1 Try.underlying37 hi hz0 hz1 hz2 rfl (by decide) _ _ _ rfl (hown.alloc _) ⟨wr.heap.size, 0, none⟩ 1 1 [.int .u8 ((s[j].toNat : Int))] rfl rfl (cell_one_new _ _ _) (fun x hx => by simp at hx; subst hx; rfl) (by unfold maxLen; omega) (by omega) (by have := hB.size; simp; omega) ?_; intro v' w1 hown' hgrow hnil; clear hnil)
      have HB1 := hide (below_push hown hB hgrow)
      have HO1 := hide (owns_push (c := s[j]) rfl hown')
      clear hown hB hgrow hown'
      go_wp2
      go_roundw
      case rel => exact ⟨j, by omega, by go_num, by rw [unhide HDR]; exact unhide HO1, unhide HB1⟩
      case measure => simp [intOf]
    · have hk1 : k = 0 := by omega
      subst hk1
      rw [List.drop_zero] at hown
      have hcv := conv_owns hown
      clear hown
      go_wp2
      go_ret
      exact ⟨rfl, hB⟩
end RvW
end Go.Proofs.Ytmioplahlbapdaa
