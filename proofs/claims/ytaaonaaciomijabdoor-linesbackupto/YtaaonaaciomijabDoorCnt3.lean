/- Contracts: strings.ContainsAny of any text and the four blanks, lines.beginsRemark, lines.canStand; nothing old in memory turns. -/
import Derived.Test.YtaaonaaciomijabDoorCnt2
import Derived.Test.YtaaonaaciomijabDoorShJ
namespace Go.Proofs.YtaaonaaciomijabDoor
open Go.RowKit Go.Shelf
namespace CntW
open FldW

theorem zero_set (w : World) : (zeroValue 135).run Tryd.prog w = .ok (.agg (Array.replicate 256 (.bool false))) w := by kernel_rfl
theorem any_all (s : ByteArray) (w : World) (hs : s.size < 4294967281) :
    Calls Tryd.prog 92 #[.string s, .string ch] w fun e w' => e = .returned (.int .i64 (Lib.indexAny s.data.toList ch.data.toList)) ∧ Below w.heap.size w w' := by
  by_cases h8 : s.size ≤ 8
  · exact any_short s w h8
  · refine (Tryd.strings_IndexAny_long zero_set s ch w (by decide) (by omega) hs (by decide) (fun j b hj => ch_low b (List.mem_of_getElem? hj))).mono ?_
    rintro e w' ⟨rfl, rfl⟩
    exact ⟨rfl, ((Below.refl _ w).alloc (Nat.le_refl _) _).alloc (by simp) _⟩
set_option maxHeartbeats 1000000 in
theorem contains_any (s : ByteArray) (w : World) (hs : s.size < 4294967281) :
    Calls Tryd.prog 77 #[.string s, .string ch] w fun e w' => e = .returned (.bool (Lib.containsAny s.data.toList ch.data.toList)) ∧ Below w.heap.size w w' := by
  have HI := hide (fun W => any_all s W hs)
  have HC : Hid (Lib.containsAny s.data.toList ch.data.toList = decide (0 ≤ Lib.indexAny s.data.toList ch.data.toList)) := rfl
  generalize Lib.indexAny s.data.toList ch.data.toList = r at *
  generalize Lib.containsAny s.data.toList ch.data.toList = b at *
  generalize ch = c at *
  clear hs
  go_enter Tryd.func77, Tryd.ntmps77
  go_wp2_with fail
  refine (unhide HI _).mono ?_
  rintro e w1 ⟨rfl, hB⟩
  go_wp2
  go_ret
  exact ⟨by rw [unhide HC]; rfl, hB⟩

/-- a field that may stand but for the mark -/
def stands (l : List UInt8) : Bool := !l.isEmpty && !Lib.hasPrefix l [35] && !Lib.containsAny l ch.data.toList
theorem begins_any (f : ByteArray) (w : World) : Calls Tryd.prog 62 #[.string f] w fun e w' => e = .returned (.bool (Lib.hasPrefix f.data.toList [35])) ∧ w' = w := by
  have HI := hide (fun W => Tryd.strings_HasPrefix f ⟨#[35]⟩ W)
  go_enter Tryd.func62, Tryd.ntmps62
  go_wp2_with (go_at_call 53; refine (unhide HI _).mono ?_; rintro e w' ⟨rfl, hw⟩; subst hw)
  go_ret
  exact ⟨rfl, rfl⟩
theorem stands_empty {s : ByteArray} (h : s.toList.isEmpty = true) : stands s.data.toList = false := by
  rw [Lib.toList_data] at h; simp [stands, h]
set_option maxHeartbeats 2000000 in
theorem stand_any (s : ByteArray) (w : World) (hs : s.size < 4294967281) :
    Calls Tryd.prog 52 #[.string s] w fun e w' => e = .returned (.bool (stands s.data.toList)) ∧ Below w.heap.size w w' := by
  have HB := hide (fun W => begins_any s W)
  have HC := hide (fun W => contains_any s W hs)
  have HCH : Hid (ch = ⟨#[32, 9, 10, 13]⟩) := rfl
  rw [unhide HCH] at HC
  clear hs
  cases h0 : s.toList.isEmpty with
  | true =>
    rw [stands_empty h0]
    go_enter Tryd.func52, Tryd.ntmps52
    go_wp2
    go_ret
    exact ⟨rfl, Below.refl _ _⟩
  | false =>
    have HS : Hid (stands s.data.toList = (!Lib.hasPrefix s.data.toList [35] && !Lib.containsAny s.data.toList ch.data.toList)) := by
      rw [Hid]; unfold stands; rw [← Lib.toList_data, h0]; rfl
    rw [unhide HCH] at HS
    generalize stands s.data.toList = st at *
    generalize Lib.containsAny s.data.toList (ByteArray.mk #[32, 9, 10, 13]).data.toList = ca at *
    cases hr : Lib.hasPrefix s.data.toList [35] with
    | true =>
      rw [hr] at HB HS
      have HS2 : Hid (st = false) := unhide HS
      clear HS hr
      go_enter Tryd.func52, Tryd.ntmps52
      go_wp2_with (go_at_call 62; refine (unhide HB _).mono ?_; rintro e w' ⟨rfl, hw⟩; subst hw)
      go_ret
      exact ⟨by rw [unhide HS2]; rfl, Below.refl _ _⟩
    | false =>
      rw [hr] at HB HS
      have HS2 : Hid (st = !ca) := by rw [Hid, unhide HS]; rfl
      clear HS hr
      go_enter Tryd.func52, Tryd.ntmps52
      go_wp2_with (go_at_call 62; refine (unhide HB _).mono ?_; rintro e w' ⟨rfl, hw⟩; subst hw)
      refine (unhide HC _).mono ?_
      rintro e w2 ⟨rfl, hB2⟩
      go_wp2
      go_ret
      exact ⟨by rw [unhide HS2]; rfl, hB2⟩
end CntW
end Go.Proofs.YtaaonaaciomijabDoor
