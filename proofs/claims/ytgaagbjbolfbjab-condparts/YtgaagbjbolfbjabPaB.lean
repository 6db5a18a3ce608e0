/- The walk of the law CondParts, where there are too many items. -/
import Derived.Test.YtgaagbjbolfbjabPaA
namespace Go.Proofs.Ytgaagbjbolfbjab.condParts
open Go.RowKit
open Pt Cd
attribute [local go_sem ↓] Pt.load_as Pt.bs2_as
attribute [local go_sem] Pt.ldP_new Pt.ldP_drew
set_option maxHeartbeats 1000000 in
set_option maxRecDepth 100000 in
theorem walk_many (s t u : ByteArray) (w : World) (h1 : (rd s.data.toList).2 = 0) (h2 : (rd t.data.toList).2 = 0) (h16 : 16 < (rdP s.data.toList ++ rdP t.data.toList).length) :
    Calls Try.prog 4 #[.string s, .string t, .string u] w fun e w' => e = .returned (.bool true) ∧ Below w.heap.size w w' := by
  have HRS : Hid (∀ W, Calls Try.prog 7 #[.string s] W fun e w' => e = .returned (.tuple #[.agg (patC (rdP s.data.toList)), .int .i64 ((rd s.data.toList).2 : Nat)]) ∧ Below W.heap.size W w') := fun W => read_any s W
  have HRT : Hid (∀ W, Calls Try.prog 7 #[.string t] W fun e w' => e = .returned (.tuple #[.agg (patC (rdP t.data.toList)), .int .i64 ((rd t.data.toList).2 : Nat)]) ∧ Below W.heap.size W w') := fun W => read_any t W
  have HLX := hide (fun W => len_any (rdP s.data.toList) W)
  have HLY := hide (fun W => len_any (rdP t.data.toList) W)
  have hX := sz_pat s.data.toList
  have hY := sz_pat t.data.toList
  have hstX := fun W => store_new W _ hX (patC_one _)
  have hstY := fun W => store_new W _ hY (patC_one _)
  have hz := zero_pat
  have HJ : Hid (∀ (W : World) (g : Nat), g = W.heap.size → Calls Try.prog 9 #[.slice (some ⟨g, 0, none⟩) 2 2] (W.alloc (.cells (patC (rdP s.data.toList) ++ patC (rdP t.data.toList)) 31)) fun e w' => e = .returned (joV (rdP s.data.toList ++ rdP t.data.toList)) ∧ Below (W.alloc (.cells (patC (rdP s.data.toList) ++ patC (rdP t.data.toList)) 31)).heap.size (W.alloc (.cells (patC (rdP s.data.toList) ++ patC (rdP t.data.toList)) 31)) w') := fun W g hg => by
    subst hg
    have := join_any _ [rdP s.data.toList, rdP t.data.toList] _ (fun fs hfs => by simp at hfs; rcases hfs with rfl | rfl <;> exact rdP_len _) (pats_two W _ _ (rdP_len _)) (by simp)
    rw [show [rdP s.data.toList, rdP t.data.toList].flatten = rdP s.data.toList ++ rdP t.data.toList by simp] at this
    exact this
  have hbs := fun W => bs2_run _ _ hX hY W
  rw [h1] at HRS
  rw [h2] at HRT
  have ej : joV (rdP s.data.toList ++ rdP t.data.toList) = .tuple #[.agg (patC []), .int .i64 42] := by rw [joV, if_pos h16]
  rw [ej] at HJ
  have hJ : Sz65 (patC []) := patC_size [] (by decide)
  have hstJ := fun W => store_new W _ hJ (patC_one _)
  have hz0 : (16 : Int) < ((rdP s.data.toList).length : Int) + ((rdP t.data.toList).length : Int) := by rw [List.length_append] at h16; omega
  have hn1 : ((rdP s.data.toList).length : Int) ≤ 16 := by have := rdP_len s.data.toList; omega
  have hn2 : ((rdP t.data.toList).length : Int) ≤ 16 := by have := rdP_len t.data.toList; omega
  clear ej h16 h1 h2
  generalize (rdP s.data.toList).length = n at *
  generalize (rdP t.data.toList).length = m at *
  generalize patC (rdP s.data.toList) = X at *
  generalize patC (rdP t.data.toList) = Y at *
  generalize patC [] = J at *
  go_enter Try.func4, Try.ntmps4
  go_wp2_with fail
  refine (wakes_any _).mono ?_
  rintro e w1 ⟨rfl, hb1⟩
  have HB1 := hide hb1
  clear hb1
  go_wp2_with fail
  refine (unhide HRS _).mono ?_
  rintro e w2 ⟨rfl, hb2⟩
  have HB2 := hide ((unhide HB1).trans (hb2.mono (unhide HB1).size))
  clear hb2 HB1
  go_wp2_with fail
  refine (unhide HRT _).mono ?_
  rintro e w3 ⟨rfl, hb3⟩
  have HGX := hide (heap_two (o := .cells Y 31) (keep_pat (heap_alloc_last w2 (.cells X 31)) hb3))
  have HGY := hide (heap_alloc_last w3 (.cells Y 31))
  have HB3 : Hid (Below w.heap.size w (w3.alloc (.cells Y 31))) := hide (by have b := step2 (unhide HB2) hb3; exact b.alloc b.size _)
  clear hb3 HB2
  have hldX := ldP_row (unhide HGX) hX
  go_wp2_with fail
  refine (unhide HJ (w3.alloc (.cells Y 31)) _ (by simp)).mono ?_
  rintro e w4 ⟨rfl, hb4⟩
  have HGX4 := hide (heap_two (o := .cells J 31) (keep_pat (heap_two (o := .cells (X ++ Y) 31) (unhide HGX)) hb4))
  have HGY4 := hide (heap_two (o := .cells J 31) (keep_pat (heap_two (o := .cells (X ++ Y) 31) (unhide HGY)) hb4))
  have HGJ4 := hide (heap_alloc_last w4 (.cells J 31))
  have HB4 : Hid (Below w.heap.size w (w4.alloc (.cells J 31))) := hide (by have b := step2 (unhide HB3) hb4; exact b.alloc b.size _)
  clear hb4 HGX HGY HB3 hldX
  have hldX := ldP_row (unhide HGX4) hX
  have hldY := ldP_row (unhide HGY4) hY
  have hldXd := ldP_row (w := (w4.alloc (.cells J 31)).drew) (unhide HGX4) hX
  have hldYd := ldP_row (w := (w4.alloc (.cells J 31)).drew) (unhide HGY4) hY
  go_wp2
  go_region_with (go_at_call 12; first | (refine (unhide HLX _).mono ?_; rintro e w5 ⟨rfl, hb5⟩; have HB5 := hide (drew_below (unhide HB4) hb5); have hldY5 := ldP_row (keep_drew (unhide HGY4) hb5) hY; clear hb5) | (refine (unhide HLY _).mono ?_; rintro e w6 ⟨rfl, hb6⟩; have HB6 := hide ((unhide HB5).trans (hb6.mono (unhide HB5).size)); clear hb6))
  all_goals
    go_wp2
    go_ret
    refine ⟨?_, unhide HB6⟩
    simp [Act.put]
    rw [IntKind.wrap_i64]
    omega

end Go.Proofs.Ytgaagbjbolfbjab.condParts
