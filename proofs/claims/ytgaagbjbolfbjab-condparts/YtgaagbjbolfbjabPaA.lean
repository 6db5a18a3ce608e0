/- The walk of the law CondParts, where a text is no pattern. -/
import Derived.Test.YtgaagbjbolfbjabPtM
import Derived.Deep.RegionWith
import Derived.BigRegion
namespace Go.Proofs.Ytgaagbjbolfbjab.condParts
open Go.RowKit
open Pt Cd
attribute [local go_sem ↓] Pt.load_as Pt.bs2_as
attribute [local go_sem] Pt.ldP_new Pt.ldP_drew
theorem step2 {w w1 w2 : World} {X : Array Value} {t : TypeId} (h1 : Below w.heap.size w w1) (h2 : Below (w1.alloc (.cells X t)).heap.size (w1.alloc (.cells X t)) w2) : Below w.heap.size w w2 := by
  have b := h1.alloc h1.size (.cells X t)
  exact b.trans (h2.mono b.size)
theorem drew_below {w W w2 : World} (h : Below w.heap.size w W) (h2 : Below W.drew.heap.size W.drew w2) : Below w.heap.size w w2 := h.drew.trans (h2.mono h.size)
theorem keep_drew {W W' : World} {g : Nat} {X : Array Value} {t : TypeId} (h : W.heap[g]? = some (.cells X t (0, 0))) (hb : Below W.drew.heap.size W.drew W') : W'.heap[g]? = some (.cells X t (0, 0)) := keep_pat (W := W.drew) h hb
set_option maxHeartbeats 1000000 in
set_option maxRecDepth 100000 in
theorem walk_bad (s t u : ByteArray) (w : World) (h : (rd s.data.toList).2 ≠ 0 ∨ (rd t.data.toList).2 ≠ 0) :
    Calls Try.prog 4 #[.string s, .string t, .string u] w fun e w' => e = .returned (.bool true) ∧ Below w.heap.size w w' := by
  have HRS : Hid (∀ W, Calls Try.prog 7 #[.string s] W fun e w' => e = .returned (.tuple #[.agg (patC (rdP s.data.toList)), .int .i64 ((rd s.data.toList).2 : Nat)]) ∧ Below W.heap.size W w') := fun W => read_any s W
  have HRT : Hid (∀ W, Calls Try.prog 7 #[.string t] W fun e w' => e = .returned (.tuple #[.agg (patC (rdP t.data.toList)), .int .i64 ((rd t.data.toList).2 : Nat)]) ∧ Below W.heap.size W w') := fun W => read_any t W
  have HLX := hide (fun W => len_any (rdP s.data.toList) W)
  have HLY := hide (fun W => len_any (rdP t.data.toList) W)
  have hX := sz_pat s.data.toList
  have hY := sz_pat t.data.toList
  have hstX := fun W => store_new W _ hX (patC_one _)
  have hstY := fun W => store_new W _ hY (patC_one _)
  have hz := zero_pat
  by_cases h1 : (rd s.data.toList).2 = 0
  · have h2 := h.resolve_left (fun e => e h1)
    have e2 : rdP t.data.toList = [] := by rw [rdP, rd_err h2]; rfl
    have h2z : ¬ ((rd t.data.toList).2 : Int) = 0 := by omega
    rw [h1] at HRS
    rw [e2] at HLY hY hstY HRT
    generalize (rd t.data.toList).2 = E2 at *
    clear h h1 h2 e2
    generalize hn : (rdP s.data.toList).length = n at *
    clear hn
    generalize patC (rdP s.data.toList) = X at *
    generalize patC [] = Y at *
    by_cases h0 : n = 0
    · have h0z : (n : Int) = 0 := by omega
      go_enter Try.func4, Try.ntmps4
      go_wp2_with fail
      refine (wakes_any _).mono ?_
      rintro e w1 ⟨rfl, hb1⟩
      have HB1 := hide hb1
      clear hb1
      go_wp2_with fail
      refine (unhide HRS _).mono ?_
      rintro e w2 ⟨rfl, hb2⟩
      have HB2 := hide ((unhide HB1).trans (hb2.mono (unhide HB1).size))
      clear hb2 HB1
      go_wp2_with fail
      refine (unhide HRT _).mono ?_
      rintro e w3 ⟨rfl, hb3⟩
      have HGX := hide (heap_two (o := .cells Y 31) (keep_pat (heap_alloc_last w2 (.cells X 31)) hb3))
      have HGY := hide (heap_alloc_last w3 (.cells Y 31))
      have HB3 : Hid (Below w.heap.size w (w3.alloc (.cells Y 31))) := hide (by have b := step2 (unhide HB2) hb3; exact b.alloc b.size _)
      clear hb3 HB2
      have hldX := ldP_row (unhide HGX) hX
      go_wp2_with fail
      refine (unhide HLX _).mono ?_
      rintro e w4 ⟨rfl, hb4⟩
      have HB4 := hide ((unhide HB3).trans (hb4.mono (unhide HB3).size))
      clear hb4 hldX
      go_wp2
      go_ret
      exact ⟨rfl, unhide HB4⟩
    · have h0z : ¬ (n : Int) = 0 := by omega
      go_enter Try.func4, Try.ntmps4
      go_wp2_with fail
      refine (wakes_any _).mono ?_
      rintro e w1 ⟨rfl, hb1⟩
      have HB1 := hide hb1
      clear hb1
      go_wp2_with fail
      refine (unhide HRS _).mono ?_
      rintro e w2 ⟨rfl, hb2⟩
      have HB2 := hide ((unhide HB1).trans (hb2.mono (unhide HB1).size))
      clear hb2 HB1
      go_wp2_with fail
      refine (unhide HRT _).mono ?_
      rintro e w3 ⟨rfl, hb3⟩
      have HGX := hide (heap_two (o := .cells Y 31) (keep_pat (heap_alloc_last w2 (.cells X 31)) hb3))
      have HGY := hide (heap_alloc_last w3 (.cells Y 31))
      have HB3 : Hid (Below w.heap.size w (w3.alloc (.cells Y 31))) := hide (by have b := step2 (unhide HB2) hb3; exact b.alloc b.size _)
      clear hb3 HB2
      have hldX := ldP_row (unhide HGX) hX
      go_wp2_with fail
      refine (unhide HLX _).mono ?_
      rintro e w4 ⟨rfl, hb4⟩
      have HB4 := hide ((unhide HB3).trans (hb4.mono (unhide HB3).size))
      have hldY := ldP_row (keep_pat (unhide HGY) hb4) hY
      clear hb4 hldX
      go_wp2_with fail
      refine (unhide HLY _).mono ?_
      rintro e w5 ⟨rfl, hb5⟩
      have HB5 := hide ((unhide HB4).trans (hb5.mono (unhide HB4).size))
      clear hb5 hldY
      go_wp2
      go_ret
      exact ⟨rfl, unhide HB5⟩
  · have e1 : rdP s.data.toList = [] := by rw [rdP, rd_err h1]; rfl
    have h1z : ¬ ((rd s.data.toList).2 : Int) = 0 := by omega
    rw [e1] at HLX hX hstX HRS
    clear h h1 e1
    generalize (rd s.data.toList).2 = E1 at *
    generalize (rd t.data.toList).2 = E2 at *
    generalize patC (rdP t.data.toList) = Y at *
    generalize patC [] = X at *
    go_enter Try.func4, Try.ntmps4
    go_wp2_with fail
    refine (wakes_any _).mono ?_
    rintro e w1 ⟨rfl, hb1⟩
    have HB1 := hide hb1
    clear hb1
    go_wp2_with fail
    refine (unhide HRS _).mono ?_
    rintro e w2 ⟨rfl, hb2⟩
    have HB2 := hide ((unhide HB1).trans (hb2.mono (unhide HB1).size))
    clear hb2 HB1
    go_wp2_with fail
    refine (unhide HRT _).mono ?_
    rintro e w3 ⟨rfl, hb3⟩
    have HGX := hide (heap_two (o := .cells Y 31) (keep_pat (heap_alloc_last w2 (.cells X 31)) hb3))
    have HGY := hide (heap_alloc_last w3 (.cells Y 31))
    have HB3 : Hid (Below w.heap.size w (w3.alloc (.cells Y 31))) := hide (by have b := step2 (unhide HB2) hb3; exact b.alloc b.size _)
    clear hb3 HB2
    have hldX := ldP_row (unhide HGX) hX
    go_wp2_with fail
    refine (unhide HLX _).mono ?_
    rintro e w4 ⟨rfl, hb4⟩
    have HB4 := hide ((unhide HB3).trans (hb4.mono (unhide HB3).size))
    clear hb4 hldX
    go_wp2
    go_ret
    exact ⟨rfl, unhide HB4⟩

end Go.Proofs.Ytgaagbjbolfbjab.condParts
