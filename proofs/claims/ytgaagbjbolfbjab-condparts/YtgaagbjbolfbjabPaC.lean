/- The walk of the law CondParts, where both are patterns and there is room. -/
import Derived.Test.YtgaagbjbolfbjabPaA
import Derived.Test.YtgaagbjbolfbjabQbW
namespace Go.Proofs.Ytgaagbjbolfbjab.condParts
open Go.RowKit
open Pt Cd
attribute [local go_sem ↓] Pt.load_as Pt.bs2_as
attribute [local go_sem] Pt.ldP_new Pt.ldP_drew
set_option maxHeartbeats 4000000 in
set_option maxRecDepth 100000 in
theorem walk_ok (s t u : ByteArray) (w : World) (h1 : (rd s.data.toList).2 = 0) (h2 : (rd t.data.toList).2 = 0) (h16 : (rdP s.data.toList ++ rdP t.data.toList).length ≤ 16) (hu : u.size ≤ 140737488355328) :
    Calls Try.prog 4 #[.string s, .string t, .string u] w fun e w' => e = .returned (.bool true) ∧ Below w.heap.size w w' := by
  have HRS : Hid (∀ W, Calls Try.prog 7 #[.string s] W fun e w' => e = .returned (.tuple #[.agg (patC (rdP s.data.toList)), .int .i64 ((rd s.data.toList).2 : Nat)]) ∧ Below W.heap.size W w') := fun W => read_any s W
  have HRT : Hid (∀ W, Calls Try.prog 7 #[.string t] W fun e w' => e = .returned (.tuple #[.agg (patC (rdP t.data.toList)), .int .i64 ((rd t.data.toList).2 : Nat)]) ∧ Below W.heap.size W w') := fun W => read_any t W
  have HLX := hide (fun W => len_any (rdP s.data.toList) W)
  have HLY := hide (fun W => len_any (rdP t.data.toList) W)
  have hX := sz_pat s.data.toList
  have hY := sz_pat t.data.toList
  have hstX := fun W => store_new W _ hX (patC_one _)
  have hstY := fun W => store_new W _ hY (patC_one _)
  have hz := zero_pat
  have HJ : Hid (∀ (W : World) (g : Nat), g = W.heap.size → Calls Try.prog 9 #[.slice (some ⟨g, 0, none⟩) 2 2] (W.alloc (.cells (patC (rdP s.data.toList) ++ patC (rdP t.data.toList)) 31)) fun e w' => e = .returned (joV (rdP s.data.toList ++ rdP t.data.toList)) ∧ Below (W.alloc (.cells (patC (rdP s.data.toList) ++ patC (rdP t.data.toList)) 31)).heap.size (W.alloc (.cells (patC (rdP s.data.toList) ++ patC (rdP t.data.toList)) 31)) w') := fun W g hg => by
    subst hg
    have := join_any _ [rdP s.data.toList, rdP t.data.toList] _ (fun fs hfs => by simp at hfs; rcases hfs with rfl | rfl <;> exact rdP_len _) (pats_two W _ _ (rdP_len _)) (by simp)
    rw [show [rdP s.data.toList, rdP t.data.toList].flatten = rdP s.data.toList ++ rdP t.data.toList by simp] at this
    exact this
  have hbs := fun W => bs2_run _ _ hX hY W
  rw [h1] at HRS
  rw [h2] at HRT
  have ej : joV (rdP s.data.toList ++ rdP t.data.toList) = .tuple #[.agg (patC (rdP s.data.toList ++ rdP t.data.toList)), .int .i64 0] := by rw [joV, if_neg (by omega)]
  rw [ej] at HJ
  have hJ : Sz65 (patC (rdP s.data.toList ++ rdP t.data.toList)) := patC_size _ h16
  have hstJ := fun W => store_new W _ hJ (patC_one _)
  have hn1 : ((rdP s.data.toList).length : Int) ≤ 16 := by have := rdP_len s.data.toList; omega
  have hn2 : ((rdP t.data.toList).length : Int) ≤ 16 := by have := rdP_len t.data.toList; omega
  have hul : u.data.toList.length = u.size := by simp
  have HSJ := hide (fun W => starts_any (rdP s.data.toList ++ rdP t.data.toList) u W h16)
  have HSX := hide (fun W => starts_any (rdP s.data.toList) u W (rdP_len _))
  have HSY : Hid (∀ W, Calls Try.prog 13 #[.agg (patC (rdP t.data.toList)), .string (u.extract (rdP s.data.toList).length u.size)] W fun e w' => e = .returned (.bool (startsB (rdP t.data.toList) (u.data.toList.drop (rdP s.data.toList).length))) ∧ Below W.heap.size W w') := fun W => by
    have := starts_any (rdP t.data.toList) (u.extract (rdP s.data.toList).length u.size) W (rdP_len _)
    rw [extract_str, str_list, List.take_of_length_le (by simp)] at this
    rw [extract_str, List.take_of_length_le (by simp)]
    exact this
  have HEJ := hide (fun W => ends_any (rdP s.data.toList ++ rdP t.data.toList) u W h16 (by unfold maxLen; omega))
  have HEY := hide (fun W => ends_any (rdP t.data.toList) u W (rdP_len _) (by unfold maxLen; omega))
  have HEX : Hid (∀ W, Calls Try.prog 14 #[.agg (patC (rdP s.data.toList)), .string (u.extract 0 (u.size - (rdP t.data.toList).length))] W fun e w' => e = .returned (.bool (endsB (rdP s.data.toList) (u.data.toList.take (u.size - (rdP t.data.toList).length)))) ∧ Below W.heap.size W w') := fun W => by
    have := ends_any (rdP s.data.toList) (u.extract 0 (u.size - (rdP t.data.toList).length)) W (rdP_len _) (by rw [ByteArray.size_extract]; unfold maxLen; omega)
    rw [extract_str, str_list, List.drop_zero, Nat.sub_zero] at this
    rw [extract_str, List.drop_zero, Nat.sub_zero]
    exact this
  have HMS : Hid ((rdP s.data.toList).length ≤ u.size → startsB (rdP s.data.toList ++ rdP t.data.toList) u.data.toList = (startsB (rdP s.data.toList) u.data.toList && startsB (rdP t.data.toList) (u.data.toList.drop (rdP s.data.toList).length))) := fun h => starts_parts _ _ _ (by omega)
  have HME : Hid ((rdP t.data.toList).length ≤ u.size → endsB (rdP s.data.toList ++ rdP t.data.toList) u.data.toList = (endsB (rdP t.data.toList) u.data.toList && endsB (rdP s.data.toList) (u.data.toList.take (u.size - (rdP t.data.toList).length)))) := fun h => by
    have := ends_parts (rdP s.data.toList) (rdP t.data.toList) u.data.toList (by omega)
    rw [hul] at this
    exact this
  have HNS : Hid (u.size < (rdP s.data.toList).length → startsB (rdP s.data.toList ++ rdP t.data.toList) u.data.toList = false) := fun h => startsB_no _ _ (by simp; omega)
  have HNE : Hid (u.size < (rdP t.data.toList).length → endsB (rdP s.data.toList ++ rdP t.data.toList) u.data.toList = false) := fun h => endsB_no _ _ (by simp; omega)
  clear ej h16 h1 h2 hul
  generalize startsB (rdP s.data.toList ++ rdP t.data.toList) u.data.toList = BJ at *
  generalize startsB (rdP s.data.toList) u.data.toList = BX at *
  generalize startsB (rdP t.data.toList) (u.data.toList.drop (rdP s.data.toList).length) = BY at *
  generalize endsB (rdP s.data.toList ++ rdP t.data.toList) u.data.toList = EJ at *
  generalize endsB (rdP t.data.toList) u.data.toList = EY at *
  generalize endsB (rdP s.data.toList) (u.data.toList.take (u.size - (rdP t.data.toList).length)) = EX at *
  generalize patC (rdP s.data.toList ++ rdP t.data.toList) = J at *
  generalize (rdP s.data.toList).length = n at *
  generalize (rdP t.data.toList).length = m at *
  generalize patC (rdP s.data.toList) = X at *
  generalize patC (rdP t.data.toList) = Y at *
  generalize patC [] = Z at *
  go_enter Try.func4, Try.ntmps4
  go_wp2_with fail
  refine (wakes_any _).mono ?_
  rintro e w1 ⟨rfl, hb1⟩
  have HB1 := hide hb1
  clear hb1
  go_wp2_with fail
  refine (unhide HRS _).mono ?_
  rintro e w2 ⟨rfl, hb2⟩
  have HB2 := hide ((unhide HB1).trans (hb2.mono (unhide HB1).size))
  clear hb2 HB1
  go_wp2_with fail
  refine (unhide HRT _).mono ?_
  rintro e w3 ⟨rfl, hb3⟩
  have HGX := hide (heap_two (o := .cells Y 31) (keep_pat (heap_alloc_last w2 (.cells X 31)) hb3))
  have HGY := hide (heap_alloc_last w3 (.cells Y 31))
  have HB3 : Hid (Below w.heap.size w (w3.alloc (.cells Y 31))) := hide (by have b := step2 (unhide HB2) hb3; exact b.alloc b.size _)
  clear hb3 HB2
  have hldX := ldP_row (unhide HGX) hX
  go_wp2_with fail
  refine (unhide HJ (w3.alloc (.cells Y 31)) _ (by simp)).mono ?_
  rintro e w4 ⟨rfl, hb4⟩
  have HGX4 := hide (heap_two (o := .cells J 31) (keep_pat (heap_two (o := .cells (X ++ Y) 31) (unhide HGX)) hb4))
  have HGY4 := hide (heap_two (o := .cells J 31) (keep_pat (heap_two (o := .cells (X ++ Y) 31) (unhide HGY)) hb4))
  have HGJ4 := hide (heap_alloc_last w4 (.cells J 31))
  have HB4 : Hid (Below w.heap.size w (w4.alloc (.cells J 31))) := hide (by have b := step2 (unhide HB3) hb4; exact b.alloc b.size _)
  clear hb4 HGX HGY HB3 hldX
  have hldX := ldP_row (unhide HGX4) hX
  have hldY := ldP_row (unhide HGY4) hY
  have hldXd := ldP_row (w := (w4.alloc (.cells J 31)).drew) (unhide HGX4) hX
  have hldYd := ldP_row (w := (w4.alloc (.cells J 31)).drew) (unhide HGY4) hY
  go_wp2_with fail
  refine (unhide HLX _).mono ?_
  rintro e w5 ⟨rfl, hb5⟩
  have HGX5 := hide (keep_pat (unhide HGX4) hb5)
  have HGY5 := hide (keep_pat (unhide HGY4) hb5)
  have HGJ5 := hide (keep_pat (unhide HGJ4) hb5)
  have HB5 := hide ((unhide HB4).trans (hb5.mono (unhide HB4).size))
  clear hb5 hldX hldY hldXd hldYd HGX4 HGY4 HGJ4 HB4 HRS HRT HJ hstX hstY hstJ hbs
  have hldJ := ldP_row (unhide HGJ5) hJ
  have hldX := ldP_row (w := w5.drew) (unhide HGX5) hX
  have hldJd := ldP_row (w := w5.drew) (unhide HGJ5) hJ
  by_cases hnu : n ≤ u.size
  · have hnuz : ¬ (u.size : Int) < (n : Int) := by omega
    have hnuz2 : (n : Int) ≤ (u.size : Int) := by omega
    have HMS2 := hide (unhide HMS hnu)
    cases BX with
    | true =>
      obtain rfl : BJ = BY := by have := unhide HMS2; simpa using this
      have hbb : (BJ != BJ) = false := by simp
      go_wp2
      refine wp_region_below (by kernel_rfl) (by kernel_rfl) ?_
      go_big_quiet_want
      refine quiet_ld _ rfl w4.heap.size rfl J hJ (fun W hW => keep_pat (unhide HGJ5) hW) ?_
      go_simp
      go_big_quiet_on
      go_big_quiet_want
      go_big_quiet_op
      go_big_quiet_on
      go_big_quiet_want
      go_big_quiet_op
      apply Exists.intro
      refine ⟨fun W hW => calls_keep (unhide HSJ W) hW, ?_⟩
      go_big_quiet_on
      go_big_quiet_want
      refine quiet_ld _ rfl w2.heap.size rfl X hX (fun W hW => keep_pat (unhide HGX5) hW) ?_
      go_simp
      go_big_quiet_on
      go_big_quiet_want
      go_big_quiet_op
      go_big_quiet_on
      go_big_quiet_want
      go_big_quiet_op
      apply Exists.intro
      refine ⟨fun W hW => calls_keep (unhide HSX W) hW, ?_⟩
      go_big_quiet_on
      go_big_quiet_want
      go_big_quiet_op
      go_big_quiet_on
      go_big_quiet_want
      refine quiet_ld _ rfl w3.heap.size rfl Y hY (fun W hW => keep_pat (unhide HGY5) hW) ?_
      go_simp
      go_big_quiet_on
      go_big_quiet_want
      go_big_quiet_op
      go_big_quiet_on
      go_big_quiet_want
      go_big_quiet_op
      go_big_quiet_on
      go_big_quiet_want
      go_big_quiet_op
      first | go_big_quiet_on | (refine ⟨_, fun W hW => rfl, ?_⟩; go_big_quiet_on)
      go_big_quiet_want
      go_big_quiet_op
      apply Exists.intro
      refine ⟨fun W hW => calls_keep (unhide HSY W) hW, ?_⟩
      go_big_quiet_on
      go_big_quiet_want
      go_big_quiet_op
      first | go_big_quiet_on | (refine ⟨_, fun W hW => rfl, ?_⟩; go_big_quiet_on)
      go_big_quiet_want
      go_big_quiet_op
      first | go_big_quiet_on | (refine ⟨_, fun W hW => rfl, ?_⟩; go_big_quiet_on)
      refine wpQuiet_nil ?_
      intro V1 hV1
      have HGX6 := hide (keep_pat (unhide HGX5) hV1)
      have HGY6 := hide (keep_pat (unhide HGY5) hV1)
      have HGJ6 := hide (keep_pat (unhide HGJ5) hV1)
      have HB6 := hide ((unhide HB5).trans (hV1.mono (unhide HB5).size))
      have hldY := ldP_row (unhide HGY6) hY
      clear hldJ hldX hldJd HGX5 HGY5 HGJ5 HB5 hV1
      go_wp2_with fail
      refine (unhide HLY _).mono ?_
      rintro e w7 ⟨rfl, hb7⟩
      have HGX7 := hide (keep_pat (unhide HGX6) hb7)
      have HGY7 := hide (keep_pat (unhide HGY6) hb7)
      have HGJ7 := hide (keep_pat (unhide HGJ6) hb7)
      have HB7 := hide ((unhide HB6).trans (hb7.mono (unhide HB6).size))
      clear hb7 hldY HGX6 HGY6 HGJ6 HB6
      have hldJ := ldP_row (unhide HGJ7) hJ
      by_cases hmu : m ≤ u.size
      · have hmuz : ¬ (u.size : Int) < (m : Int) := by omega
        have HME2 := hide (unhide HME hmu)
        have hsub : (u.size : Int) - (m : Int) = ((u.size - m : Nat) : Int) := by omega
        have hw : IntKind.i64.wrap ((u.size : Int) - (m : Int)) = ((u.size - m : Nat) : Int) := by rw [hsub]; simp [IntKind.wrap, IntKind.signed, IntKind.bits]; omega
        have hmz : ((u.size - m : Nat) : Int) ≤ (u.size : Int) := by omega
        have hmz3 : u.size - m ≤ u.size := by omega
        generalize u.size - m = d at *
        clear hsub
        cases EY with
        | true =>
          obtain rfl : EJ = EX := by have := unhide HME2; simpa using this
          have hee : (EJ == EJ) = true := by simp
          go_wp2
          refine wp_region_below (by kernel_rfl) (by kernel_rfl) ?_
          go_big_quiet_want
          refine quiet_ld _ rfl w4.heap.size rfl J hJ (fun W hW => keep_pat (unhide HGJ7) hW) ?_
          go_simp
          go_big_quiet_on
          go_big_quiet_want
          go_big_quiet_op
          go_big_quiet_on
          go_big_quiet_want
          go_big_quiet_op
          apply Exists.intro
          refine ⟨fun W hW => calls_keep (unhide HEJ W) hW, ?_⟩
          go_big_quiet_on
          go_big_quiet_want
          refine quiet_ld _ rfl w3.heap.size rfl Y hY (fun W hW => keep_pat (unhide HGY7) hW) ?_
          go_simp
          go_big_quiet_on
          go_big_quiet_want
          go_big_quiet_op
          go_big_quiet_on
          go_big_quiet_want
          go_big_quiet_op
          apply Exists.intro
          refine ⟨fun W hW => calls_keep (unhide HEY W) hW, ?_⟩
          go_big_quiet_on
          go_big_quiet_want
          go_big_quiet_op
          go_big_quiet_on
          go_big_quiet_want
          refine quiet_ld _ rfl w2.heap.size rfl X hX (fun W hW => keep_pat (unhide HGX7) hW) ?_
          go_simp
          go_big_quiet_on
          go_big_quiet_want
          go_big_quiet_op
          go_big_quiet_on
          go_big_quiet_want
          go_big_quiet_op
          go_big_quiet_on
          go_big_quiet_want
          go_big_quiet_op
          first | go_big_quiet_on | (refine ⟨_, fun W hW => rfl, ?_⟩; go_big_quiet_on)
          go_big_quiet_want
          go_big_quiet_op
          go_big_quiet_on
          go_big_quiet_want
          go_big_quiet_op
          first | go_big_quiet_on | (refine ⟨_, fun W hW => rfl, ?_⟩; go_big_quiet_on)
          go_big_quiet_want
          go_big_quiet_op
          first | go_big_quiet_on | (refine ⟨_, fun W hW => rfl, ?_⟩; go_big_quiet_on)
          go_big_quiet_want
          go_big_quiet_op
          apply Exists.intro
          refine ⟨fun W hW => calls_keep (unhide HEX W) hW, ?_⟩
          go_big_quiet_on
          go_big_quiet_want
          go_big_quiet_op
          first | go_big_quiet_on | (refine ⟨_, fun W hW => rfl, ?_⟩; go_big_quiet_on)
          go_big_quiet_want
          go_big_quiet_op
          first | go_big_quiet_on | (refine ⟨_, fun W hW => rfl, ?_⟩; go_big_quiet_on)
          go_big_quiet_want
          go_big_quiet_op
          go_big_quiet_on
          refine wpQuiet_nil ?_
          intro V2 hV2
          go_wp2
          go_ret
          exact ⟨rfl, (unhide HB7).trans (hV2.mono (unhide HB7).size)⟩
        | false =>
          obtain rfl : EJ = false := by have := unhide HME2; simpa using this
          go_wp2
          refine wp_region_below (by kernel_rfl) (by kernel_rfl) ?_
          go_big_quiet_want
          refine quiet_ld _ rfl w4.heap.size rfl J hJ (fun W hW => keep_pat (unhide HGJ7) hW) ?_
          go_simp
          go_big_quiet_on
          go_big_quiet_want
          go_big_quiet_op
          go_big_quiet_on
          go_big_quiet_want
          go_big_quiet_op
          apply Exists.intro
          refine ⟨fun W hW => calls_keep (unhide HEJ W) hW, ?_⟩
          go_big_quiet_on
          go_big_quiet_want
          refine quiet_ld _ rfl w3.heap.size rfl Y hY (fun W hW => keep_pat (unhide HGY7) hW) ?_
          go_simp
          go_big_quiet_on
          go_big_quiet_want
          go_big_quiet_op
          go_big_quiet_on
          go_big_quiet_want
          go_big_quiet_op
          apply Exists.intro
          refine ⟨fun W hW => calls_keep (unhide HEY W) hW, ?_⟩
          go_big_quiet_on
          go_big_quiet_want
          go_big_quiet_op
          go_big_quiet_on
          go_big_quiet_skip
          go_big_quiet_skip
          go_big_quiet_skip
          go_big_quiet_skip
          go_big_quiet_skip
          go_big_quiet_skip
          go_big_quiet_skip
          go_big_quiet_skip
          go_big_quiet_want
          go_big_quiet_op
          first | go_big_quiet_on | (refine ⟨_, fun W hW => rfl, ?_⟩; go_big_quiet_on)
          go_big_quiet_want
          go_big_quiet_op
          first | go_big_quiet_on | (refine ⟨_, fun W hW => rfl, ?_⟩; go_big_quiet_on)
          go_big_quiet_want
          go_big_quiet_op
          go_big_quiet_on
          refine wpQuiet_nil ?_
          intro V2 hV2
          go_wp2
          go_ret
          exact ⟨rfl, (unhide HB7).trans (hV2.mono (unhide HB7).size)⟩
      · have hmuz : (u.size : Int) < (m : Int) := by omega
        have HBF := hide (unhide HNE (by omega))
        go_wp2_with fail
        refine (unhide HEJ _).mono ?_
        rintro e w8 ⟨rfl, hb8⟩
        have HB8 := hide ((unhide HB7).trans (hb8.mono (unhide HB7).size))
        clear hb8
        rw [unhide HBF]
        go_wp2
        go_ret
        exact ⟨rfl, unhide HB8⟩
    | false =>
      obtain rfl : BJ = false := by have := unhide HMS2; simpa using this
      go_wp2
      refine wp_region_below (by kernel_rfl) (by kernel_rfl) ?_
      go_big_quiet_want
      refine quiet_ld _ rfl w4.heap.size rfl J hJ (fun W hW => keep_pat (unhide HGJ5) hW) ?_
      go_simp
      go_big_quiet_on
      go_big_quiet_want
      go_big_quiet_op
      go_big_quiet_on
      go_big_quiet_want
      go_big_quiet_op
      apply Exists.intro
      refine ⟨fun W hW => calls_keep (unhide HSJ W) hW, ?_⟩
      go_big_quiet_on
      go_big_quiet_want
      refine quiet_ld _ rfl w2.heap.size rfl X hX (fun W hW => keep_pat (unhide HGX5) hW) ?_
      go_simp
      go_big_quiet_on
      go_big_quiet_want
      go_big_quiet_op
      go_big_quiet_on
      go_big_quiet_want
      go_big_quiet_op
      apply Exists.intro
      refine ⟨fun W hW => calls_keep (unhide HSX W) hW, ?_⟩
      go_big_quiet_on
      go_big_quiet_want
      go_big_quiet_op
      go_big_quiet_on
      go_big_quiet_skip
      go_big_quiet_skip
      go_big_quiet_skip
      go_big_quiet_skip
      go_big_quiet_skip
      go_big_quiet_want
      go_big_quiet_op
      first | go_big_quiet_on | (refine ⟨_, fun W hW => rfl, ?_⟩; go_big_quiet_on)
      go_big_quiet_want
      go_big_quiet_op
      first | go_big_quiet_on | (refine ⟨_, fun W hW => rfl, ?_⟩; go_big_quiet_on)
      refine wpQuiet_nil ?_
      intro V1 hV1
      have HGX6 := hide (keep_pat (unhide HGX5) hV1)
      have HGY6 := hide (keep_pat (unhide HGY5) hV1)
      have HGJ6 := hide (keep_pat (unhide HGJ5) hV1)
      have HB6 := hide ((unhide HB5).trans (hV1.mono (unhide HB5).size))
      have hldY := ldP_row (unhide HGY6) hY
      clear hldJ hldX hldJd HGX5 HGY5 HGJ5 HB5 hV1
      go_wp2_with fail
      refine (unhide HLY _).mono ?_
      rintro e w7 ⟨rfl, hb7⟩
      have HGX7 := hide (keep_pat (unhide HGX6) hb7)
      have HGY7 := hide (keep_pat (unhide HGY6) hb7)
      have HGJ7 := hide (keep_pat (unhide HGJ6) hb7)
      have HB7 := hide ((unhide HB6).trans (hb7.mono (unhide HB6).size))
      clear hb7 hldY HGX6 HGY6 HGJ6 HB6
      have hldJ := ldP_row (unhide HGJ7) hJ
      by_cases hmu : m ≤ u.size
      · have hmuz : ¬ (u.size : Int) < (m : Int) := by omega
        have HME2 := hide (unhide HME hmu)
        have hsub : (u.size : Int) - (m : Int) = ((u.size - m : Nat) : Int) := by omega
        have hw : IntKind.i64.wrap ((u.size : Int) - (m : Int)) = ((u.size - m : Nat) : Int) := by rw [hsub]; simp [IntKind.wrap, IntKind.signed, IntKind.bits]; omega
        have hmz : ((u.size - m : Nat) : Int) ≤ (u.size : Int) := by omega
        have hmz3 : u.size - m ≤ u.size := by omega
        generalize u.size - m = d at *
        clear hsub
        cases EY with
        | true =>
          obtain rfl : EJ = EX := by have := unhide HME2; simpa using this
          have hee : (EJ == EJ) = true := by simp
          go_wp2
          refine wp_region_below (by kernel_rfl) (by kernel_rfl) ?_
          go_big_quiet_want
          refine quiet_ld _ rfl w4.heap.size rfl J hJ (fun W hW => keep_pat (unhide HGJ7) hW) ?_
          go_simp
          go_big_quiet_on
          go_big_quiet_want
          go_big_quiet_op
          go_big_quiet_on
          go_big_quiet_want
          go_big_quiet_op
          apply Exists.intro
          refine ⟨fun W hW => calls_keep (unhide HEJ W) hW, ?_⟩
          go_big_quiet_on
          go_big_quiet_want
          refine quiet_ld _ rfl w3.heap.size rfl Y hY (fun W hW => keep_pat (unhide HGY7) hW) ?_
          go_simp
          go_big_quiet_on
          go_big_quiet_want
          go_big_quiet_op
          go_big_quiet_on
          go_big_quiet_want
          go_big_quiet_op
          apply Exists.intro
          refine ⟨fun W hW => calls_keep (unhide HEY W) hW, ?_⟩
          go_big_quiet_on
          go_big_quiet_want
          go_big_quiet_op
          go_big_quiet_on
          go_big_quiet_want
          refine quiet_ld _ rfl w2.heap.size rfl X hX (fun W hW => keep_pat (unhide HGX7) hW) ?_
          go_simp
          go_big_quiet_on
          go_big_quiet_want
          go_big_quiet_op
          go_big_quiet_on
          go_big_quiet_want
          go_big_quiet_op
          go_big_quiet_on
          go_big_quiet_want
          go_big_quiet_op
          first | go_big_quiet_on | (refine ⟨_, fun W hW => rfl, ?_⟩; go_big_quiet_on)
          go_big_quiet_want
          go_big_quiet_op
          go_big_quiet_on
          go_big_quiet_want
          go_big_quiet_op
          first | go_big_quiet_on | (refine ⟨_, fun W hW => rfl, ?_⟩; go_big_quiet_on)
          go_big_quiet_want
          go_big_quiet_op
          first | go_big_quiet_on | (refine ⟨_, fun W hW => rfl, ?_⟩; go_big_quiet_on)
          go_big_quiet_want
          go_big_quiet_op
          apply Exists.intro
          refine ⟨fun W hW => calls_keep (unhide HEX W) hW, ?_⟩
          go_big_quiet_on
          go_big_quiet_want
          go_big_quiet_op
          first | go_big_quiet_on | (refine ⟨_, fun W hW => rfl, ?_⟩; go_big_quiet_on)
          go_big_quiet_want
          go_big_quiet_op
          first | go_big_quiet_on | (refine ⟨_, fun W hW => rfl, ?_⟩; go_big_quiet_on)
          go_big_quiet_want
          go_big_quiet_op
          go_big_quiet_on
          refine wpQuiet_nil ?_
          intro V2 hV2
          go_wp2
          go_ret
          exact ⟨rfl, (unhide HB7).trans (hV2.mono (unhide HB7).size)⟩
        | false =>
          obtain rfl : EJ = false := by have := unhide HME2; simpa using this
          go_wp2
          refine wp_region_below (by kernel_rfl) (by kernel_rfl) ?_
          go_big_quiet_want
          refine quiet_ld _ rfl w4.heap.size rfl J hJ (fun W hW => keep_pat (unhide HGJ7) hW) ?_
          go_simp
          go_big_quiet_on
          go_big_quiet_want
          go_big_quiet_op
          go_big_quiet_on
          go_big_quiet_want
          go_big_quiet_op
          apply Exists.intro
          refine ⟨fun W hW => calls_keep (unhide HEJ W) hW, ?_⟩
          go_big_quiet_on
          go_big_quiet_want
          refine quiet_ld _ rfl w3.heap.size rfl Y hY (fun W hW => keep_pat (unhide HGY7) hW) ?_
          go_simp
          go_big_quiet_on
          go_big_quiet_want
          go_big_quiet_op
          go_big_quiet_on
          go_big_quiet_want
          go_big_quiet_op
          apply Exists.intro
          refine ⟨fun W hW => calls_keep (unhide HEY W) hW, ?_⟩
          go_big_quiet_on
          go_big_quiet_want
          go_big_quiet_op
          go_big_quiet_on
          go_big_quiet_skip
          go_big_quiet_skip
          go_big_quiet_skip
          go_big_quiet_skip
          go_big_quiet_skip
          go_big_quiet_skip
          go_big_quiet_skip
          go_big_quiet_skip
          go_big_quiet_want
          go_big_quiet_op
          first | go_big_quiet_on | (refine ⟨_, fun W hW => rfl, ?_⟩; go_big_quiet_on)
          go_big_quiet_want
          go_big_quiet_op
          first | go_big_quiet_on | (refine ⟨_, fun W hW => rfl, ?_⟩; go_big_quiet_on)
          go_big_quiet_want
          go_big_quiet_op
          go_big_quiet_on
          refine wpQuiet_nil ?_
          intro V2 hV2
          go_wp2
          go_ret
          exact ⟨rfl, (unhide HB7).trans (hV2.mono (unhide HB7).size)⟩
      · have hmuz : (u.size : Int) < (m : Int) := by omega
        have HBF := hide (unhide HNE (by omega))
        go_wp2_with fail
        refine (unhide HEJ _).mono ?_
        rintro e w8 ⟨rfl, hb8⟩
        have HB8 := hide ((unhide HB7).trans (hb8.mono (unhide HB7).size))
        clear hb8
        rw [unhide HBF]
        go_wp2
        go_ret
        exact ⟨rfl, unhide HB8⟩
  · have hnuz : (u.size : Int) < (n : Int) := by omega
    have HBF := hide (unhide HNS (by omega))
    go_wp2_with fail
    refine (unhide HSJ _).mono ?_
    rintro e w6 ⟨rfl, hb6⟩
    have HB6 := hide ((unhide HB5).trans (hb6.mono (unhide HB5).size))
    clear hb6
    rw [unhide HBF]
    go_wp2
    go_ret
    exact ⟨rfl, unhide HB6⟩

end Go.Proofs.Ytgaagbjbolfbjab.condParts
