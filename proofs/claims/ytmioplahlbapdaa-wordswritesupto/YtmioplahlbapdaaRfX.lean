/- Contract: the document's Write answers what the plain definition answers, and turns nothing old in memory. -/
import Derived.Test.YtmioplahlbapdaaBts
namespace Go.Proofs.Ytmioplahlbapdaa
open Go.RowKit
namespace RfX
open Bts

set_option maxHeartbeats 4000000 in
theorem write_any (s : ByteArray) (w : World) (hs : 2 * s.size ≤ 140737488355328) :
    Calls Try.prog 15 #[.string s] w fun e w' => e = .returned (.string (Wd.str (Wd.wt s.data.toList))) ∧ Below w.heap.size w w' := by
  obtain ⟨i0, hi, hz0, hz1, hz2⟩ := info_parts info5
  go_enter Try.func15, Try.ntmps15
  go_wp2
  go_loopw [3, 4] (fun v i wr => ∃ k : Nat, k ≤ s.size ∧ i = .int .i64 k ∧ wr.ownsRow w.heap.size 5 1 v (Wd.wt (s.data.toList.take k)).length (Bts.bytes (Wd.wt (s.data.toList.take k))) ∧ Below w.heap.size w wr) (fun _ i _ => s.size - (intOf i).toNat)
  case atStart => exact ⟨0, Nat.zero_le _, rfl, owns_made w, (Below.refl _ w).alloc (Nat.le_refl _) _⟩
  case round =>
    obtain ⟨k, hk, rfl, hown, hB⟩ := hrel
    have hln := Wd.wt_len (s.data.toList.take k)
    rw [Wd.take_len s k hk] at hln
    by_cases hlt : k < s.size
    · cases he : Wd.esc s[k] with
      | true =>
        have HS := hide (Wd.wt_esc s k hlt he)
        have hcs : ((s[k].toNat : Int) == 92) = true ∨ (((s[k].toNat : Int) == 92) = false ∧ ((s[k].toNat : Int) == 47) = true) ∨ (((s[k].toNat : Int) == 92) = false ∧ ((s[k].toNat : Int) == 47) = false ∧ ((s[k].toNat : Int) == 35) = true) := by
          rcases Wd.esc_cases he with h | h | h
          · left; rw [h]; rfl
          · right; left; rw [h]; exact ⟨rfl, rfl⟩
          · right; right; rw [h]; exact ⟨rfl, rfl, rfl⟩
        clear he
        generalize Wd.wt (s.data.toList.take k) = acc at *
        rcases hcs with e1 | ⟨e1, e2⟩ | ⟨e1, e2, e3⟩
        all_goals
          go_wp2_with (at_builtin; first | (refine wpList_append_own _ rfl _ _ 37 rfl w.heap.size 5 i0 (.int .u8 0) 1 1 Try.underlying37 hi hz0 hz1 hz2 rfl (by decide) _ _ _ rfl (hown.alloc _) ⟨wr.heap.size, 0, none⟩ 1 1 [.int .u8 (92)] rfl rfl (cell_one_new _ _ _) (fun x hx => by simp at hx; subst hx; rfl) (by unfold maxLen; omega) (by omega) (by have := hB.size; simp; omega) ?_; intro v' w1 hown' hgrow hnil; clear hnil; have HB1 := below_push hown hB hgrow; have HO1 := owns_push (c := 92) rfl hown'; have hln2 : (acc ++ [92]).length = acc.length + 1 := List.length_append; clear hown hB hgrow hown'; obtain ⟨acc2, ha2⟩ : ∃ acc2, acc2 = acc ++ [92] := ⟨_, rfl⟩; rw [← ha2] at HO1 hln2; have HA2 := hide ha2; clear ha2) | (refine wpList_append_own _ rfl _ _ 37 rfl w.heap.size 5 i0 (.int .u8 0) 1 1 Try.underlying37 hi hz0 hz1 hz2 rfl (by decide) _ _ _ rfl (HO1.alloc _) ⟨w1.heap.size, 0, none⟩ 1 1 [.int .u8 ((s[k].toNat : Int))] rfl rfl (cell_one_new _ _ _) (fun x hx => by simp at hx; subst hx; rfl) (by unfold maxLen; omega) (by omega) (by have := HB1.size; simp; omega) ?_; intro v' w4 hown' hgrow hnil; clear hnil))
          have HB2 := hide (below_push HO1 HB1 hgrow)
          have HO2 := hide (owns_push (c := s[k]) rfl hown')
          clear HO1 HB1 hgrow hown'
          go_wp2
          go_roundw
          case rel => exact ⟨k + 1, by omega, by go_num, by rw [unhide HS, ← unhide HA2]; exact unhide HO2, unhide HB2⟩
          case measure => simp [intOf]; omega
      | false =>
        have HS := hide (Wd.wt_plain s k hlt he)
        obtain ⟨f1, f2, f3⟩ := Wd.esc_none he
        have e1 : ((s[k].toNat : Int) == 92) = false := by rw [beq_eq_false_iff_ne]; omega
        have e2 : ((s[k].toNat : Int) == 47) = false := by rw [beq_eq_false_iff_ne]; omega
        have e3 : ((s[k].toNat : Int) == 35) = false := by rw [beq_eq_false_iff_ne]; omega
        clear he f1 f2 f3
        generalize Wd.wt (s.data.toList.take k) = acc at *
        go_wp2_with (at_builtin; refine wpList_append_own _ rfl _ _ 37 rfl w.heap.size 5 i0 (.int .u8 0) 1 1 Try.underlying37 hi hz0 hz1 hz2 rfl (by decide) _ _ _ rfl (hown.alloc _) ⟨wr.heap.size, 0, none⟩ 1 1 [.int .u8 ((s[k].toNat : Int))] rfl rfl (cell_one_new _ _ _) (fun x hx => by simp at hx; subst hx; rfl) (by unfold maxLen; omega) (by omega) (by have := hB.size; simp; omega) ?_; intro v' w1 hown' hgrow hnil; clear hnil)
        have HB1 := hide (below_push hown hB hgrow)
        have HO1 := hide (owns_push (c := s[k]) rfl hown')
        clear hown hB hgrow hown'
        go_wp2
        go_roundw
        case rel => exact ⟨k + 1, by omega, by go_num, by rw [unhide HS]; exact unhide HO1, unhide HB1⟩
        case measure => simp [intOf]; omega
    · have HF := hide (Wd.take_full s k (by omega))
      have hcv := conv_owns hown
      clear hown
      go_wp2
      go_ret
      exact ⟨by rw [unhide HF]; rfl, hB⟩
end RfX
end Go.Proofs.Ytmioplahlbapdaa
