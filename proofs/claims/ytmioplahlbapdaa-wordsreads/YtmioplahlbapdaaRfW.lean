/- Contracts: the document's Read answers what the plain definition answers, and turns nothing old in memory. -/
import Derived.Test.YtmioplahlbapdaaBts
import Derived.Test.YtmioplahlbapdaaRdW
import Derived.RegionTactic
namespace Go.Proofs.Ytmioplahlbapdaa
open Go.RowKit
namespace RfW
open Bts

set_option maxHeartbeats 4000000 in
theorem read_any (s : ByteArray) (w : World) (hs : s.size ≤ 140737488355328) :
    Calls Try.prog 13 #[.string s] w fun e w' => e = .returned (RdW.ans (Wd.rd [] s.data.toList)) ∧ Below w.heap.size w w' := by
  obtain ⟨i0, hi, hz0, hz1, hz2⟩ := info_parts info5
  go_enter Try.func13, Try.ntmps13
  go_wp2
  go_loopw [6, 7] (fun v i wr => ∃ (k : Nat) (acc : List UInt8), k ≤ s.size ∧ i = .int .i64 k ∧ wr.ownsRow w.heap.size 5 1 v acc.length (Bts.bytes acc) ∧ Below w.heap.size w wr ∧ acc.length ≤ k ∧ Hid (Wd.rd acc (s.data.toList.drop k) = Wd.rd [] s.data.toList)) (fun _ i _ => s.size - (intOf i).toNat)
  case atStart => exact ⟨0, [], Nat.zero_le _, rfl, owns_made w, (Below.refl _ w).alloc (Nat.le_refl _) _, Nat.le_refl _, Wd.rd_start s⟩
  case round =>
    obtain ⟨k, acc, hk, rfl, hown, hB, hal, HR⟩ := hrel
    by_cases hlt : k < s.size
    · by_cases h47 : s[k].toNat = 47
      · have HA : Hid (RdW.ans (Wd.rd [] s.data.toList) = .tuple #[.string (Wd.str acc), .string (s.extract (k + 1) s.size), .bool true, .int .i64 0]) := by rw [Hid, ← unhide HR, Wd.rd_cut s acc k hlt h47, Wd.extract_end]; rfl
        have hq : ((s[k].toNat : Int) == 47) = true := by rw [beq_iff_eq]; omega
        have hk1 : (k : Int) + 1 ≤ (s.size : Int) := by omega
        have hwr : IntKind.i64.wrap ((k : Int) + 1) = (k : Int) + 1 := RdW.wrap_small (by omega) (by omega)
        have hown1 : wr.drew.ownsRow w.heap.size 5 1 _ acc.length (Bts.bytes acc) := hown
        have hcv := conv_owns hown1
        clear h47 HR hown hown1
        go_wp2
        go_region
        all_goals
          go_wp2
          (try simp only [Exit.inBlock, Exit.then])
          refine bodyPost_ret (RdW.results_tmp4 rfl _ _ _) rfl ?_
          refine ⟨?_, hB.drew⟩
          rw [unhide HA]
          rfl
      · by_cases h92 : s[k].toNat = 92
        · have hq : ((s[k].toNat : Int) == 47) = false := by rw [beq_eq_false_iff_ne]; omega
          have hq2 : ((s[k].toNat : Int) == 92) = true := by rw [beq_iff_eq]; omega
          by_cases h1 : k + 1 < s.size
          · cases he : Wd.esc s[k + 1] with
            | true =>
              have HS := hide (Wd.rd_esc s acc k hlt h92 h1 he)
              have hne : ((s.size : Int) ≤ ((k : Int) + 1)) = False := by simp; omega
              have hcs : ((s[k + 1].toNat : Int) != 92) = false ∨ (((s[k + 1].toNat : Int) != 92) = true ∧ ((s[k + 1].toNat : Int) != 47) = false) ∨ (((s[k + 1].toNat : Int) != 92) = true ∧ ((s[k + 1].toNat : Int) != 47) = true ∧ ((s[k + 1].toNat : Int) != 35) = false) := by
                rcases Wd.esc_cases he with h | h | h
                · left; rw [h]; rfl
                · right; left; rw [h]; exact ⟨rfl, rfl⟩
                · right; right; rw [h]; exact ⟨rfl, rfl, rfl⟩
              clear h47 h92 he hne
              rcases hcs with e1 | ⟨e1, e2⟩ | ⟨e1, e2, e3⟩
              all_goals
                go_wp2_with (at_builtin; refine wpList_append_own _ rfl _ _ 37 rfl w.heap.size 5 i0 (.int .u8 0) 1 1 Try.underlying37 hi hz0 hz1 hz2 rfl (by decide) _ _ _ rfl (hown.alloc _) ⟨wr.heap.size, 0, none⟩ 1 1 [.int .u8 ((s[k + 1].toNat : Int))] rfl rfl (cell_one_new _ _ _) (fun x hx => by simp at hx; subst hx; rfl) (by unfold maxLen; omega) (by omega) (by have := hB.size; simp; omega) ?_; intro v' w1 hown' hgrow hnil; clear hnil)
                have HB1 := hide (below_push hown hB hgrow)
                have HO1 := hide (owns_push (c := s[k + 1]) rfl hown')
                clear hown hB hgrow hown'
                go_wp2
                go_roundw
                case rel => exact ⟨k + 2, acc ++ [s[k + 1]], by omega, by go_num, unhide HO1, unhide HB1, by simp; omega, by rw [← unhide HS]; exact HR⟩
                case measure => simp [intOf]; omega
            | false =>
              have HA : Hid (RdW.ans (Wd.rd [] s.data.toList) = .tuple #[.string ⟨#[]⟩, .string ⟨#[]⟩, .bool false, .int .i64 20]) := by rw [Hid, ← unhide HR, Wd.rd_bad s acc k hlt h92 h1 he]; rfl
              obtain ⟨f1, f2, f3⟩ := Wd.esc_none he
              have e1 : ((s[k + 1].toNat : Int) != 92) = true := by rw [bne_iff_ne]; omega
              have e2 : ((s[k + 1].toNat : Int) != 47) = true := by rw [bne_iff_ne]; omega
              have e3 : ((s[k + 1].toNat : Int) != 35) = true := by rw [bne_iff_ne]; omega
              clear h47 h92 he HR f1 f2 f3
              go_wp2
              (try simp only [Exit.inBlock, Exit.then])
              refine bodyPost_ret (RdW.results_tmp4 rfl _ _ _) rfl ?_
              exact ⟨by rw [unhide HA]; rfl, hB⟩
          · have HA : Hid (RdW.ans (Wd.rd [] s.data.toList) = .tuple #[.string ⟨#[]⟩, .string ⟨#[]⟩, .bool false, .int .i64 20]) := by rw [Hid, ← unhide HR, Wd.rd_last s acc k hlt h92 (by omega)]; rfl
            clear h47 h92 HR
            go_wp2
            (try simp only [Exit.inBlock, Exit.then])
            refine bodyPost_ret (RdW.results_tmp4 rfl _ _ _) rfl ?_
            exact ⟨by rw [unhide HA]; rfl, hB⟩
        · have HS := hide (Wd.rd_plain s acc k hlt h47 h92)
          have hq : ((s[k].toNat : Int) == 47) = false := by rw [beq_eq_false_iff_ne]; omega
          have hq2 : ((s[k].toNat : Int) == 92) = false := by rw [beq_eq_false_iff_ne]; omega
          clear h47 h92
          go_wp2_with (at_builtin; refine wpList_append_own _ rfl _ _ 37 rfl w.heap.size 5 i0 (.int .u8 0) 1 1 Try.underlying37 hi hz0 hz1 hz2 rfl (by decide) _ _ _ rfl (hown.alloc _) ⟨wr.heap.size, 0, none⟩ 1 1 [.int .u8 ((s[k].toNat : Int))] rfl rfl (cell_one_new _ _ _) (fun x hx => by simp at hx; subst hx; rfl) (by unfold maxLen; omega) (by omega) (by have := hB.size; simp; omega) ?_; intro v' w1 hown' hgrow hnil; clear hnil)
          have HB1 := hide (below_push hown hB hgrow)
          have HO1 := hide (owns_push (c := s[k]) rfl hown')
          clear hown hB hgrow hown'
          go_wp2
          go_roundw
          case rel => exact ⟨k + 1, acc ++ [s[k]], by omega, by go_num, unhide HO1, unhide HB1, by simp; omega, by rw [← unhide HS]; exact HR⟩
          case measure => simp [intOf]; omega
    · have HA : Hid (RdW.ans (Wd.rd [] s.data.toList) = .tuple #[.string (Wd.str acc), .string ⟨#[]⟩, .bool false, .int .i64 0]) := by rw [Hid, ← unhide HR, Wd.rd_end s acc k (by omega)]; rfl
      have hcv := conv_owns hown
      clear HR hown
      go_wp2
      (try simp only [Exit.inBlock, Exit.then])
      refine bodyPost_ret (RdW.results_tmp4 rfl _ _ _) rfl ?_
      exact ⟨by rw [unhide HA]; rfl, hB⟩

end RfW
end Go.Proofs.Ytmioplahlbapdaa
