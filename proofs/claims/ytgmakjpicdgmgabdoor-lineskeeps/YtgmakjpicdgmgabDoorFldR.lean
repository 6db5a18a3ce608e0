/- Contract: the document's Fields answers a new list that holds the fields of the line (of a line of at most 2^43 bytes), and turns nothing old in memory. -/
import Derived.Test.YtgmakjpicdgmgabDoorFldW
namespace Go.Proofs.YtgmakjpicdgmgabDoor
open Go.RowKit
namespace FldW

theorem blank_eql (c : UInt8) (h : Fld.blank c = true) : (((c.toNat : Int) == 32) = true) ∨ (((c.toNat : Int) == 32) = false ∧ ((c.toNat : Int) == 9) = true) := by
  simp only [Fld.blank, Bool.or_eq_true, beq_iff_eq] at h
  rcases h with h | h
  · left; rw [h]; rfl
  · right; rw [h]; exact ⟨rfl, rfl⟩
theorem plain_eql (c : UInt8) (h : Fld.blank c = false) : ((c.toNat : Int) == 32) = false ∧ ((c.toNat : Int) == 9) = false := by
  simp only [Fld.blank, Bool.or_eq_false_iff, beq_eq_false_iff_ne] at h
  constructor <;> (rw [beq_eq_false_iff_ne]; omega)

set_option maxHeartbeats 1000000 in
theorem ref_fields_any (s : ByteArray) (w : World) (hs : s.size * 16 ≤ 140737488355328) :
    Calls Tryd.prog 36 #[.string s] w fun e w' => ∃ v, e = .returned v ∧ w'.ownsRow w.heap.size 9 1 v (Fld.fieldsOf s.data.toList).length (vals (Fld.fieldsOf s.data.toList)) ∧ Below w.heap.size w w' := by
  obtain ⟨i0, hi, hz0, hz1, hz2⟩ := info_parts info9
  go_enter Tryd.func36, Tryd.ntmps36
  go_wp2
  go_loopw [3, 4] (fun v i wr => ∃ k : Nat, k ≤ s.size ∧ i = .int .i64 k ∧ wr.ownsRow w.heap.size 9 1 v (Fld.fieldsOf (Fld.pre s k)).length (vals (Fld.fieldsOf (Fld.pre s k))) ∧ Below w.heap.size w wr ∧ Hid (∀ h : k < s.size, 0 < Fld.op (Fld.pre s k) → Fld.blank s[k] = true)) (fun _ i _ => s.size - (intOf i).toNat)
  case atStart => exact ⟨0, Nat.zero_le _, rfl, World.ownsRow_nil _ _ _ _, Below.refl _ _, fun _ h => absurd (show 0 < 0 from h) (Nat.lt_irrefl 0)⟩
  case round =>
    obtain ⟨k, hk, rfl, hown, hB, HBL⟩ := hrel
    by_cases hlt : k < s.size
    · cases hb : Fld.blank s[k] with
      | true =>
        have HFB := hide (Fld.fields_blank s k hlt hb)
        have HST := hide (Fld.step_blank s k hlt hb)
        rcases blank_eql _ hb with h32 | ⟨h32, h9⟩
        all_goals
          clear hb
          go_wp2
          go_roundw
          case rel => exact ⟨k + 1, by omega, by go_num, by rw [unhide HFB]; exact hown, hB, fun _ h => absurd h (by rw [(unhide HST).2]; omega)⟩
          case measure => simp [intOf]; omega
      | false =>
        have hop0 : Fld.op (Fld.pre s k) = 0 := by
          by_cases h0 : 0 < Fld.op (Fld.pre s k)
          · have := HBL.out hlt h0; rw [hb] at this; cases this
          · omega
        have HOP := hide hop0
        have HF0 := hide (Fld.fields_zero s k hop0)
        have HPL := hide hb
        obtain ⟨h32, h9⟩ := plain_eql _ hb
        have hlen : (Fld.fieldsOf (Fld.pre s k)).length ≤ k := by have := Fld.fieldsOf_len (Fld.pre s k); rw [Fld.pre_len s k hk] at this; exact this
        clear hop0 hb HBL
        go_wp2
        go_loop [5] (fun j => ∃ m : Nat, k ≤ m ∧ m ≤ s.size ∧ j = .int .i64 m ∧ Hid (Fld.op (Fld.pre s m) = m - k ∧ Fld.closed (Fld.pre s m) = Fld.closed (Fld.pre s k))) (fun j => s.size - (intOf j).toNat)
        case atStart => exact ⟨k, Nat.le_refl _, hk, rfl, by rw [unhide HOP]; omega, rfl⟩
        case round =>
          obtain ⟨m, hkm, hm, rfl, HM⟩ := hrel
          by_cases hml : m < s.size
          · cases hbm : Fld.blank s[m] with
            | false =>
              have HST := hide (Fld.step_plain s m hml hbm)
              obtain ⟨g32, g9⟩ := plain_of _ hbm
              clear hbm
              go_wp2
              go_round
              case rel => exact ⟨m + 1, by omega, by omega, by go_num, by rw [(unhide HST).2, HM.out.1]; omega, by rw [(unhide HST).1]; exact HM.out.2⟩
              case measure => simp [intOf]; omega
            | true =>
              have hkm2 : k < m := by
                rcases Nat.lt_or_ge k m with h | h
                · exact h
                · have e : m = k := by omega
                  subst e
                  rw [unhide HPL] at hbm
                  cases hbm
              have HBM : Hid (∀ h : m < s.size, 0 < Fld.op (Fld.pre s m) → Fld.blank s[m] = true) := fun _ _ => hbm
              rcases blank_cases _ hbm with g32 | ⟨g32, g9⟩
              all_goals
                clear hbm
                have hpos : 0 < Fld.op (Fld.pre s m) := by rw [HM.out.1]; omega
                have HP : Hid (s.extract k m = Fld.str (Fld.st (Fld.pre s m)).2) := by
                  have := Fld.piece s m hm
                  rw [HM.out.1, show m - (m - k) = k from by omega] at this
                  exact this
                have HQ : Hid (Fld.fieldsOf (Fld.pre s m) = Fld.fieldsOf (Fld.pre s k) ++ [(Fld.st (Fld.pre s m)).2]) := by
                  show Fld.fieldsOf (Fld.pre s m) = Fld.fieldsOf (Fld.pre s k) ++ [(Fld.st (Fld.pre s m)).2]
                  rw [Fld.fields_pos s m hpos, HM.out.2, unhide HF0]
                clear hpos
                go_wp2_with (at_builtin; refine wpList_append_own _ rfl _ _ 38 rfl w.heap.size 9 i0 (.string ByteArray.empty) 1 16 Tryd.underlying38 hi hz0 hz1 hz2 rfl (by decide) _ _ _ rfl (hown.alloc _) ⟨wr.heap.size, 0, none⟩ 1 1 [.string (s.extract k m)] rfl rfl (cell_one_new _ _ _) (fun x hx => by simp at hx; subst hx; rfl) (by unfold maxLen; omega) (by omega) (by have := hB.size; simp; omega) ?_; intro v' w1 hown' hgrow _)
                have HB1 := hide (below_push hown hB hgrow)
                have HO1 : Hid (w1.ownsRow w.heap.size 9 1 v' (Fld.fieldsOf (Fld.pre s m)).length (vals (Fld.fieldsOf (Fld.pre s m)))) := by
                  show w1.ownsRow w.heap.size 9 1 v' (Fld.fieldsOf (Fld.pre s m)).length (vals (Fld.fieldsOf (Fld.pre s m)))
                  rw [unhide HQ, vals_snoc, List.length_append, ← unhide HP]
                  exact hown'
                clear hown' hgrow hown hB
                go_wp2
                go_roundw
                case rel => exact ⟨m, by omega, by go_num, unhide HO1, unhide HB1, HBM⟩
                case measure => simp [intOf]; omega
          · have hkm2 : k < m := by omega
            have hnl : ¬ ((m : Int) < (s.size : Int)) := by omega
            have hpos : 0 < Fld.op (Fld.pre s m) := by rw [HM.out.1]; omega
            have HP : Hid (s.extract k m = Fld.str (Fld.st (Fld.pre s m)).2) := by
              have := Fld.piece s m hm
              rw [HM.out.1, show m - (m - k) = k from by omega] at this
              exact this
            have HQ : Hid (Fld.fieldsOf (Fld.pre s m) = Fld.fieldsOf (Fld.pre s k) ++ [(Fld.st (Fld.pre s m)).2]) := by
              show Fld.fieldsOf (Fld.pre s m) = Fld.fieldsOf (Fld.pre s k) ++ [(Fld.st (Fld.pre s m)).2]
              rw [Fld.fields_pos s m hpos, HM.out.2, unhide HF0]
            clear hpos
            go_wp2_with (at_builtin; refine wpList_append_own _ rfl _ _ 38 rfl w.heap.size 9 i0 (.string ByteArray.empty) 1 16 Tryd.underlying38 hi hz0 hz1 hz2 rfl (by decide) _ _ _ rfl (hown.alloc _) ⟨wr.heap.size, 0, none⟩ 1 1 [.string (s.extract k m)] rfl rfl (cell_one_new _ _ _) (fun x hx => by simp at hx; subst hx; rfl) (by unfold maxLen; omega) (by omega) (by have := hB.size; simp; omega) ?_; intro v' w1 hown' hgrow _)
            have HB1 := hide (below_push hown hB hgrow)
            have HO1 : Hid (w1.ownsRow w.heap.size 9 1 v' (Fld.fieldsOf (Fld.pre s m)).length (vals (Fld.fieldsOf (Fld.pre s m)))) := by
              show w1.ownsRow w.heap.size 9 1 v' (Fld.fieldsOf (Fld.pre s m)).length (vals (Fld.fieldsOf (Fld.pre s m)))
              rw [unhide HQ, vals_snoc, List.length_append, ← unhide HP]
              exact hown'
            clear hown' hgrow hown hB
            go_wp2
            go_roundw
            case rel => exact ⟨m, by omega, by go_num, unhide HO1, unhide HB1, fun h => absurd h hml⟩
            case measure => simp [intOf]; omega
    · have HF := hide (Fld.fields_full s k (by omega))
      have hnl : ¬ ((k : Int) < (s.size : Int)) := by omega
      go_wp2
      go_ret
      exact ⟨_, rfl, by rw [← unhide HF]; exact hown, hB⟩
end FldW
end Go.Proofs.YtgmakjpicdgmgabDoor
