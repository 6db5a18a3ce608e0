/- Contract: lines.Fields answers a new list that holds the fields of the line (of a line of at most 2^43 bytes), and turns nothing old in memory. -/
import Derived.Test.YtaaonaaciomijabDoorChecked
import Derived.Test.YtaaonaaciomijabDoorFld
import Derived.WalkKit
import Derived.WalkSpells
import Derived.WalkLawsBesides
import Derived.Deep.QuietTactic
import Derived.BigQuiet
import Derived.Deep.DeepFit
import Derived.Lib.Strings
import Derived.Maps.AppendAt
namespace Go.Proofs.YtaaonaaciomijabDoor
open Go.RowKit
namespace FldW

theorem hide {p : Prop} (h : p) : Hid p := h
theorem unhide {p : Prop} (h : Hid p) : p := h
def vals (L : List (List UInt8)) : List Value := L.map (fun f => Value.string (Fld.str f))
theorem vals_snoc (L : List (List UInt8)) (f : List UInt8) : vals (L ++ [f]) = vals L ++ [.string (Fld.str f)] := by simp [vals]
theorem vals_length (L : List (List UInt8)) : (vals L).length = L.length := by simp [vals]
theorem info9 : (Tryd.prog.info? 9).map (fun i => (i.zero, i.size, i.bytes)) = some (some (.string ByteArray.empty), 1, 16) := by kernel_rfl

theorem below_push {w wr w1 : World} {e : TypeId} {v : Value} {n : Nat} {xs : List Value} {o : Obj} (hown : wr.ownsRow w.heap.size e 1 v n xs) (hB : Below w.heap.size w wr) (hg : (wr.alloc o).grownBy w1 v.ownBlock) : Below w.heap.size w w1 :=
  (hB.alloc hB.size o).grown hg (by have := hB.size; simp; omega) (fun k e => (hown.lt k e).1)

theorem blank_cases (c : UInt8) (h : Fld.blank c = true) : (((c.toNat : Int) != 32) = false) ∨ (((c.toNat : Int) != 32) = true ∧ ((c.toNat : Int) != 9) = false) := by
  simp only [Fld.blank, Bool.or_eq_true, beq_iff_eq] at h
  rcases h with h | h
  · left; rw [h]; rfl
  · right; rw [h]; exact ⟨rfl, rfl⟩
theorem plain_of (c : UInt8) (h : Fld.blank c = false) : ((c.toNat : Int) != 32) = true ∧ ((c.toNat : Int) != 9) = true := by
  simp only [Fld.blank, Bool.or_eq_false_iff, beq_eq_false_iff_ne] at h
  constructor <;> (rw [bne_iff_ne]; omega)

set_option maxHeartbeats 1000000 in
theorem fields_any (s : ByteArray) (w : World) (hs : s.size * 16 ≤ 140737488355328) :
    Calls Tryd.prog 41 #[.string s] w fun e w' => ∃ v, e = .returned v ∧ w'.ownsRow w.heap.size 9 1 v (Fld.fieldsOf s.data.toList).length (vals (Fld.fieldsOf s.data.toList)) ∧ Below w.heap.size w w' := by
  obtain ⟨i0, hi, hz0, hz1, hz2⟩ := info_parts info9
  go_enter Tryd.func41, Tryd.ntmps41
  go_wp2
  go_loopw [3, 4, 5] (fun v a i wr => ∃ k : Nat, k ≤ s.size ∧ i = .int .i64 k ∧ a = .int .i64 ((k - Fld.op (Fld.pre s k) : Nat) : Int) ∧ wr.ownsRow w.heap.size 9 1 v (Fld.closed (Fld.pre s k)).length (vals (Fld.closed (Fld.pre s k))) ∧ Below w.heap.size w wr) (fun _ _ i _ => s.size - (intOf i).toNat)
  case atStart => exact ⟨0, Nat.zero_le _, rfl, rfl, World.ownsRow_nil _ _ _ _, Below.refl _ _⟩
  case round =>
    obtain ⟨k, hk, rfl, rfl, hown, hB⟩ := hrel
    have hol := Fld.closed_le s k hk
    have HP := hide (Fld.piece s k hk)
    by_cases hlt : k < s.size
    · cases hb : Fld.blank s[k] with
      | false =>
        have HST := hide (Fld.step_plain s k hlt hb)
        obtain ⟨h32, h9⟩ := plain_of _ hb
        generalize hkk : k - Fld.op (Fld.pre s k) = a at *
        have hE : k + 1 - Fld.op (Fld.pre s (k + 1)) = a := by rw [(unhide HST).2, ← hkk]; omega
        have HE := hide hE
        clear hkk hb hE
        go_wp2
        go_roundw
        case rel => exact ⟨k + 1, by omega, by go_num, by rw [unhide HE], by rw [(unhide HST).1]; exact hown, hB⟩
        case measure => simp [intOf]; omega
      | true =>
        have HST := hide (Fld.step_blank s k hlt hb)
        have HZ := hide (Fld.fields_zero s k)
        have HQ := hide (Fld.fields_pos s k)
        have hop : Fld.op (Fld.pre s k) ≤ k := Fld.op_le s k hk
        generalize hoo : Fld.op (Fld.pre s k) = o at *
        have HOO := hide hoo
        clear hoo
        have hbc := blank_cases _ hb
        clear hb
        by_cases ho : o = 0
        · have HZ2 := hide (unhide HZ ho)
          clear HZ HQ
          subst ho
          have e0 : k - 0 = k := rfl
          rw [e0]
          clear e0
          rcases hbc with h32 | ⟨h32, h9⟩
          all_goals
            go_wp2
            go_roundw
            case rel => exact ⟨k + 1, by omega, by go_num, by rw [(unhide HST).2]; go_num, by rw [(unhide HST).1, unhide HZ2]; exact hown, hB⟩
            case measure => simp [intOf]; omega
        · generalize hkk : k - o = a at *
          have hak : (a : Int) < (k : Int) := by omega
          have hak2 : a ≤ k := by omega
          have hop2 : 0 < o := by omega
          have HC : Hid (Fld.closed (Fld.pre s (k + 1)) = Fld.closed (Fld.pre s k) ++ [(Fld.st (Fld.pre s k)).2]) := by
            show Fld.closed (Fld.pre s (k + 1)) = Fld.closed (Fld.pre s k) ++ [(Fld.st (Fld.pre s k)).2]
            rw [(unhide HST).1, unhide HQ hop2]
          clear hkk ho HQ HZ
          rcases hbc with h32 | ⟨h32, h9⟩
          all_goals
            go_wp2_with (at_builtin; refine wpList_append_own _ rfl _ _ 47 rfl w.heap.size 9 i0 (.string ByteArray.empty) 1 16 Tryd.underlying47 hi hz0 hz1 hz2 rfl (by decide) _ _ _ rfl (hown.alloc _) ⟨wr.heap.size, 0, none⟩ 1 1 [.string (s.extract a k)] rfl rfl (cell_one_new _ _ _) (fun x hx => by simp at hx; subst hx; rfl) (by unfold maxLen; omega) (by omega) (by have := hB.size; simp; omega) ?_; intro v' w1 hown' hgrow _)
            have HB1 := hide (below_push hown hB hgrow)
            have HO1 : Hid (w1.ownsRow w.heap.size 9 1 v' (Fld.closed (Fld.pre s (k + 1))).length (vals (Fld.closed (Fld.pre s (k + 1))))) := by
              show w1.ownsRow w.heap.size 9 1 v' (Fld.closed (Fld.pre s (k + 1))).length (vals (Fld.closed (Fld.pre s (k + 1))))
              rw [unhide HC, vals_snoc, List.length_append, ← unhide HP]
              exact hown'
            clear hown' hgrow hown hB
            go_wp2
            go_roundw
            case rel => exact ⟨k + 1, by omega, by go_num, by rw [(unhide HST).2]; go_num, unhide HO1, unhide HB1⟩
            case measure => simp [intOf]; omega
    · have hkz : k = s.size := by omega
      have HF := hide (Fld.fields_full s k (by omega))
      have HZ := hide (Fld.fields_zero s k)
      have HQ := hide (Fld.fields_pos s k)
      have hop : Fld.op (Fld.pre s k) ≤ k := Fld.op_le s k hk
      generalize hoo : Fld.op (Fld.pre s k) = o at *
      clear hoo
      by_cases ho : o = 0
      · have HZ2 := hide (unhide HZ ho)
        clear HZ HQ
        subst ho
        have e0 : k - 0 = k := rfl
        rw [e0]
        clear e0 hkz
        have hge : ¬ ((k : Int) < (s.size : Int)) := by omega
        go_wp2
        go_ret
        exact ⟨_, rfl, by rw [← unhide HF, unhide HZ2]; exact hown, hB⟩
      · generalize hkk : k - o = a at *
        have hak : (a : Int) < (s.size : Int) := by omega
        have hop2 : 0 < o := by omega
        have hak2 : a ≤ s.size := by omega
        subst hkz
        clear hkk ho HZ
        go_wp2_with (at_builtin; refine wpList_append_own _ rfl _ _ 47 rfl w.heap.size 9 i0 (.string ByteArray.empty) 1 16 Tryd.underlying47 hi hz0 hz1 hz2 rfl (by decide) _ _ _ rfl (hown.alloc _) ⟨wr.heap.size, 0, none⟩ 1 1 [.string (s.extract a s.size)] rfl rfl (cell_one_new _ _ _) (fun x hx => by simp at hx; subst hx; rfl) (by unfold maxLen; omega) (by omega) (by have := hB.size; simp; omega) ?_; intro v' w1 hown' hgrow _)
        have HB1 := hide (below_push hown hB hgrow)
        have HO1 : Hid (w1.ownsRow w.heap.size 9 1 v' (Fld.fieldsOf s.data.toList).length (vals (Fld.fieldsOf s.data.toList))) := by
          show w1.ownsRow w.heap.size 9 1 v' (Fld.fieldsOf s.data.toList).length (vals (Fld.fieldsOf s.data.toList))
          rw [← unhide HF, unhide HQ hop2, vals_snoc, List.length_append, ← unhide HP]
          exact hown'
        clear hown' hgrow hown hB
        go_wp2
        go_ret
        exact ⟨_, rfl, unhide HO1, unhide HB1⟩
end FldW
end Go.Proofs.YtaaonaaciomijabDoor
