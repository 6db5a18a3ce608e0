/- Contract: the law's helper answers the text without line feeds and without carriage returns at its end, and turns nothing old in memory. -/
import Derived.Test.YtgmakjpicdgmgabDoorByt
import Derived.Test.YtgmakjpicdgmgabDoorPlnM
namespace Go.Proofs.YtgmakjpicdgmgabDoor
open Go.RowKit
namespace PlnW
open FldW Byt

theorem conv_part {w : World} {B : Nat} {g cap : Nat} {O : List UInt8} (h : w.ownsRow B 5 1 (.slice (some ⟨g, 0, none⟩) O.length cap) O.length (Byt.bytes O)) (m : Nat) (hm : m ≤ O.length) :
    (convert 49 9 (.slice (some ⟨g, 0, none⟩) m cap)).run Tryd.prog w = .ok (.string ⟨(O.take m).toArray⟩) w := by
  have hl : (O.take m).length = m := by simp; omega
  have h2 := run_convert_bytes_back w 49 9 5 ⟨g, 0, none⟩ cap (O.take m) Tryd.underlying49 Tryd.underlying5 Tryd.underlying9 (fun j hj => by
    rw [add_zero_off]
    have hj2 : j < O.length := by omega
    obtain ⟨g2, cap2, e, _, hc⟩ := owns_cells h (by omega)
    injection e with e1
    injection e1 with e2
    injection e2 with e3
    subst e3
    have := hc j O[j] (List.getElem?_eq_getElem hj2)
    rw [this]
    simp)
  rwa [hl] at h2

set_option maxRecDepth 100000 in
set_option maxHeartbeats 2000000 in
theorem plain_any (s : ByteArray) (w : World) (hs : s.size ≤ 140737488351232) :
    Calls Tryd.prog 18 #[.string s] w fun e w' => e = .returned (.string (Fld.str (Pl.pl s.data.toList))) ∧ Below w.heap.size w w' := by
  obtain ⟨i5, hi5, hz50, hz51, hz52⟩ := info_parts info5
  go_enter Tryd.func18, Tryd.ntmps18
  go_wp2
  go_loopw [3, 4] (fun out i wr => ∃ k : Nat, k ≤ s.size ∧ i = .int .i64 k ∧ wr.ownsRow w.heap.size 5 1 out (Pl.flt (s.data.toList.take k)).length (Byt.bytes (Pl.flt (s.data.toList.take k))) ∧ Below w.heap.size w wr) (fun _ i _ => s.size - (intOf i).toNat)
  case atStart => exact ⟨0, Nat.zero_le _, rfl, World.ownsRow_nil _ _ _ _, Below.refl _ _⟩
  case round =>
    obtain ⟨k, hk, rfl, hO, hB⟩ := hrel
    have hfl : (Pl.flt (s.data.toList.take k)).length ≤ k := Nat.le_trans (Pl.flt_le _) (List.length_take_le _ _)
    by_cases hlt : k < s.size
    · have hsn : Pl.flt (s.data.toList.take (k + 1)) = Pl.flt (s.data.toList.take k) ++ (if s[k] = 10 then [] else [s[k]]) := by rw [Fld.take_snoc s k hlt, Pl.flt_snoc]
      by_cases hc : s[k] = 10
      · have hcb : ((s[k].toNat : Int) != 10) = false := by rw [bne, show ((s[k].toNat : Int) == 10) = true from Ln.byte_eq _ 10 hc]; rfl
        rw [if_pos hc, List.append_nil] at hsn
        have HSN := hide hsn
        clear hsn hc
        go_wp2
        go_roundw
        case rel => exact ⟨k + 1, by omega, by go_num, by rw [unhide HSN]; exact hO, hB⟩
        case measure => simp [intOf]; omega
      · have hcb : ((s[k].toNat : Int) != 10) = true := by rw [bne, show ((s[k].toNat : Int) == 10) = false from Ln.byte_ne _ 10 hc]; rfl
        rw [if_neg hc] at hsn
        have HSN := hide hsn
        clear hsn hc
        generalize Pl.flt (s.data.toList.take k) = O at *
        go_wp2_with (at_builtin; refine wpList_append_own _ rfl _ _ 49 rfl w.heap.size 5 i5 (.int .u8 0) 1 1 Tryd.underlying49 hi5 hz50 hz51 hz52 rfl (by decide) _ _ _ rfl (hO.alloc _) ⟨wr.heap.size, 0, none⟩ 1 1 [.int .u8 (s[k].toNat : Int)] rfl rfl (cell_one_new _ _ _) (fun x hx => by simp at hx; subst hx; rfl) (by unfold maxLen; omega) (by omega) (by have := hB.size; simp; omega) ?_; intro v' w1 hown' hgrow hnil; clear hnil)
        have HB1 := hide (below_push hO hB hgrow)
        have HO1 : Hid (w1.ownsRow w.heap.size 5 1 v' (Pl.flt (s.data.toList.take (k + 1))).length (Byt.bytes (Pl.flt (s.data.toList.take (k + 1))))) := by
          show w1.ownsRow w.heap.size 5 1 v' (Pl.flt (s.data.toList.take (k + 1))).length (Byt.bytes (Pl.flt (s.data.toList.take (k + 1))))
          rw [unhide HSN, bytes_snoc, List.length_append]
          exact hown'
        clear hown' hgrow hO hB
        go_wp2
        go_roundw
        case rel => exact ⟨k + 1, by omega, by go_num, unhide HO1, unhide HB1⟩
        case measure => simp [intOf]; omega
    · rw [Fld.full s k (by omega)] at hO hfl
      have HPL : Hid (Pl.pl s.data.toList = Pl.strip (Pl.flt s.data.toList)) := rfl
      have hnl : ¬ ((k : Int) < (s.size : Int)) := by omega
      obtain ⟨w2, rfl⟩ : ∃ w2, w2 = wr := ⟨wr, rfl⟩
      generalize Pl.flt s.data.toList = O at *
      by_cases hO0 : O = []
      · subst hO0
        rw [List.length_nil] at hO
        have hpe : Pl.pl s.data.toList = [] := unhide HPL
        have HPE := hide hpe
        clear hpe HPL hfl
        obtain ⟨_, ⟨rfl, _⟩ | ⟨g', cap', cur, rfl, _, hh, hc1, hc2⟩⟩ := hO
        · have hcv : ∀ W, (convert 49 9 (.slice none 0 0)).run Tryd.prog W = .ok (.string ByteArray.empty) W := fun W => run_convert_bytes_nil W 49 5 Tryd.underlying49 Tryd.underlying5 0 0 9 Tryd.underlying9
          go_wp2
          go_loop [5] (fun n => n = .int .i64 0) (fun _ => 0)
          case atStart => rfl
          case round =>
            subst hrel
            go_wp2
            go_ret
            exact ⟨by rw [unhide HPE]; rfl, hB⟩
        · have hcv : ∀ W : World, (convert 49 9 (.slice (some ⟨g', 0, none⟩) 0 cap')).run Tryd.prog W = .ok (.string ⟨#[]⟩) W := fun W => run_convert_bytes_back W 49 9 5 ⟨g', 0, none⟩ cap' [] Tryd.underlying49 Tryd.underlying5 Tryd.underlying9 (fun j hj => absurd hj (by simp))
          clear hh hc2
          go_wp2
          go_loop [5] (fun n => n = .int .i64 0) (fun _ => 0)
          case atStart => rfl
          case round =>
            subst hrel
            go_wp2
            go_ret
            exact ⟨by rw [unhide HPE]; rfl, hB⟩
      · have hpos : 0 < O.length := List.length_pos_iff.2 hO0
        obtain ⟨g, cap, rfl, hg, hcell⟩ := owns_cells hO hpos
        have hcp : O.length ≤ cap := by
          obtain ⟨_, ⟨e, _⟩ | ⟨g', cap', cur, e, _, _, hc1, _⟩⟩ := hO
          · cases e
          · injection e with _ _ e3
            omega
        have HCV := hide (conv_part hO)
        have HC := hide hcell
        clear hcell hO hO0
        generalize hz : O.length = z at *
        have HZ := hide hz
        clear hz
        go_wp2
        go_loop [5] (fun n => ∃ m : Nat, m ≤ z ∧ n = .int .i64 m ∧ Hid (Pl.strip (O.take m) = Pl.strip O)) (fun n => (intOf n).toNat)
        case atStart => exact ⟨z, Nat.le_refl _, rfl, by rw [List.take_of_length_le (by rw [unhide HZ]; exact Nat.le_refl _)]; rfl⟩
        case round =>
          obtain ⟨m, hm, rfl, HM⟩ := hrel
          cases m with
          | zero =>
            have hcv := unhide HCV 0 (Nat.zero_le _)
            have HR : Hid (Fld.str (Pl.pl s.data.toList) = ⟨(O.take 0).toArray⟩) := by
              show Fld.str (Pl.pl s.data.toList) = ⟨(O.take 0).toArray⟩
              rw [unhide HPL, ← HM.out]
              rfl
            rw [show ((0 : Nat) : Int) = 0 from rfl]
            go_wp2
            go_ret
            exact ⟨by rw [unhide HR]; rfl, hB⟩
          | succ j =>
            have hjl : j < O.length := by rw [unhide HZ]; omega
            have hcj := unhide HC j O[j] (List.getElem?_eq_getElem hjl)
            have htk : O.take (j + 1) = O.take j ++ [O[j]] := List.take_succ_eq_append_getElem hjl
            by_cases hc : O[j] = 13
            · have hcb : ((O[j].toNat : Int) == 13) = true := Ln.byte_eq _ 13 hc
              have HN : Hid (Pl.strip (O.take j) = Pl.strip O) := by
                show Pl.strip (O.take j) = Pl.strip O
                rw [← HM.out, htk, hc, Pl.strip_cr]
              generalize O[j] = x at *
              clear hc htk hjl
              rw [show ((j + 1 : Nat) : Int) = (j : Int) + 1 from rfl]
              go_wp2
              go_round
              case rel => exact ⟨j, by omega, by go_num, HN⟩
              case measure => simp [intOf]; try omega
            · have hcb : ((O[j].toNat : Int) == 13) = false := Ln.byte_ne _ 13 hc
              have hcv := unhide HCV (j + 1) hm
              have HR : Hid (Fld.str (Pl.pl s.data.toList) = ⟨(O.take (j + 1)).toArray⟩) := by
                show Fld.str (Pl.pl s.data.toList) = ⟨(O.take (j + 1)).toArray⟩
                rw [unhide HPL, ← HM.out, htk, Pl.strip_other _ _ hc]
                rfl
              generalize O[j] = x at *
              generalize O.take (j + 1) = Y at *
              clear hc htk hjl
              rw [show ((j + 1 : Nat) : Int) = (j : Int) + 1 from rfl]
              go_wp2
              go_ret
              exact ⟨by rw [unhide HR]; rfl, hB⟩
end PlnW
end Go.Proofs.YtgmakjpicdgmgabDoor
