/- Contract: the document's Lines answers the lines of the text; nothing old in memory turns. -/
import Derived.Test.YtgmakjpicdgmgabDoorByt
import Derived.Test.YtgmakjpicdgmgabDoorLnM
namespace Go.Proofs.YtgmakjpicdgmgabDoor
open Go.RowKit
namespace LnR
open FldW Byt

set_option maxHeartbeats 1000000 in
theorem marked_any (s : ByteArray) (w : World) (hs : s.size ≤ maxLen) : Calls Tryd.prog 19 #[.string s] w fun e w' => e = .returned (.bool (Lib.hasPrefix s.data.toList Ln.mark)) ∧ w' = w := by
  unfold maxLen at hs
  cases hp : Lib.hasPrefix s.data.toList Ln.mark with
  | true =>
    obtain ⟨h3, h0, h1, h2⟩ := Ln.mark_true s hp
    have g0 : ((s[0].toNat : Int) == 239) = true := Ln.byte_eq _ 239 h0
    have g1 : ((s[1].toNat : Int) == 187) = true := Ln.byte_eq _ 187 h1
    have g2 : ((s[2].toNat : Int) == 191) = true := Ln.byte_eq _ 191 h2
    have h4 : (3 : Int) ≤ (s.size : Int) := by omega
    clear hp h0 h1 h2
    go_enter Tryd.func19, Tryd.ntmps19
    go_wp2
    go_ret
    exact ⟨rfl, rfl⟩
  | false =>
    rcases Ln.mark_false s hp with h3 | ⟨h3, h0 | ⟨h0, h1⟩ | ⟨h0, h1, h2⟩⟩
    · have h4 : ¬ (3 : Int) ≤ (s.size : Int) := by omega
      clear hp
      go_enter Tryd.func19, Tryd.ntmps19
      go_wp2
      go_ret
      exact ⟨rfl, rfl⟩
    · have g0 : ((s[0].toNat : Int) == 239) = false := Ln.byte_ne _ 239 h0
      have h4 : (3 : Int) ≤ (s.size : Int) := by omega
      clear hp h0
      go_enter Tryd.func19, Tryd.ntmps19
      go_wp2
      go_ret
      exact ⟨rfl, rfl⟩
    · have g0 : ((s[0].toNat : Int) == 239) = true := Ln.byte_eq _ 239 h0
      have g1 : ((s[1].toNat : Int) == 187) = false := Ln.byte_ne _ 187 h1
      have h4 : (3 : Int) ≤ (s.size : Int) := by omega
      clear hp h0 h1
      go_enter Tryd.func19, Tryd.ntmps19
      go_wp2
      go_ret
      exact ⟨rfl, rfl⟩
    · have g0 : ((s[0].toNat : Int) == 239) = true := Ln.byte_eq _ 239 h0
      have g1 : ((s[1].toNat : Int) == 187) = true := Ln.byte_eq _ 187 h1
      have g2 : ((s[2].toNat : Int) == 191) = false := Ln.byte_ne _ 191 h2
      have h4 : (3 : Int) ≤ (s.size : Int) := by omega
      clear hp h0 h1 h2
      go_enter Tryd.func19, Tryd.ntmps19
      go_wp2
      go_ret
      exact ⟨rfl, rfl⟩

set_option maxHeartbeats 1000000 in
theorem ended_any (L : List UInt8) (B : Nat) (v : Value) (w : World) (hl : L.length ≤ 65536) (h : w.ownsRow B 5 1 v L.length (Byt.bytes L)) :
    Calls Tryd.prog 47 #[v] w fun e w' => e = .returned (.string (Fld.str (Ln.ended L))) ∧ w' = w := by
  by_cases h0 : 0 < L.length
  · obtain ⟨a, c, hL, ha, hlast⟩ := Ln.snoc_of h0
    obtain ⟨g, cap, rfl, hg, hcell⟩ := owns_cells h h0
    have hcv := conv_owns h
    have hcl := hcell _ _ hlast
    have hcap : L.length ≤ cap := by
      obtain ⟨_, ⟨e, _⟩ | ⟨g', cap', cur, e, _, _, hc1, _⟩⟩ := h
      · cases e
      · injection e with _ _ e3
        omega
    obtain ⟨m, hm⟩ : ∃ m, L.length = m + 1 := ⟨L.length - 1, by omega⟩
    have ham : a.length = m := by omega
    rw [hm] at hcv hcap
    rw [show L.length - 1 = m from by omega] at hcl
    rw [hm] at hl ⊢
    have hcv2 : (convert 49 9 (.slice (some ⟨g, 0, none⟩) m cap)).run Tryd.prog w = .ok (.string ⟨a.toArray⟩) w := by
      have := run_convert_bytes_back w 49 9 5 ⟨g, 0, none⟩ cap a Tryd.underlying49 Tryd.underlying5 Tryd.underlying9 (fun j hj => by
          rw [add_zero_off]
          exact hcell j _ (by rw [hL, List.getElem?_append_left hj]; exact List.getElem?_eq_getElem hj))
      rwa [ham] at this
    by_cases hc : c = 13
    · rw [Ln.ended_yes hL hc]
      have hcb : ((c.toNat : Int) == 13) = true := Ln.byte_eq _ 13 hc
      clear hcell h hL hlast hc ha ham hm h0 hcv
      go_enter Tryd.func47, Tryd.ntmps47
      go_wp2
      go_ret
      exact ⟨rfl, rfl⟩
    · rw [Ln.ended_no hL hc]
      have hcb : ((c.toNat : Int) == 13) = false := Ln.byte_ne _ 13 hc
      clear hcell h hL hlast hc ha ham hm h0 hcv2
      go_enter Tryd.func47, Tryd.ntmps47
      go_wp2
      go_ret
      exact ⟨rfl, rfl⟩
  · have hL : L = [] := List.eq_nil_of_length_eq_zero (by omega)
    subst hL
    have hcv := conv_owns h
    clear h0 hl
    rw [List.length_nil] at h
    obtain ⟨_, ⟨rfl, _⟩ | ⟨g', cap', cur, rfl, _, hh, hc1, hc2⟩⟩ := h
    · go_enter Tryd.func47, Tryd.ntmps47
      go_wp2
      go_ret
      exact ⟨rfl, rfl⟩
    clear hh hc1 hc2
    all_goals
      go_enter Tryd.func47, Tryd.ntmps47
      go_wp2
      go_ret
      exact ⟨rfl, rfl⟩

set_option maxRecDepth 100000 in
set_option maxHeartbeats 2000000 in
theorem lines_any (s : ByteArray) (hs : s.size ≤ 65536) (w : World) :
    Calls Tryd.prog 35 #[.string s] w fun e w' => ∃ v, e = .returned v ∧ w'.ownsRow w.heap.size 9 1 v (Ln.linesOf s.data.toList).length (vals (Ln.linesOf s.data.toList)) ∧ Below w.heap.size w w' := by
  obtain ⟨i5, hi5, hz50, hz51, hz52⟩ := info_parts info5
  obtain ⟨i9, hi9, hz90, hz91, hz92⟩ := info_parts info9
  have hmk := marked_any s w (by unfold maxLen; omega)
  have HMK := hide hmk
  clear hmk
  have HU : Hid (∃ T : ByteArray, T.size ≤ 65536 ∧ Ln.linesOf s.data.toList = Ln.ln T.data.toList ∧ (Lib.hasPrefix s.data.toList Ln.mark = true → 3 ≤ s.size ∧ s.extract 3 s.size = T) ∧ (Lib.hasPrefix s.data.toList Ln.mark = false → s = T)) := by
    cases hp : Lib.hasPrefix s.data.toList Ln.mark with
    | true => exact ⟨s.extract 3 s.size, by simp; omega, by unfold Ln.linesOf; rw [Ln.unmark_yes s hp], fun _ => ⟨(Ln.mark_true s hp).1, rfl⟩, fun h => by cases h⟩
    | false => exact ⟨s, hs, by unfold Ln.linesOf; rw [Ln.unmark_no s hp], fun h => (by cases h), fun _ => rfl⟩
  obtain ⟨T, hT, hLT, hT1, hT2⟩ := unhide HU
  clear HU
  rw [hLT]
  clear hLT
  generalize hp : Lib.hasPrefix s.data.toList Ln.mark = p at *
  clear hp
  cases p
  all_goals
    first
    | (obtain rfl := (hT2 rfl).symm; clear hT1 hT2)
    | (obtain ⟨h3, hTe⟩ := hT1 rfl; clear hT1 hT2)
    go_enter Tryd.func35, Tryd.ntmps35
    go_wp2_with (go_at_call 19; refine (unhide HMK).mono ?_; rintro e w' ⟨rfl, hw⟩; obtain rfl := hw.symm)
    go_loopw [3, 4, 5, 6] (fun out line opn i wr => ∃ k : Nat, k ≤ T.size ∧ i = .int .i64 k ∧ opn = .bool (!(Ln.at_ T k).2.isEmpty) ∧ wr.ownsRow w.heap.size 9 1 out (Ln.at_ T k).1.length (vals (Ln.at_ T k).1) ∧ wr.ownsRow w.heap.size 5 1 line (Ln.at_ T k).2.length (Byt.bytes (Ln.at_ T k).2) ∧ Below w.heap.size w wr) (fun _ _ _ i _ => T.size - (intOf i).toNat)
    case atStart => exact ⟨0, Nat.zero_le _, rfl, rfl, World.ownsRow_nil _ _ _ _, World.ownsRow_made w #[] 0 (Nat.le_refl _) (by simp) rfl, (Below.refl _ _).alloc (Nat.le_refl _) _⟩
    case round =>
      obtain ⟨k, hk, rfl, rfl, hO, hC, hB⟩ := hrel
      have hlen := Ln.at_len T k hk
      have HFE := hide (Ln.feed_at T k)
      have HPL := hide (Ln.plain_at T k)
      have HFU := hide (Ln.at_full T k)
      generalize hD : (Ln.at_ T k).1 = D at *
      generalize hCC : (Ln.at_ T k).2 = C at *
      have HDC : Hid (Ln.at_ T k = (D, C)) := by show Ln.at_ T k = (D, C); rw [← hD, ← hCC]
      clear hD hCC
      by_cases hlt : k < T.size
      · by_cases hc : T[k] = 10
        · have hcb : ((T[k].toNat : Int) != 10) = false := by rw [bne, show ((T[k].toNat : Int) == 10) = true from Ln.byte_eq _ 10 hc]; rfl
          have HN := hide (unhide HFE hlt hc)
          have hend := fun wq hq => ended_any C w.heap.size u4 wq (by omega) hq
          have HEN := hide hend
          clear hend hc HFE HPL HFU
          go_wp2_with (first | (go_at_call 47; refine (unhide HEN _ hC).mono ?_; rintro e w' ⟨rfl, hw⟩; obtain rfl := hw.symm) | (at_builtin; refine wpList_append_own _ rfl _ _ 38 rfl w.heap.size 9 i9 (.string ByteArray.empty) 1 16 Tryd.underlying38 hi9 hz90 hz91 hz92 rfl (by decide) _ _ _ rfl (hO.alloc _) ⟨wr.heap.size, 0, none⟩ 1 1 [.string (Fld.str (Ln.ended C))] rfl rfl (cell_one_new _ _ _) (fun x hx => by simp at hx; subst hx; rfl) (by unfold maxLen; omega) (by omega) (by have := hB.size; simp; omega) ?_; intro v' w1 hown' hgrow hnil; clear hnil))
          have HB1 := hide (below_push hO hB hgrow)
          have HO1 : Hid (w1.ownsRow w.heap.size 9 1 v' (Ln.at_ T (k + 1)).1.length (vals (Ln.at_ T (k + 1)).1)) := by
            show w1.ownsRow w.heap.size 9 1 v' (Ln.at_ T (k + 1)).1.length (vals (Ln.at_ T (k + 1)).1)
            rw [unhide HN, vals_snoc, List.length_append]
            exact hown'
          have HE1 : Hid ((Ln.at_ T (k + 1)).2 = []) := by show (Ln.at_ T (k + 1)).2 = []; rw [unhide HN]
          clear hown' hgrow hO hC hB HEN
          go_wp2
          go_roundw
          case rel => exact ⟨k + 1, by omega, by go_num, by rw [unhide HE1]; rfl, (unhide HO1).alloc _, by rw [unhide HE1]; exact World.ownsRow_made w1 #[] 0 (unhide HB1).size (by simp) rfl, (unhide HB1).alloc (unhide HB1).size _⟩
          case measure => simp [intOf]; omega
        · have hcb : ((T[k].toNat : Int) != 10) = true := by rw [bne, show ((T[k].toNat : Int) == 10) = false from Ln.byte_ne _ 10 hc]; rfl
          have HN := hide (unhide HPL hlt hc)
          clear hc HFE HPL HFU
          go_wp2_with (at_builtin; refine wpList_append_own _ rfl _ _ 49 rfl w.heap.size 5 i5 (.int .u8 0) 1 1 Tryd.underlying49 hi5 hz50 hz51 hz52 rfl (by decide) _ _ _ rfl (hC.alloc _) ⟨wr.heap.size, 0, none⟩ 1 1 [.int .u8 (T[k].toNat : Int)] rfl rfl (cell_one_new _ _ _) (fun x hx => by simp at hx; subst hx; rfl) (by unfold maxLen; omega) (by omega) (by have := hB.size; simp; omega) ?_; intro v' w1 hown' hgrow hnil; clear hnil)
          have HB1 := hide (below_push hC hB hgrow)
          have HO1 : Hid (w1.ownsRow w.heap.size 9 1 u3 (Ln.at_ T (k + 1)).1.length (vals (Ln.at_ T (k + 1)).1)) := by
            show w1.ownsRow w.heap.size 9 1 u3 (Ln.at_ T (k + 1)).1.length (vals (Ln.at_ T (k + 1)).1)
            rw [unhide HN]
            exact (hO.alloc _).kept hgrow (owns_ne hO hC (by decide))
          have HC1 : Hid (w1.ownsRow w.heap.size 5 1 v' (Ln.at_ T (k + 1)).2.length (Byt.bytes (Ln.at_ T (k + 1)).2)) := by
            show w1.ownsRow w.heap.size 5 1 v' (Ln.at_ T (k + 1)).2.length (Byt.bytes (Ln.at_ T (k + 1)).2)
            rw [unhide HN, bytes_snoc, List.length_append]
            exact hown'
          have HE1 : Hid ((!(Ln.at_ T (k + 1)).2.isEmpty) = true) := by show (!(Ln.at_ T (k + 1)).2.isEmpty) = true; rw [unhide HN]; simp
          clear hown' hgrow hO hC hB
          go_wp2
          go_roundw
          case rel => exact ⟨k + 1, by omega, by go_num, by rw [unhide HE1], unhide HO1, unhide HC1, unhide HB1⟩
          case measure => simp [intOf]; omega
      · have HF := hide (unhide HFU (by omega))
        have hnl : ¬ ((k : Int) < (T.size : Int)) := by omega
        clear HFU HFE HPL
        cases hCe : C.isEmpty with
        | true =>
          have HFI : Hid (Ln.ln T.data.toList = D) := by
            show Ln.ln T.data.toList = D
            rw [unhide HF, unhide HDC]
            unfold Ln.fin
            rw [if_pos hCe]
          clear HF HDC
          go_wp2
          go_ret
          exact ⟨_, rfl, by rw [unhide HFI]; exact hO, hB⟩
        | false =>
          have HFI : Hid (Ln.ln T.data.toList = D ++ [Ln.ended C]) := by
            show Ln.ln T.data.toList = D ++ [Ln.ended C]
            rw [unhide HF, unhide HDC]
            unfold Ln.fin
            simp only [hCe]
            rfl
          have hend := fun wq hq => ended_any C w.heap.size u4 wq (by omega) hq
          have HEN := hide hend
          clear hend HF HDC
          go_wp2_with (first | (go_at_call 47; refine (unhide HEN _ hC).mono ?_; rintro e w' ⟨rfl, hw⟩; obtain rfl := hw.symm) | (at_builtin; refine wpList_append_own _ rfl _ _ 38 rfl w.heap.size 9 i9 (.string ByteArray.empty) 1 16 Tryd.underlying38 hi9 hz90 hz91 hz92 rfl (by decide) _ _ _ rfl (hO.alloc _) ⟨wr.heap.size, 0, none⟩ 1 1 [.string (Fld.str (Ln.ended C))] rfl rfl (cell_one_new _ _ _) (fun x hx => by simp at hx; subst hx; rfl) (by unfold maxLen; omega) (by omega) (by have := hB.size; simp; omega) ?_; intro v' w1 hown' hgrow hnil; clear hnil))
          have HB1 := hide (below_push hO hB hgrow)
          have HO1 : Hid (w1.ownsRow w.heap.size 9 1 v' (Ln.ln T.data.toList).length (vals (Ln.ln T.data.toList))) := by
            show w1.ownsRow w.heap.size 9 1 v' (Ln.ln T.data.toList).length (vals (Ln.ln T.data.toList))
            rw [unhide HFI, vals_snoc, List.length_append]
            exact hown'
          clear hown' hgrow hO hC hB HEN
          go_wp2
          go_ret
          exact ⟨_, rfl, unhide HO1, unhide HB1⟩

end LnR
end Go.Proofs.YtgmakjpicdgmgabDoor
