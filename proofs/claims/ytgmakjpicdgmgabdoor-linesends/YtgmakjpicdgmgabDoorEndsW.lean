/- The walk of the law on lines that are ended in either way: it answers true. -/
import Derived.Test.YtgmakjpicdgmgabDoorWake
import Derived.Test.YtgmakjpicdgmgabDoorSplW
import Derived.Test.YtgmakjpicdgmgabDoorLnR
import Derived.Test.YtgmakjpicdgmgabDoorSame
import Derived.Test.YtgmakjpicdgmgabDoorPlnW
import Derived.Test.YtgmakjpicdgmgabDoorArgB
namespace Go.Proofs.YtgmakjpicdgmgabDoor
open Go.RowKit
namespace EndsW
open FldW ArgB

set_option maxRecDepth 100000 in
set_option maxHeartbeats 4000000 in
theorem walk (v0 v1 : Value) (L : List ByteArray) (Q : List Bool) (w : World) (h0 : ArgOf Value.string w v0 L) (h1 : ArgOf Value.bool w v1 Q) (hs : ∀ x ∈ L, x.size ≤ 140737488351232) (hM : EachW.MaxIs w) (hg0 : 1 < w.heap.size) :
    Calls Tryd.prog 6 #[v0, v1] w fun e w' => e = .returned (.bool true) ∧ Below w.heap.size w w' := by
  obtain ⟨i9, hi9, hz90, hz91, hz92⟩ := info_parts info9
  obtain ⟨a0, c0, rfl, hc0, hl0, H0'⟩ := h0
  obtain ⟨a1, c1, rfl, hc1, hl1, H1'⟩ := h1
  have H0 := hide H0'
  have H1 := hide H1'
  have HS := hide hs
  have HM := hide hM
  clear H0' H1' hs hM
  unfold maxLen at hl0 hl1
  have HE := hide (Pl.ents_take L Q)
  have HOK := hide (Pl.ents_ok_take L Q)
  generalize hz : L.length = z at *
  have HZ := hide hz
  generalize hq : Q.length = y at *
  have HY := hide hq
  clear hz hq
  go_enter Tryd.func6, Tryd.ntmps6
  go_wp2_with fail
  refine (Wake.wakes_any _).mono ?_
  rintro e w1 ⟨rfl, hB1⟩
  go_wp2
  go_loopw [5, 6, 16] (fun text want i wr => ∃ (k : Nat) (T : ByteArray), k ≤ z ∧ i = .int .i64 k ∧ text = .string T ∧ Hid (T.size ≤ 65536 ∧ k ≤ T.size) ∧ Hid (T.data.toList = Pl.txt ((Pl.ents L Q).take k)) ∧ wr.ownsRow w1.heap.size 9 1 want k (vals (((Pl.ents L Q).take k).map fun x => x.1)) ∧ Below w1.heap.size w1 wr ∧ Hid (∀ p r t, (Pl.ents L Q).take k = (p, r) :: t → Lib.hasPrefix p Ln.mark = false)) (fun _ _ i _ => z - (intOf i).toNat)
  case atStart => exact ⟨0, ⟨#[]⟩, Nat.zero_le _, rfl, rfl, ⟨by decide, Nat.zero_le _⟩, rfl, World.ownsRow_nil _ _ _ _, Below.refl _ _, fun p r t h => by simp at h⟩
  case round =>
    obtain ⟨k, T, hk, rfl, rfl, HTK0, HT, hO, hB, HMK⟩ := hrel
    obtain ⟨hT, hkT⟩ := HTK0.out
    by_cases hlt : k < z
    · obtain ⟨x, hx⟩ : ∃ x, L[k]? = some x := ⟨_, List.getElem?_eq_getElem (by rw [unhide HZ]; exact hlt)⟩
      have hxs := unhide HS x (List.mem_of_getElem? hx)
      obtain ⟨g0, o0, rfl, hg0', hcell⟩ := unhide H0 (by omega)
      have hBw : Below w.heap.size w wr := hB1.trans (hB.mono hB1.size)
      have hck : wr.cell? ⟨g0, o0 + k, none⟩ = some (.string x) := (hBw.cell (p := ⟨g0, o0 + k, none⟩) hg0').trans (hcell k x hx)
      have HTK := hide (unhide HE k x hx)
      have hpl := fun wq => PlnW.plain_any x wq hxs
      have hpz := Pl.pl_le x.data.toList
      have hPz : (Fld.str (Pl.pl x.data.toList)).size = (Pl.pl x.data.toList).length := by show (Pl.pl x.data.toList).toArray.size = _; simp
      have hxd : x.data.toList.length = x.size := by simp
      have hPs : (Fld.str (Pl.pl x.data.toList)).size ≤ 140737488351232 := by omega
      have hmk := fun wq => LnR.marked_any (Fld.str (Pl.pl x.data.toList)) wq (by unfold maxLen; omega)
      have hPd : (Fld.str (Pl.pl x.data.toList)).data.toList = Pl.pl x.data.toList := by simp [Fld.str]
      rw [hPd] at hmk
      have HPD := hide hPd
      have HPL := hide hpl
      clear hpl hPd hcell hpz hPz hxd hx hxs
      generalize Pl.pl x.data.toList = pp at *
      generalize hPS : Fld.str pp = P at *
      have HPS := hide hPS
      clear hPS
      have hr : (y ≤ k ∧ Q[k]?.getD false = false) ∨ (∃ b, k < y ∧ Q[k]? = some b ∧ Q[k]?.getD false = b) := by
        by_cases hky : k < y
        · right
          exact ⟨_, hky, List.getElem?_eq_getElem (by rw [unhide HY]; exact hky), by rw [List.getElem?_eq_getElem (by rw [unhide HY]; exact hky)]; rfl⟩
        · left
          exact ⟨by omega, by rw [List.getElem?_eq_none (by rw [unhide HY]; omega)]; rfl⟩
      by_cases hm0 : k = 0 ∧ Lib.hasPrefix pp Ln.mark = true
      · obtain ⟨hk0, hmt⟩ := hm0
        have hkb : ((k : Int) == 0) = true := by rw [hk0]; rfl
        rw [hmt] at hmk
        have HMA := hide hmk
        clear hmk hmt hk0 hr
        go_wp2_with (first | (go_at_call 18; refine (unhide HPL _).mono ?_; rintro e W1 ⟨rfl, hBp⟩) | (go_at_call 19; refine (unhide HMA _).mono ?_; rintro e W2 ⟨rfl, hw⟩; obtain rfl := hw.symm))
        go_ret
        exact ⟨rfl, hBw.trans (hBp.mono (Nat.le_trans hB1.size hB.size))⟩
      · have hkm : (((k : Int) == 0) = true ∧ k = 0 ∧ Lib.hasPrefix pp Ln.mark = false) ∨ (((k : Int) == 0) = false ∧ 0 < k) := by
          by_cases hk0 : k = 0
          · left
            refine ⟨by rw [hk0]; rfl, hk0, ?_⟩
            cases h : Lib.hasPrefix pp Ln.mark with
            | false => rfl
            | true => exact absurd ⟨hk0, h⟩ hm0
          · right
            exact ⟨by rw [beq_eq_false_iff_ne]; omega, by omega⟩
        have HMN : Hid (∀ p r t, (Pl.ents L Q).take (k + 1) = (p, r) :: t → Lib.hasPrefix p Ln.mark = false) := by
          intro p r t he
          rw [unhide HTK] at he
          rcases hkm with ⟨_, hk0, hmf⟩ | ⟨_, hk0⟩
          · rw [hk0] at he
            simp at he
            rw [← he.1.1]
            exact hmf
          · cases hA : (Pl.ents L Q).take k with
            | nil =>
              have := congrArg List.length hA
              rw [List.length_take, Pl.ents_length, unhide HZ] at this
              simp at this
              omega
            | cons y2 t2 =>
              obtain ⟨p2, r2⟩ := y2
              rw [hA] at he
              simp at he
              rw [← he.1.1]
              exact HMK.out p2 r2 t2 hA
        have hmk2 : ((k : Int) == 0) = true → ∀ wq, Calls Tryd.prog 19 #[.string P] wq fun e w' => e = .returned (.bool false) ∧ w' = wq := by
          intro hk0 wq
          rcases hkm with ⟨_, _, hmf⟩ | ⟨h, _⟩
          · have := hmk wq
            rw [hmf] at this
            exact this
          · rw [h] at hk0; cases hk0
        have HMA := hide hmk2
        have hkm2 : ((k : Int) == 0) = true ∨ ((k : Int) == 0) = false := by
          rcases hkm with h | h
          · exact .inl h.1
          · exact .inr h.1
        clear hmk hmk2 hkm hm0
        generalize hrr : Q[k]?.getD false = rr at *
        clear hrr
        have hcases : (∃ hh : True, (¬ ((k : Int) < (y : Int))) ∧ rr = false) ∨ (((k : Int) < (y : Int)) ∧ ∃ g1 o1, a1 = some ⟨g1, o1, none⟩ ∧ ∀ Wq, Below w.heap.size w Wq → Wq.cell? ⟨g1, o1 + k, none⟩ = some (.bool rr)) := by
          rcases hr with ⟨hy, hf⟩ | ⟨b, hy, hb, hf⟩
          · left
            exact ⟨trivial, by omega, hf⟩
          · right
            obtain ⟨g1, o1, e1, hg1, hc1⟩ := unhide H1 (by omega)
            refine ⟨by omega, g1, o1, e1, fun Wq hq => ?_⟩
            have := hc1 k b hb
            rw [← hf] at this
            exact (hq.cell (p := ⟨g1, o1 + k, none⟩) hg1).trans this
        clear hr
        have hTi : (T.size : Int) ≤ 65536 := by omega
        have hPi : (P.size : Int) ≤ 140737488351232 := by omega
        have hkTi : (k : Int) ≤ 65536 := by omega
        have HkT := hide hkT
        have HTn := hide hT
        have HPn := hide hPs
        clear hT hPs hkT
        have hsz1 : (T ++ P).size = T.size + P.size := ByteArray.size_append
        have hadd1 : ∀ Wq : World, (Op.stringOp .add T P).run Tryd.prog Wq = .ok (.string (T ++ P)) Wq := fun Wq => run_string_add_sum _ T P (by omega)
        have hadd2 : ∀ Wq : World, (Op.stringOp .add (T ++ P) ⟨#[10]⟩).run Tryd.prog Wq = .ok (.string (T ++ P ++ ⟨#[10]⟩)) Wq := fun Wq => run_string_add_sum _ _ _ (by rw [hsz1]; have : (ByteArray.mk #[10]).size = 1 := rfl; omega)
        have hadd3 : ∀ Wq : World, (Op.stringOp .add (T ++ P) ⟨#[13]⟩).run Tryd.prog Wq = .ok (.string (T ++ P ++ ⟨#[13]⟩)) Wq := fun Wq => run_string_add_sum _ _ _ (by rw [hsz1]; have : (ByteArray.mk #[13]).size = 1 := rfl; omega)
        have hadd4 : ∀ Wq : World, (Op.stringOp .add (T ++ P ++ ⟨#[13]⟩) ⟨#[10]⟩).run Tryd.prog Wq = .ok (.string (T ++ P ++ ⟨#[13]⟩ ++ ⟨#[10]⟩)) Wq := fun Wq => run_string_add_sum _ _ _ (by rw [ByteArray.size_append, hsz1]; have : (ByteArray.mk #[13]).size = 1 := rfl; have : (ByteArray.mk #[10]).size = 1 := rfl; omega)
        have hS2 : (T ++ P ++ ⟨#[10]⟩).size = T.size + P.size + 1 := by
          rw [ByteArray.size_append, hsz1]
          rfl
        have hS4 : (T ++ P ++ ⟨#[13]⟩ ++ ⟨#[10]⟩).size = T.size + P.size + 2 := by
          rw [ByteArray.size_append, ByteArray.size_append, hsz1]
          rfl
        have hD2 : (T ++ P ++ ⟨#[10]⟩).data.toList = Pl.txt ((Pl.ents L Q).take k ++ [(pp, false)]) := by
          rw [Pl.txt_snoc, ← HT.out, ← unhide HPD]
          simp [Pl.row]
        have hD4 : (T ++ P ++ ⟨#[13]⟩ ++ ⟨#[10]⟩).data.toList = Pl.txt ((Pl.ents L Q).take k ++ [(pp, true)]) := by
          rw [Pl.txt_snoc, ← HT.out, ← unhide HPD]
          simp [Pl.row]
        have hi2 : (rr = false) → k + 1 ≤ (T ++ P ++ ⟨#[10]⟩).size := fun _ => by rw [hS2]; have := unhide HkT; omega
        have hi4 : (rr = true) → k + 1 ≤ (T ++ P ++ ⟨#[13]⟩ ++ ⟨#[10]⟩).size := fun _ => by rw [hS4]; have := unhide HkT; omega
        have HD2 := hide hD2
        have HD4 := hide hD4
        have HI2 := hide hi2
        have HI4 := hide hi4
        clear hsz1 hD2 hD4 hi2 hi4 hS2 hS4
        generalize T ++ P ++ ⟨#[13]⟩ ++ ⟨#[10]⟩ = T4 at *
        generalize T ++ P ++ ⟨#[13]⟩ = T3 at *
        generalize T ++ P ++ ⟨#[10]⟩ = T2 at *
        generalize T ++ P = T1 at *
        clear hTi hPi
        have hlong : (rr = false ∧ ((65536 : Int) < (T2.size : Int) ∨ ¬ (65536 : Int) < (T2.size : Int))) ∨ (rr = true ∧ ((65536 : Int) < (T4.size : Int) ∨ ¬ (65536 : Int) < (T4.size : Int))) := by
          cases rr
          · left; exact ⟨rfl, by omega⟩
          · right; exact ⟨rfl, by omega⟩
        rcases hcases with ⟨_, hny, hrf⟩ | ⟨hy, g1, o1, rfl, hcr⟩
        · subst hrf
          rcases hlong with ⟨_, hlg | hlg⟩ | ⟨h, _⟩
          · rcases hkm2 with hkb | hkb
            all_goals
              go_wp2_with (first | (go_at_call 18; refine (unhide HPL _).mono ?_; rintro e W1 ⟨rfl, hBp⟩; have hO2 := Same.owns_below hO hBp) | (go_at_call 19; refine (unhide HMA (by assumption) _).mono ?_; rintro e W2 ⟨rfl, hw⟩; obtain rfl := hw.symm) | (at_builtin; refine wpList_append_own _ rfl _ _ 38 rfl w1.heap.size 9 i9 (.string ByteArray.empty) 1 16 Tryd.underlying38 hi9 hz90 hz91 hz92 rfl (by decide) _ _ _ rfl (hO2.alloc _) ⟨W1.heap.size, 0, none⟩ 1 1 [.string P] rfl rfl (cell_one_new _ _ _) (fun x hx => by simp at hx; subst hx; rfl) (by unfold maxLen; omega) (by omega) (by have := hB.size; have := hBp.size; simp; omega) ?_; intro v' w3 hown' hgrow hnil; clear hnil; have hB3 := below_push hO2 (hB.trans (hBp.mono hB.size)) hgrow))
              go_ret
              exact ⟨rfl, hB1.trans (hB3.mono hB1.size)⟩
          · rcases hkm2 with hkb | hkb
            all_goals
              go_wp2_with (first | (go_at_call 18; refine (unhide HPL _).mono ?_; rintro e W1 ⟨rfl, hBp⟩; have hO2 := Same.owns_below hO hBp) | (go_at_call 19; refine (unhide HMA (by assumption) _).mono ?_; rintro e W2 ⟨rfl, hw⟩; obtain rfl := hw.symm) | (at_builtin; refine wpList_append_own _ rfl _ _ 38 rfl w1.heap.size 9 i9 (.string ByteArray.empty) 1 16 Tryd.underlying38 hi9 hz90 hz91 hz92 rfl (by decide) _ _ _ rfl (hO2.alloc _) ⟨W1.heap.size, 0, none⟩ 1 1 [.string P] rfl rfl (cell_one_new _ _ _) (fun x hx => by simp at hx; subst hx; rfl) (by unfold maxLen; omega) (by omega) (by have := hB.size; have := hBp.size; simp; omega) ?_; intro v' w3 hown' hgrow hnil; clear hnil; have hB3 := below_push hO2 (hB.trans (hBp.mono hB.size)) hgrow))
              have HO1 : Hid (w3.ownsRow w1.heap.size 9 1 v' (k + 1) (vals (((Pl.ents L Q).take (k + 1)).map fun x => x.1))) := by
                show w3.ownsRow w1.heap.size 9 1 v' (k + 1) (vals (((Pl.ents L Q).take (k + 1)).map fun x => x.1))
                rw [unhide HTK, List.map_append, List.map_cons, List.map_nil, vals_snoc, unhide HPS]
                exact hown'
              clear hown' hgrow
              go_roundw
              case rel => exact ⟨k + 1, T2, by omega, by go_num, rfl, ⟨by omega, unhide HI2 trivial⟩, by rw [unhide HTK]; exact unhide HD2, unhide HO1, hB3, HMN⟩
              case measure => simp [intOf]; omega
          · cases h
        · have HCR := hide hcr
          clear hcr
          rcases hlong with ⟨hrf, hlg | hlg⟩ | ⟨hrf, hlg | hlg⟩
          all_goals
            subst hrf
          · rcases hkm2 with hkb | hkb
            all_goals
              go_wp2_with (first | (go_at_call 18; refine (unhide HPL _).mono ?_; rintro e W1 ⟨rfl, hBp⟩; have hO2 := Same.owns_below hO hBp) | (go_at_call 19; refine (unhide HMA (by assumption) _).mono ?_; rintro e W2 ⟨rfl, hw⟩; obtain rfl := hw.symm) | (at_builtin; refine wpList_append_own _ rfl _ _ 38 rfl w1.heap.size 9 i9 (.string ByteArray.empty) 1 16 Tryd.underlying38 hi9 hz90 hz91 hz92 rfl (by decide) _ _ _ rfl (hO2.alloc _) ⟨W1.heap.size, 0, none⟩ 1 1 [.string P] rfl rfl (cell_one_new _ _ _) (fun x hx => by simp at hx; subst hx; rfl) (by unfold maxLen; omega) (by omega) (by have := hB.size; have := hBp.size; simp; omega) ?_; intro v' w3 hown' hgrow hnil; clear hnil; have hB3 := below_push hO2 (hB.trans (hBp.mono hB.size)) hgrow; have hcr := unhide HCR w3 (hB1.trans (hB3.mono hB1.size))))
              go_ret
              exact ⟨rfl, hB1.trans (hB3.mono hB1.size)⟩
          · rcases hkm2 with hkb | hkb
            all_goals
              go_wp2_with (first | (go_at_call 18; refine (unhide HPL _).mono ?_; rintro e W1 ⟨rfl, hBp⟩; have hO2 := Same.owns_below hO hBp) | (go_at_call 19; refine (unhide HMA (by assumption) _).mono ?_; rintro e W2 ⟨rfl, hw⟩; obtain rfl := hw.symm) | (at_builtin; refine wpList_append_own _ rfl _ _ 38 rfl w1.heap.size 9 i9 (.string ByteArray.empty) 1 16 Tryd.underlying38 hi9 hz90 hz91 hz92 rfl (by decide) _ _ _ rfl (hO2.alloc _) ⟨W1.heap.size, 0, none⟩ 1 1 [.string P] rfl rfl (cell_one_new _ _ _) (fun x hx => by simp at hx; subst hx; rfl) (by unfold maxLen; omega) (by omega) (by have := hB.size; have := hBp.size; simp; omega) ?_; intro v' w3 hown' hgrow hnil; clear hnil; have hB3 := below_push hO2 (hB.trans (hBp.mono hB.size)) hgrow; have hcr := unhide HCR w3 (hB1.trans (hB3.mono hB1.size))))
              have HO1 : Hid (w3.ownsRow w1.heap.size 9 1 v' (k + 1) (vals (((Pl.ents L Q).take (k + 1)).map fun x => x.1))) := by
                show w3.ownsRow w1.heap.size 9 1 v' (k + 1) (vals (((Pl.ents L Q).take (k + 1)).map fun x => x.1))
                rw [unhide HTK, List.map_append, List.map_cons, List.map_nil, vals_snoc, unhide HPS]
                exact hown'
              clear hown' hgrow
              go_roundw
              case rel => exact ⟨k + 1, T2, by omega, by go_num, rfl, ⟨by omega, unhide HI2 trivial⟩, by rw [unhide HTK]; exact unhide HD2, unhide HO1, hB3, HMN⟩
              case measure => simp [intOf]; omega
          · rcases hkm2 with hkb | hkb
            all_goals
              go_wp2_with (first | (go_at_call 18; refine (unhide HPL _).mono ?_; rintro e W1 ⟨rfl, hBp⟩; have hO2 := Same.owns_below hO hBp) | (go_at_call 19; refine (unhide HMA (by assumption) _).mono ?_; rintro e W2 ⟨rfl, hw⟩; obtain rfl := hw.symm) | (at_builtin; refine wpList_append_own _ rfl _ _ 38 rfl w1.heap.size 9 i9 (.string ByteArray.empty) 1 16 Tryd.underlying38 hi9 hz90 hz91 hz92 rfl (by decide) _ _ _ rfl (hO2.alloc _) ⟨W1.heap.size, 0, none⟩ 1 1 [.string P] rfl rfl (cell_one_new _ _ _) (fun x hx => by simp at hx; subst hx; rfl) (by unfold maxLen; omega) (by omega) (by have := hB.size; have := hBp.size; simp; omega) ?_; intro v' w3 hown' hgrow hnil; clear hnil; have hB3 := below_push hO2 (hB.trans (hBp.mono hB.size)) hgrow; have hcr := unhide HCR w3 (hB1.trans (hB3.mono hB1.size))))
              go_ret
              exact ⟨rfl, hB1.trans (hB3.mono hB1.size)⟩
          · rcases hkm2 with hkb | hkb
            all_goals
              go_wp2_with (first | (go_at_call 18; refine (unhide HPL _).mono ?_; rintro e W1 ⟨rfl, hBp⟩; have hO2 := Same.owns_below hO hBp) | (go_at_call 19; refine (unhide HMA (by assumption) _).mono ?_; rintro e W2 ⟨rfl, hw⟩; obtain rfl := hw.symm) | (at_builtin; refine wpList_append_own _ rfl _ _ 38 rfl w1.heap.size 9 i9 (.string ByteArray.empty) 1 16 Tryd.underlying38 hi9 hz90 hz91 hz92 rfl (by decide) _ _ _ rfl (hO2.alloc _) ⟨W1.heap.size, 0, none⟩ 1 1 [.string P] rfl rfl (cell_one_new _ _ _) (fun x hx => by simp at hx; subst hx; rfl) (by unfold maxLen; omega) (by omega) (by have := hB.size; have := hBp.size; simp; omega) ?_; intro v' w3 hown' hgrow hnil; clear hnil; have hB3 := below_push hO2 (hB.trans (hBp.mono hB.size)) hgrow; have hcr := unhide HCR w3 (hB1.trans (hB3.mono hB1.size))))
              have HO1 : Hid (w3.ownsRow w1.heap.size 9 1 v' (k + 1) (vals (((Pl.ents L Q).take (k + 1)).map fun x => x.1))) := by
                show w3.ownsRow w1.heap.size 9 1 v' (k + 1) (vals (((Pl.ents L Q).take (k + 1)).map fun x => x.1))
                rw [unhide HTK, List.map_append, List.map_cons, List.map_nil, vals_snoc, unhide HPS]
                exact hown'
              clear hown' hgrow
              go_roundw
              case rel => exact ⟨k + 1, T4, by omega, by go_num, rfl, ⟨by omega, unhide HI4 trivial⟩, by rw [unhide HTK]; exact unhide HD4, unhide HO1, hB3, HMN⟩
              case measure => simp [intOf]; omega
    · have hnl : ¬ ((k : Int) < (z : Int)) := by omega
      have hBw : Below w.heap.size w wr := hB1.trans (hB.mono hB1.size)
      have hMr : EachW.MaxIs wr := (unhide HM).below hg0 hBw
      have HLN : Hid (Ln.linesOf T.data.toList = ((Pl.ents L Q).take k).map fun x => x.1) := by
        show Ln.linesOf T.data.toList = ((Pl.ents L Q).take k).map fun x => x.1
        rw [HT.out]
        exact Pl.lines_txt _ (unhide HOK k) HMK.out
      have HLM : Hid (Ln.linesOf ((⟨#[239, 187, 191]⟩ : ByteArray) ++ T).data.toList = ((Pl.ents L Q).take k).map fun x => x.1) := by
        show Ln.linesOf ((⟨#[239, 187, 191]⟩ : ByteArray) ++ T).data.toList = ((Pl.ents L Q).take k).map fun x => x.1
        have e : ((⟨#[239, 187, 191]⟩ : ByteArray) ++ T).data.toList = Ln.mark ++ Pl.txt ((Pl.ents L Q).take k) := by
          rw [← HT.out]
          simp [Ln.mark]
        rw [e]
        exact Pl.lines_marked _ (unhide HOK k)
      have hAl : (((Pl.ents L Q).take k).map fun x => x.1).length = k := by
        rw [List.length_map, List.length_take, Pl.ents_length, unhide HZ]
        omega
      have hOw : wr.ownsRow w1.heap.size 9 1 u6 (((Pl.ents L Q).take k).map fun x => x.1).length (vals (((Pl.ents L Q).take k).map fun x => x.1)) := by rw [hAl]; exact hO
      have hadd : ∀ Wq : World, (Op.stringOp .add ⟨#[239, 187, 191]⟩ T).run Tryd.prog Wq = .ok (.string (⟨#[239, 187, 191]⟩ ++ T)) Wq := fun Wq => run_string_add_sum _ _ _ (by have : (ByteArray.mk #[239, 187, 191]).size = 3 := rfl; omega)
      have hSM : ((⟨#[239, 187, 191]⟩ : ByteArray) ++ T).size = 3 + T.size := by rw [ByteArray.size_append]; rfl
      generalize ((Pl.ents L Q).take k).map (fun x => x.1) = X at *
      have HSP := hide (fun wq hM => SplW.split_short T wq hT hM)
      have HSM := hide hSM
      generalize (⟨#[239, 187, 191]⟩ : ByteArray) ++ T = TM at *
      clear HT HMK hAl hO hSM
      go_wp2_with fail
      refine (unhide HSP _ hMr).mono ?_
      rintro e W4 ⟨v4, rfl, hO4, hB4⟩
      rw [unhide HLN] at hO4
      have hO5 := Same.owns_below hOw hB4
      go_wp2_with fail
      refine (Same.same_true _ _ _ _ (Same.isStrs_of_owns hO4) (Same.isStrs_of_owns hO5)).mono ?_
      rintro e W5 ⟨rfl, nq, rfl⟩
      have hB5 : Below w.heap.size w (W4.drewN nq) := below_drewN (hBw.trans (hB4.mono (Nat.le_trans hB1.size hB.size))) nq
      have hM5 : EachW.MaxIs (W4.drewN nq) := (unhide HM).below hg0 hB5
      have hO6 : (W4.drewN nq).ownsRow w1.heap.size 9 1 u6 X.length (vals X) := hO5
      generalize W4.drewN nq = W5 at *
      clear hO4 hO5 hB4 hOw
      by_cases hl3 : (65533 : Int) < (T.size : Int)
      · go_wp2
        go_ret
        exact ⟨rfl, hB5⟩
      · have hTM : TM.size ≤ 65536 := by rw [unhide HSM]; omega
        have HSQ := hide (SplW.split_short TM W5 hTM hM5)
        clear hTM
        go_wp2_with fail
        refine (unhide HSQ).mono ?_
        rintro e W7 ⟨v7, rfl, hO7, hB7⟩
        rw [unhide HLM] at hO7
        go_wp2_with fail
        refine (Same.same_true _ _ _ _ (Same.isStrs_of_owns hO7) (Same.isStrs_of_owns (Same.owns_below hO6 hB7))).mono ?_
        rintro e W8 ⟨rfl, nq2, rfl⟩
        go_wp2
        go_ret
        exact ⟨rfl, below_drewN (hB5.trans (hB7.mono hB5.size)) nq2⟩
end EndsW
end Go.Proofs.YtgmakjpicdgmgabDoor
