/- Layer 6: Frame, the document's. -/
import Derived.Test.YtbapnoafjcipjaaGreatDoorUt
import Derived.Test.YtbapnoafjcipjaaGreatDoorUq
namespace Go.Proofs.YtbapnoafjcipjaaGreatDoor
open Go.RowKit
namespace Um

theorem own_made (w : World) : Own w.heap.size (w.alloc (.cells #[] 5)) (.slice (some ⟨w.heap.size, 0, none⟩) 0 0) [] := World.ownsRow_made w #[] 0 (Nat.le_refl _) (by simp) rfl
theorem take_get {t : ByteArray} {i : Nat} (h : i < t.size) : (lst t).take (i + 1) = (lst t).take i ++ [t[i]] := take_snoc (lst_get h)
set_option maxRecDepth 100000 in
set_option maxHeartbeats 2000000 in
theorem ref_frame (v0 : Value) (L : List ByteArray) (w : World) (hT : Txs w v0 L) (hN : L.length ≤ 1073741824) (A : ByteArray) (Ev : Int) (HA : Hid (frA L = A)) (HE : Hid (frE L = Ev)) :
    Calls Tryz.prog 97 #[v0] w fun e w' => e = .returned (.tuple #[.string A, .int .i64 Ev]) ∧ Below w.heap.size w w' := by
  obtain ⟨i0, hi0, hz0, hz1, hz2⟩ := info_parts infoB
  obtain ⟨a0, c0, rfl, hc0, -, H0⟩ := hT
  have HC := hide H0
  clear H0
  obtain ⟨n, hn⟩ : ∃ n, L.length = n := ⟨_, rfl⟩
  rw [hn] at hN hc0 HC ⊢
  have HN := hide hn
  clear hn
  have HOM := hide (own_made w)
  have HB0 : Hid (Below w.heap.size w (w.alloc (.cells #[] 5))) := (Below.refl _ w).alloc (Nat.le_refl _) _
  go_enter Tryz.func97, Tryz.ntmps97
  go_wp2
  generalize w.alloc (.cells #[] 5) = w0 at *
  go_loopw [5] (fun s5 wr => ∃ k : Nat, s5 = .int .i64 (k : Int) ∧ k ≤ n ∧ Hid (∀ (j : Nat) x, j < k → L[j]? = some x → x.size ≤ 255) ∧ wr = w0) (fun k _ => n - (intOf k).toNat)
  case atStart => exact ⟨0, rfl, by omega, fun _ _ h => by omega, rfl⟩
  case round =>
    obtain ⟨k, rfl, hk, HF, hwr⟩ := hrel
    subst hwr
    by_cases hlt : k < n
    · have hltz : (k : Int) < (n : Int) := by omega
      have hltN : k < L.length := by rw [unhide HN]; exact hlt
      obtain ⟨x, hx⟩ : ∃ x, L[k]? = some x := ⟨_, List.getElem?_eq_getElem hltN⟩
      obtain ⟨g, off, ea, hg, hc⟩ := unhide HC (by omega)
      subst ea
      have hcx : wr.cell? ⟨g, off + k, none⟩ = some (.string x) := ((unhide HB0).cell (p := ⟨g, off + k, none⟩) hg).trans (hc k x hx)
      have HX := hide hx
      clear hc hx hltN
      by_cases h255 : x.size ≤ 255
      · have hxz : ¬ 255 < (x.size : Int) := by omega
        go_wp2
        go_roundw
        case rel =>
          refine ⟨k + 1, by go_num, by omega, ?_, (by first | rfl | trivial)⟩
          intro j z hj hz
          by_cases hjk : j < k
          · exact unhide HF j z hjk hz
          · have : j = k := by omega
            subst this
            have := (unhide HX).symm.trans hz
            injection this with this
            rw [← this]
            exact h255
        case measure => simp [intOf]; omega
      · have hxz : 255 < (x.size : Int) := by omega
        go_wp2
        go_ret2
        have hf := fit_no (unhide HX) h255
        have e1 := unhide HA
        have e2 := unhide HE
        unfold frA at e1
        unfold frE at e2
        rw [hf] at e1 e2
        simp at e1 e2
        subst e1 e2
        exact ⟨rfl, unhide HB0⟩
    · have hltz : ¬ (k : Int) < (n : Int) := by omega
      have hkn : k = n := by omega
      subst hkn
      have HFI : Hid (fit (rl L) = true) := fit_yes fun j x hx => unhide HF j x (by rw [← unhide HN]; exact (List.getElem?_eq_some_iff.1 hx).1) hx
      obtain ⟨wo, rfl⟩ : ∃ x : World, x = wr := ⟨_, rfl⟩
      go_wp2
      go_loopw [4, 6] (fun s4 s6 wr => ∃ (j : Nat) (u : Value), u = s4 ∧ s6 = .int .i64 (j : Int) ∧ j ≤ k ∧ Hid (Own w.heap.size wr u (fk L j)) ∧ Hid (Below w.heap.size w wr)) (fun _ j _ => k - (intOf j).toNat)
      case atStart => exact ⟨0, _, rfl, rfl, by omega, unhide HOM, unhide HB0⟩
      case round =>
        obtain ⟨j, u, rfl, rfl, hj, HO, HBr⟩ := hrel
        by_cases hjk : j < k
        · have hjz : (j : Int) < (k : Int) := by omega
          have hltN : j < L.length := by rw [unhide HN]; exact hjk
          obtain ⟨x, hx⟩ : ∃ x, L[j]? = some x := ⟨_, List.getElem?_eq_getElem hltN⟩
          obtain ⟨g, off, ea, hg, hc⟩ := unhide HC (by omega)
          subst ea
          have HCX : Hid (∀ W, Below w.heap.size w W → W.cell? ⟨g, off + j, none⟩ = some (.string x)) := fun W hW => (hW.cell (p := ⟨g, off + j, none⟩) hg).trans (hc j x hx)
          have hcx := unhide HCX wr (unhide HBr)
          have h255 : x.size ≤ 255 := unhide HF j x hjk hx
          have HLE := hide (fk_len (L := L) j (by omega) (fun i y hi hy => unhide HF i y (by omega) hy))
          have HX := hide hx
          clear hc hx hltN
          have HU := hide (ref_uint x.size (u64_size h255) wr)
          have HUL := hide (uL_len 1 x.size (by omega))
          obtain ⟨U, hU⟩ : ∃ U, U = str (uL x.size) := ⟨_, rfl⟩
          have hUs : U.size ≤ 2 := by rw [hU, str_size]; exact unhide HUL
          have HUE : Hid (lst U = uL x.size) := by show _ = _; rw [hU]; exact str_list _
          rw [← hU] at HU
          clear hU HUL
          have hfl : (fk L j).length ≤ 257 * j := unhide HLE
          go_wp2_with (go_at_call 111; refine (unhide HU).mono ?_; rintro e w1 ⟨rfl, hB1⟩; have HO1 := hide ((unhide HO).below hB1); have HB1 := hide ((unhide HBr).trans (hB1.mono (unhide HBr).size)); clear hB1)
          clear hcx
          obtain ⟨wq, rfl⟩ : ∃ x : World, x = wr := ⟨_, rfl⟩
          go_loopw [4, 8] (fun s4 s8 wr => ∃ (i : Nat) (u : Value), u = s4 ∧ s8 = .int .i64 (i : Int) ∧ i ≤ U.size ∧ Hid (Own w.heap.size wr u (fk L j ++ (lst U).take i)) ∧ Hid (Below w.heap.size w wr)) (fun _ i _ => U.size - (intOf i).toNat)
          case atStart => exact ⟨0, _, rfl, rfl, by omega, by rw [List.take_zero, List.append_nil]; exact unhide HO1, unhide HB1⟩
          case round =>
            obtain ⟨i, u1, rfl, rfl, hi, HOi, HBi⟩ := hrel
            by_cases hiU : i < U.size
            · have hiz : (i : Int) < (U.size : Int) := by omega
              have HTK := hide (take_get hiU)
              obtain ⟨b, hb⟩ : ∃ b, U[i] = b := ⟨_, rfl⟩
              rw [hb] at HTK
              have hlen : (fk L j ++ (lst U).take i).length = (fk L j).length + i := by rw [List.length_append, List.length_take, lst_len]; omega
              go_wp2_with (at_builtin; refine wpList_append_own _ rfl _ _ 76 rfl w.heap.size 5 i0 (.int .u8 0) 1 1 Tryz.underlying76 hi0 hz0 hz1 hz2 rfl (by decide) _ _ _ rfl ((unhide HOi).below ((Below.refl _ _).alloc (Nat.le_refl _) _)) ⟨wr.heap.size, 0, none⟩ 1 1 [.int .u8 (b.toNat : Int)] rfl rfl (new_cells _ #[.int .u8 (b.toNat : Int)] _) (by simp [Value.oneCell']) (by unfold maxLen; rw [hlen]; omega) (by rw [hlen]; omega) (by have := (unhide HBi).size; simp; omega) ?_; intro v' w2 hown' hgrow hnil; clear hnil; have HO2 := hide (own_push rfl hown'); have HB2 := hide (push1 (unhide HOi) (unhide HBi) (Nat.le_refl _) hgrow); clear hown' hgrow)
              go_roundw
              case rel => exact ⟨i + 1, v', rfl, by go_num, by omega, (by rw [unhide HTK, ← List.append_assoc]; exact unhide HO2), HB2⟩
              case measure => simp [intOf]; omega
            · have hiz : ¬ (i : Int) < (U.size : Int) := by omega
              have HOU : Hid (Own w.heap.size wr u1 (fk L j ++ lst U)) := by
                have := unhide HOi
                rw [List.take_of_length_le (by rw [lst_len]; omega)] at this
                exact this
              have hcx := unhide HCX wr (unhide HBi)
              go_wp2
              clear hcx
              obtain ⟨wp, rfl⟩ : ∃ x : World, x = wr := ⟨_, rfl⟩
              go_loopw [4, 9] (fun s4 s9 wr => ∃ (i : Nat) (u : Value), u = s4 ∧ s9 = .int .i64 (i : Int) ∧ i ≤ x.size ∧ Hid (Own w.heap.size wr u ((fk L j ++ lst U) ++ (lst x).take i)) ∧ Hid (Below w.heap.size w wr)) (fun _ i _ => x.size - (intOf i).toNat)
              case atStart => exact ⟨0, _, rfl, rfl, by omega, by rw [List.take_zero, List.append_nil]; exact unhide HOU, unhide HBi⟩
              case round =>
                obtain ⟨y, u2, rfl, rfl, hy, HOy, HBy⟩ := hrel
                have hcx := unhide HCX wr (unhide HBy)
                by_cases hyx : y < x.size
                · have hyz : (y : Int) < (x.size : Int) := by omega
                  have HTK := hide (take_get hyx)
                  obtain ⟨b, hb⟩ : ∃ b, x[y] = b := ⟨_, rfl⟩
                  rw [hb] at HTK
                  have hlen : ((fk L j ++ lst U) ++ (lst x).take y).length = (fk L j).length + U.size + y := by rw [List.length_append, List.length_append, List.length_take, lst_len, lst_len]; omega
                  go_wp2_with (at_builtin; refine wpList_append_own _ rfl _ _ 76 rfl w.heap.size 5 i0 (.int .u8 0) 1 1 Tryz.underlying76 hi0 hz0 hz1 hz2 rfl (by decide) _ _ _ rfl ((unhide HOy).below ((Below.refl _ _).alloc (Nat.le_refl _) _)) ⟨wr.heap.size, 0, none⟩ 1 1 [.int .u8 (b.toNat : Int)] rfl rfl (new_cells _ #[.int .u8 (b.toNat : Int)] _) (by simp [Value.oneCell']) (by unfold maxLen; rw [hlen]; omega) (by rw [hlen]; omega) (by have := (unhide HBy).size; simp; omega) ?_; intro v' w2 hown' hgrow hnil; clear hnil; have HO2 := hide (own_push rfl hown'); have HB2 := hide (push1 (unhide HOy) (unhide HBy) (Nat.le_refl _) hgrow); clear hown' hgrow)
                  go_roundw
                  case rel => exact ⟨y + 1, v', rfl, by go_num, by omega, (by rw [unhide HTK, ← List.append_assoc]; exact unhide HO2), HB2⟩
                  case measure => simp [intOf]; omega
                · have hyz : ¬ (y : Int) < (x.size : Int) := by omega
                  have HOX : Hid (Own w.heap.size wr u2 (fk L (j + 1))) := by
                    have := unhide HOy
                    rw [List.take_of_length_le (by rw [lst_len]; omega), List.append_assoc, unhide HUE, ← fk_succ (unhide HX)] at this
                    exact this
                  go_wp2
                  go_roundw
                  case rel => exact ⟨j + 1, u2, rfl, by go_num, by omega, HOX, HBy⟩
                  case measure => simp [intOf]; omega
        · have hjz : ¬ (j : Int) < (k : Int) := by omega
          have hjk2 : j = k := by omega
          subst hjk2
          have eA := fk_all (L := L) (k := j) (by rw [unhide HN]; exact Nat.le_refl _)
          rw [eA] at HO
          have hcv := conv_own (unhide HO)
          obtain ⟨a2, c2, rfl⟩ := own_slice (unhide HO)
          have e1 := unhide HA
          have e2 := unhide HE
          unfold frA at e1
          unfold frE at e2
          rw [unhide HFI] at e1 e2
          simp at e1 e2
          subst e1 e2
          go_wp2
          go_ret2
          exact ⟨rfl, unhide HBr⟩
end Um
end Go.Proofs.YtbapnoafjcipjaaGreatDoor
