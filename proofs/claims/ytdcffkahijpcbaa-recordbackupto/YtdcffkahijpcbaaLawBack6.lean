/- RecordBack of layer 6 returns true for every list of texts and every text of a bulk of at most 1,048,576 together: records that are framed are unframed as themselves, and a text that is unframed is the frames of its records. -/
import Derived.Test.YtdcffkahijpcbaaUv
import Derived.Test.YtdcffkahijpcbaaArgT
import Derived.Test.YtdcffkahijpcbaaRows
import Derived.WalkKit
import Derived.ProofKit
import Derived.OpenShut
import Derived.Deep.DeepHandedRow
import Derived.Lib.LaidTab
namespace Go.Proofs.Ytdcffkahijpcbaa.recordBack
open Go.ChangeShapes Go.WideShapes Go.ChangeAt Go.RowKit
open Go.ChangeMaps (open_string shut_string)

theorem own : ownKnob Try.prog.godebug = none := by kernel_rfl

open Um
theorem rl_inj {a b : List ByteArray} (h : rl a = rl b) : a = b := by
  have : (rl a).map str = (rl b).map str := by rw [h]
  simpa [rl, str_lst, Function.comp_def] using this
theorem fit_snoc {L : List ByteArray} {k : Nat} {x : ByteArray} (hx : L[k]? = some x) : fit (rl (L.take (k + 1))) = (fit (rl (L.take k)) && decide (x.size ≤ 255)) := by
  rw [take_snoc hx]
  simp [rl, fit, lst]
theorem frs_bound {L : List ByteArray} (h : fit (rl L) = true) : (frs (rl L)).length ≤ 257 * L.length := by
  have := fk_len (L := L) L.length (Nat.le_refl _) (fun j x _ hx => fit_of h hx)
  rw [fk_all (Nat.le_refl _)] at this
  exact this
set_option maxHeartbeats 2000000 in
set_option maxRecDepth 100000 in
theorem walk (v : Value) (L : List ByteArray) (s : ByteArray) (w : World) (hT : Txs w v L) (hn : L.length ≤ 1048576) (hs : s.size ≤ 1048576) :
    Calls Try.prog 8 #[v, .string s] w fun e w' => e = .returned (.bool true) ∧ Below w.heap.size w w' := by
  have HV := hide hT
  obtain ⟨a0, c0, rfl, hc0, -, H0⟩ := hT
  have HC := hide H0
  clear H0
  have HT := hide (fun W h => twin_any (.slice a0 L.length c0) L W h (by omega))
  have HF := hide (fun u W h => frame_any u L W h (by omega) _ _ rfl rfl)
  obtain ⟨n, hnn⟩ : ∃ n, L.length = n := ⟨_, rfl⟩
  have HN := hide hnn
  rw [hnn] at hn hc0 HC HV HT ⊢
  clear hnn
  go_enter Try.func8, Try.ntmps8
  go_wp2_with (go_at_call 9; refine (wakes_any _).mono ?_; rintro e w1 ⟨rfl, hB1⟩; have HB1 := hide hB1; clear hB1)
  go_loopw [5, 18] (fun s5 s18 wr => ∃ (k : Nat) (b : Bool), s18 = .int .i64 (k : Int) ∧ k ≤ n ∧ s5 = .bool b ∧ Um.Hid (b = fit (rl (L.take k))) ∧ wr = w1) (fun _ k _ => n - (intOf k).toNat)
  case atStart => exact ⟨0, true, rfl, by omega, rfl, rfl, rfl⟩
  case round =>
    obtain ⟨k, b, rfl, hk, rfl, HBb, hwr⟩ := hrel
    subst hwr
    by_cases hlt : k < n
    · have hltz : (k : Int) < (n : Int) := by omega
      have hltN : k < L.length := by rw [unhide HN]; exact hlt
      obtain ⟨x, hx⟩ : ∃ x, L[k]? = some x := ⟨_, List.getElem?_eq_getElem hltN⟩
      obtain ⟨g, off, ea, hg, hc⟩ := unhide HC (by omega)
      subst ea
      have hcx : wr.cell? ⟨g, off + k, none⟩ = some (.string x) := ((unhide HB1).cell (p := ⟨g, off + k, none⟩) hg).trans (hc k x hx)
      have HX := hide (fit_snoc hx)
      clear hc hx hltN
      by_cases h255 : x.size ≤ 255
      · have hxz : (x.size : Int) ≤ 255 := by omega
        cases b
        · go_wp2
          go_roundw
          case rel => exact ⟨k + 1, false, by go_num, by omega, rfl, (by show _ = _; rw [unhide HX, ← unhide HBb]; rfl), (by first | rfl | trivial)⟩
          case measure => simp [intOf]; omega
        · go_wp2
          go_roundw
          case rel => exact ⟨k + 1, true, by go_num, by omega, rfl, (by show _ = _; rw [unhide HX, ← unhide HBb]; simp [h255]), (by first | rfl | trivial)⟩
          case measure => simp [intOf]; omega
      · have hxz : ¬ (x.size : Int) ≤ 255 := by omega
        cases b
        · go_wp2
          go_roundw
          case rel => exact ⟨k + 1, false, by go_num, by omega, rfl, (by show _ = _; rw [unhide HX, ← unhide HBb]; rfl), (by first | rfl | trivial)⟩
          case measure => simp [intOf]; omega
        · go_wp2
          go_roundw
          case rel => exact ⟨k + 1, false, by go_num, by omega, (by first | rfl | (simp; omega)), (by show _ = _; rw [unhide HX, ← unhide HBb]; simp; omega), (by first | rfl | trivial)⟩
          case measure => simp [intOf]; omega
    · have hltz : ¬ (k : Int) < (n : Int) := by omega
      have HFT : Um.Hid (b = fit (rl L)) := by
        show _ = _
        rw [unhide HBb, List.take_of_length_le (by rw [unhide HN]; omega)]
      have HBr := HB1
      cases b
      · have HFA : Um.Hid (frE L = 62) := by show _ = _; unfold frE; rw [← unhide HFT]; rfl
        rw [unhide HFA] at HF
        generalize frA L = A at *
        go_wp2_with (first
    | (go_at_call 15; refine (unhide HT _ ((unhide HV).below (unhide HBr))).mono ?_; rintro e w2 ⟨u, rfl, h1, h3⟩; have H1 := hide h1; have HB2 := hide ((unhide HBr).trans (h3.mono (unhide HBr).size)); clear h1 h3)
    | (go_at_call 14; refine (unhide HF _ _ (unhide H1)).mono ?_; rintro e w3 ⟨rfl, h3⟩; have HB3 := hide ((unhide HB2).trans (h3.mono (unhide HB2).size)); clear h3 HF))
        have HU2 := hide (unframe_any s w3 (by omega) _ _ rfl rfl)
        by_cases hE2 : (heads (lst s)).2 = 0
        · rw [if_pos hE2, hE2] at HU2
          have HX := hide (heads_back _ (lst s) (Nat.le_refl _) hE2)
          have HXL := hide (heads_len _ (lst s) (Nat.le_refl _))
          generalize (heads (lst s)).1 = XX at *
          clear hE2
          go_wp2_with (first
            | (go_at_call 17; refine (unhide HU2).mono ?_; rintro e w7 ⟨v2, D, rfl, h1, h2, h3⟩; have H7 := hide h1; have H8 := hide h2; have HB7 := hide ((unhide HB3).trans (h3.mono (unhide HB3).size)); clear h1 h2 h3)
            | (go_at_call 14; refine (frame_any v2 D _ (unhide H7) (by have h5 := unhide HXL; rw [← unhide H8, rl_len, lst_len] at h5; omega) s 0 (by have h5 := unhide HX; rw [← unhide H8] at h5; unfold frA; rw [if_pos h5.2, h5.1]; rfl) (by have h5 := unhide HX; rw [← unhide H8] at h5; unfold frE; rw [if_pos h5.2]; rfl)).mono ?_; rintro e w8 ⟨rfl, h3⟩; have HB8 := hide ((unhide HB7).trans (h3.mono (unhide HB7).size)); clear h3))
          go_ret
          exact ⟨by simp, unhide HB8⟩
        · rw [if_neg hE2] at HU2
          obtain ⟨E, hE⟩ : ∃ E, (heads (lst s)).2 = E := ⟨_, rfl⟩
          rw [hE] at hE2 HU2
          have hEb : ((E : Int) == 0) = false := by simp; omega
          clear hE
          go_wp2_with (go_at_call 17; refine (unhide HU2).mono ?_; rintro e w7 ⟨v2, D, rfl, h1, h2, h3⟩; have h4 : D = [] := (by cases D with | nil => rfl | cons x y => simp [rl] at h2); subst h4; obtain ⟨ao2, cap2, rfl, -⟩ := h1; have HB7 := hide ((unhide HB3).trans (h3.mono (unhide HB3).size)); clear h2 h3)
          go_ret
          exact ⟨by simp, unhide HB7⟩
      · have HFA : Um.Hid (frE L = 0) := by show _ = _; unfold frE; rw [← unhide HFT]; rfl
        rw [unhide HFA] at HF
        have HFB : Um.Hid (frA L = str (frs (rl L))) := by show _ = _; unfold frA; rw [← unhide HFT]; rfl
        rw [unhide HFB] at HF
        have HSZ := hide (frs_bound (unhide HFT).symm)
        have HUN : Um.Hid (∀ W, Calls Try.prog 17 #[.string (str (frs (rl L)))] W (UnA W 0 (rl L))) := fun W => by
          have hh := heads_frs (unhide HFT).symm
          refine unframe_any (str (frs (rl L))) W (by have := unhide HSZ; have := unhide HN; rw [str_size]; omega) 0 (rl L) ?_ ?_
          · show _ = _
            unfold lst
            rw [str_list, hh]
            rfl
          · show _ = _
            unfold lst
            rw [str_list, hh]
            simp
        generalize str (frs (rl L)) = A at *
        go_wp2_with (first
          | (go_at_call 15; refine (unhide HT _ ((unhide HV).below (unhide HBr))).mono ?_; rintro e w2 ⟨u, rfl, h1, h3⟩; have H1 := hide h1; have HB2 := hide ((unhide HBr).trans (h3.mono (unhide HBr).size)); clear h1 h3)
          | (go_at_call 14; refine (unhide HF _ _ (unhide H1)).mono ?_; rintro e w3 ⟨rfl, h3⟩; have HB3 := hide ((unhide HB2).trans (h3.mono (unhide HB2).size)); clear h3 HF)
          | (go_at_call 17; refine (unhide HUN _).mono ?_; rintro e w4 ⟨v1, D1, rfl, h1, h2, h3⟩; obtain rfl : D1 = L := rl_inj h2; have H4 := hide h1; have HB4 := hide ((unhide HB3).trans (h3.mono (unhide HB3).size)); clear h1 h2 h3 HUN)
          | (go_at_call 19; refine (list_same _ _ D1 _ (unhide H4) ((unhide HV).below (unhide HB4)) (by have := unhide HN; omega)).mono ?_; rintro e w5 ⟨rfl, hB5⟩; have HB5 := hide ((unhide HB4).trans (hB5.mono (unhide HB4).size)); clear hB5))
        have HU2 := hide (unframe_any s w5 (by omega) _ _ rfl rfl)
        by_cases hE2 : (heads (lst s)).2 = 0
        · rw [if_pos hE2, hE2] at HU2
          have HX := hide (heads_back _ (lst s) (Nat.le_refl _) hE2)
          have HXL := hide (heads_len _ (lst s) (Nat.le_refl _))
          generalize (heads (lst s)).1 = XX at *
          clear hE2
          go_wp2_with (first
            | (go_at_call 17; refine (unhide HU2).mono ?_; rintro e w7 ⟨v2, D, rfl, h1, h2, h3⟩; have H7 := hide h1; have H8 := hide h2; have HB7 := hide ((unhide HB5).trans (h3.mono (unhide HB5).size)); clear h1 h2 h3)
            | (go_at_call 14; refine (frame_any v2 D _ (unhide H7) (by have h5 := unhide HXL; rw [← unhide H8, rl_len, lst_len] at h5; omega) s 0 (by have h5 := unhide HX; rw [← unhide H8] at h5; unfold frA; rw [if_pos h5.2, h5.1]; rfl) (by have h5 := unhide HX; rw [← unhide H8] at h5; unfold frE; rw [if_pos h5.2]; rfl)).mono ?_; rintro e w8 ⟨rfl, h3⟩; have HB8 := hide ((unhide HB7).trans (h3.mono (unhide HB7).size)); clear h3))
          go_ret
          exact ⟨by simp, unhide HB8⟩
        · rw [if_neg hE2] at HU2
          obtain ⟨E, hE⟩ : ∃ E, (heads (lst s)).2 = E := ⟨_, rfl⟩
          rw [hE] at hE2 HU2
          have hEb : ((E : Int) == 0) = false := by simp; omega
          clear hE
          go_wp2_with (go_at_call 17; refine (unhide HU2).mono ?_; rintro e w7 ⟨v2, D, rfl, h1, h2, h3⟩; have h4 : D = [] := (by cases D with | nil => rfl | cons x y => simp [rl] at h2); subst h4; obtain ⟨ao2, cap2, rfl, -⟩ := h1; have HB7 := hide ((unhide HB5).trans (h3.mono (unhide HB5).size)); clear h2 h3)
          go_ret
          exact ⟨by simp, unhide HB7⟩

set_option maxRecDepth 100000 in
theorem contract (H : Type) (enc : TypeId × Value → H) (W : World) (base : Nat) (args : Array Value) (ds gs : List (DataW H)) (before : List MemPlace)
    (hval : ∀ (j : Nat) t v, Try.f8.params[j]? = some t → args[j]? = some v → Value.okWide Try.prog W .any base t v)
    (hW : DataW.Whole enc Try.prog Try.f8.params.toList Rows.recordBackSpec.vars false W args.toList ds gs before)
    (hcond : Rows.uptoSmall H (ds ++ gs) = true) :
    Calls Try.prog 8 args W fun e W' => ∃ v, e = .returned v ∧ Rows.recordBackSpec.post enc Try.prog Try.f8 false true false false W args v W' := by
  have hW' := hW
  obtain ⟨p, q, hA0, hV, rfl, hfz, hnd⟩ := hW
  have hA : DataW.TrodAll enc Try.prog W 0 (fun _ => true) true Try.f8.params.toList args.toList ds p := hA0
  rw [Try.params8] at hA hval
  obtain ⟨v0, vs0, d0, ds0, p0, q0, hargs, rfl, rfl, h0, r0⟩ := trodAll_cons hA
  obtain ⟨v1, vs1, d1, ds1, p1, q1, rfl, rfl, rfl, h1, r1⟩ := trodAll_cons r0
  obtain ⟨rfl, rfl, rfl⟩ := trodAll_nil r1
  obtain rfl : args = #[v0, v1] := by cases args; simp_all
  obtain ⟨rfl, rfl⟩ := trodVars_none hV
  obtain ⟨a_v, len_v, cap_v, rfl⟩ := okWide_slice Try.underlying32 (hval 0 32 v0 rfl rfl)
  have k_v := h0
  have lt_v : ∀ y ∈ p0, y.block < W.heap.size := by obtain ⟨m, hm⟩ := k_v; exact DataW.trod_lt m _ _ _ hm
  obtain ⟨v, S_v, arg_v, dat_v⟩ := ArgB.open_arg Value.string ArgB.datS Try.underlying32 (by kernel_rfl) (ArgB.el_string Try.underlying9) h0
  obtain ⟨s, rfl, rfl, rfl, hs_s⟩ := open_string Try.underlying9 (hval 1 9 v1 rfl rfl) h1
  clear hA0
  simp only [List.append_nil] at hW'
  simp only [List.append_nil] at hcond
  have hbk := of_decide_eq_true hcond
  simp only [Rows.uptoBulkAll] at hbk
  have hb_v := ArgB.bulk_arg dat_v
  have el_s : s.data.toList.length = s.size := by simp
  simp only [Rows.uptoBulk] at hbk
  refine (walk _ v s W (ArgB.txs_of arg_v) (by omega) (by omega)).mono fun e W' ⟨he, bel⟩ => ?_
  subst he
  exact ⟨_, rfl, _, _, _, [], _, [], hW', trodAll_mk1 (shut_bool Try.underlying4 _), (trodAll_cons_mk (Below.trod ArgB.laidOut (by kernel_rfl) (of_decide_eq_true (by kernel_rfl)) k_v bel lt_v) (trodAll_cons_mk (shut_string Try.underlying9 hs_s) trodAll_mk0)), rfl, bel.frame _, fun h => by cases h⟩

theorem laid_met (os : Os) : laidMet Try.prog Rows.recordBackUptoRow.laid ((World.holding Try.prog os ⟨#[], #[], []⟩).forCall (fun _ _ => 0) ⟨#[], #[.slice none 0 0, .string ByteArray.empty], []⟩).memory :=
  laidMet_of_run' 8 (by kernel_rfl) (by kernel_rfl)
theorem reads (os : Os) {H : Type} (enc : TypeId × Value → H) : ∃ places, DataW.whole enc Try.prog ((World.holding Try.prog os ⟨#[], #[], []⟩).forCall (fun _ _ => 0) ⟨#[], #[.slice none 0 0, .string ByteArray.empty], []⟩).memory Try.f8.params.toList Rows.recordBackSpec.vars false #[Value.slice none 0 0, Value.string ByteArray.empty].toList 8 = some ([.nil, .lit (.string [])], [], places) :=
  ⟨[], by kernel_rfl⟩

set_option maxRecDepth 100000 in
theorem lifted (os : Os) (started : os.Started) (H : Type) (enc : TypeId × Value → H) (F : Stop.Interp) :
    ReturnsInHanded {} Try.checked os 8 .any ((Rows.OpenSpec.upto Rows.recordBackSpec).preRow enc Try.prog Try.f8 Rows.recordBackUptoRow.domain false Rows.recordBackUptoRow.laid) (((Rows.OpenSpec.upto Rows.recordBackSpec).at F).post enc Try.prog Try.f8 false true false false) := by
  obtain ⟨places, hx⟩ := reads os enc
  refine returnsInHanded_of_row (C := Try.checked) (s := Rows.OpenSpec.upto Rows.recordBackSpec) own started (by kernel_rfl) Try.func8
    (witness_row_at (enc := enc) (C := Try.checked) false ((World.holding Try.prog os ⟨#[], #[], []⟩)) #[.slice none 0 0, .string ByteArray.empty] rfl (by kernel_rfl) (by kernel_rfl) (by kernel_rfl)
      (OpenSpec.preRow_of_cond 8 hx (by kernel_rfl) (fun k hk => by cases hk; kernel_rfl) (by kernel_rfl) (laid_met os))) ?_
  intro W base args ds gs before hval hW _ hcond _ _ _ _
  exact contract H enc W base args ds gs before hval hW (hcond _ rfl)

theorem said : Rows.RecordBackUptoSaid :=
  OpenClaim.holds_of_cond 8 Try.f8 rfl rfl rfl rfl rfl rfl rfl ⟨rfl, rfl, rfl, rfl, rfl⟩ rfl rfl rfl rfl rfl (by kernel_rfl) Try.func8 (by kernel_rfl)
    (of_decide_eq_true (by kernel_rfl)) (by unfold Func.isWrapper; first | (rw [if_pos (by decide +kernel)]; kernel_rfl) | (rw [if_neg (by decide +kernel)]; exact ⟨rfl, rfl⟩))
    (fun os started H enc _ F => by rw [OpenClaim.pre_eq_preRow]; exact lifted os started H enc F)

end Go.Proofs.Ytdcffkahijpcbaa.recordBack
namespace Go.Proofs.Ytdcffkahijpcbaa
theorem recordBack_holds : Rows.RecordBackUptoSaid := recordBack.said
end Go.Proofs.Ytdcffkahijpcbaa
