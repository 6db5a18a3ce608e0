/- LinesBack of layer 1 returns true for every rows (in all of bulk at most 1048576): what lines.Show writes, lines.Rows reads as the very rows, numbered from 1 on; where the document says a fault, Show tells one and an empty text. The package tables are laid as the program's text lays them (the card's tie). -/
import Derived.Test.YtaaonaaciomijabDoorCpW
import Derived.Test.YtaaonaaciomijabDoorArgR
import Derived.Test.YtaaonaaciomijabDoorRSh
import Derived.Test.YtaaonaaciomijabDoorWake
import Derived.Test.YtaaonaaciomijabDoorSame
import Derived.Test.YtaaonaaciomijabDoorBkM
import Derived.Test.YtaaonaaciomijabDoorRowX
import Derived.Test.YtaaonaaciomijabDoorLaid
import Derived.Test.YtaaonaaciomijabDoorCards
import Derived.Test.YtaaonaaciomijabDoorTie
import Derived.ProofKit
import Derived.OpenShut
import Derived.Deep.DeepHandedRow
import Derived.Lib.LaidTab
namespace Go.Proofs.YtaaonaaciomijabDoor.linesBack
open Go.ChangeShapes Go.WideShapes Go.ChangeAt Go.RowKit
open Go.ChangeMaps (open_string shut_string)

open FldW ShM SzW ShoW RowB
theorem strs_of {w : World} {u : Value} {r : List ByteArray} (h : ArgB.ArgOf Value.string w u r) : Same.IsStrs w u r := by
  obtain ⟨ao, cap, e, h1, h2, h3⟩ := h
  refine ⟨ao, cap, e, h2, ?_⟩
  by_cases h0 : r = []
  · exact .inl h0
  · obtain ⟨g, off, e1, _, hc⟩ := h3 (List.length_pos_iff.2 h0)
    exact .inr ⟨g, off, e1, hc⟩
theorem rows_cells {n₀ : Nat} {eR : TypeId} {W : World} {v : Value} {R : List (Nat × List (List UInt8))} (h : RowsAre n₀ eR W v R) :
    ∃ a c, v = .slice a R.length c ∧ R.length ≤ c ∧ R.length ≤ maxLen ∧ (0 < R.length → ∃ g, a = some ⟨g, 0, none⟩ ∧ ∀ (j : Nat) r, R[j]? = some r → ∃ fv, W.cell? ⟨g, 2 * j, none⟩ = some (.int .i64 (r.1 : Int)) ∧ W.cell? ⟨g, 2 * j + 1, none⟩ = some fv ∧ Same.IsStrs W fv (r.2.map Fld.str)) := by
  obtain ⟨E, hF, hO, _⟩ := h
  have hl := hF.length
  have hO' := hO
  obtain ⟨_, ⟨rfl, h0⟩ | ⟨g, cap, cur, rfl, hg, hh, hc, hm, hsz, htk⟩⟩ := hO
  · exact ⟨none, 0, by rw [← hl, h0], by omega, by omega, fun h => by omega⟩
  · refine ⟨_, cap, by rw [hl], by omega, by omega, fun _ => ⟨g, rfl, fun j r hr => ?_⟩⟩
    have hj : j < E.length := by rw [hl]; exact (List.getElem?_eq_some_iff.1 hr).1
    have he : E[j]? = some E[j] := List.getElem?_eq_getElem hj
    obtain ⟨r2, hr2, e1, hs⟩ := hF.get j _ he
    rw [hr] at hr2
    cases hr2
    obtain ⟨c1, c2⟩ := cellsE_get E j _ he
    have a0 : ∀ j, (⟨g, 0, none⟩ : Addr).add j = ⟨g, j, none⟩ := fun j => by
      unfold Addr.add
      split
      · rename_i h; subst h; rfl
      · simp
    have k1 := hO'.cells (g := g) rfl _ _ c1
    have k2 := hO'.cells (g := g) rfl _ _ c2
    rw [a0] at k1 k2
    exact ⟨_, by rw [← e1]; exact k1, k2, isStrs_of_row hs⟩
theorem join_size : ∀ (r : List ByteArray), r ≠ [] → (Lib.join (BkM.tx r) [32]).length + 1 = rt r
  | [], h => absurd rfl h
  | [f], _ => by simp [BkM.tx, Lib.join_one, rt]
  | f :: g :: t, _ => by
    have ih := join_size (g :: t) (by simp)
    have e : BkM.tx (f :: g :: t) = f.data.toList :: g.data.toList :: BkM.tx t := rfl
    have e2 : BkM.tx (g :: t) = g.data.toList :: BkM.tx t := rfl
    rw [e, BkM.join_cons2, ← e2]
    simp only [rt, List.map_cons, List.sum_cons] at ih ⊢
    have h3 : f.data.toList.length = f.size := by simp
    rw [List.length_append, List.length_cons]
    omega
theorem shw_size : ∀ (R : List (List ByteArray)), (∀ r ∈ R, r ≠ []) → (shw R).length = tot R
  | [], _ => rfl
  | r :: t, h => by
    have ih := shw_size t (fun q hq => h q (by simp [hq]))
    have := join_size r (h r (by simp))
    rw [BkM.shw_cons, List.length_append, List.length_cons, ih]
    simp only [tot, List.map_cons, List.sum_cons]
    omega

set_option maxRecDepth 100000 in
set_option maxHeartbeats 4000000 in
theorem walk_bad (R : List (List ByteArray)) (v : Value) (w : World) (hR : IsRows w v R) (hT : tot R + R.length ≤ 1048576) (hbad : showE R ≠ 0) :
    Calls Tryd.prog 7 #[v] w fun e w' => e = .returned (.bool true) ∧ Below w.heap.size w w' := by
  have hsz : ∀ r ∈ R, ∀ f ∈ r, f.size < 4294967281 := fun r hr f hf => by
    have := ArgR.le_rt hf
    have := ArgR.le_tot hr
    omega
  have hlr : ∀ r ∈ R, r.length ≤ 1048576 := fun r hr => by
    have := ArgR.len_rt r
    have := ArgR.le_tot hr
    omega
  have HCO := hide (fun W h => CpW.copied_any R v W h (by omega) hlr)
  have HS1 := hide (fun u W h => show_any R u W h hsz (by omega) (by omega))
  have HS2 := hide (fun u W h => RSh.show_any R u W h hsz (by omega) (by omega))
  have hS : showS R = ⟨#[]⟩ := by
    unfold showS
    rw [if_neg]
    intro h
    apply hbad
    unfold showE
    rw [if_pos h.1, if_pos h.2]
  rw [hS] at HS1 HS2
  have HR := hide hR
  have hne : ((showE R) != 0) = true := by rw [bne_iff_ne]; exact hbad
  clear hsz hlr hT hR hS hbad
  generalize showE R = E at *
  go_enter Tryd.func7, Tryd.ntmps7
  go_wp2_with (go_at_call 24; refine (Wake.wakes_any _).mono ?_; rintro e w1 ⟨rfl, hB1⟩)
  go_wp2_with (go_at_call 20; refine (unhide HCO _ ((unhide HR).below hB1)).mono ?_; rintro e w2 ⟨u, rfl, hU, hB2⟩)
  have hB12 := hB1.trans (hB2.mono hB1.size)
  have HU := hide hU
  clear hU
  go_wp2_with (go_at_call 22; refine (unhide HS2 _ _ (unhide HU)).mono ?_; rintro e w3 ⟨rfl, hB3⟩)
  have hB13 := hB12.trans (hB3.mono hB12.size)
  go_wp2_with (go_at_call 20; refine (unhide HCO _ ((unhide HR).below hB13)).mono ?_; rintro e w4 ⟨u2, rfl, hU2, hB4⟩)
  have hB14 := hB13.trans (hB4.mono hB13.size)
  have HU2 := hide hU2
  clear hU2
  go_wp2_with (go_at_call 21; refine (unhide HS1 _ _ (unhide HU2)).mono ?_; rintro e w5 ⟨rfl, hB5⟩)
  go_ret
  exact ⟨rfl, hB14.trans (hB5.mono hB14.size)⟩
set_option maxRecDepth 100000 in
set_option maxHeartbeats 4000000 in
theorem walk_good (R : List (List ByteArray)) (v : Value) (w : World) (hR : IsRows w v R) (hM : EachW.MaxIs w) (hg0 : 0 < w.heap.size) (h0 : fault 0 R = 0) (hl : tot R ≤ 65536) (hN : R.length ≤ 1048576) :
    Calls Tryd.prog 7 #[v] w fun e w' => e = .returned (.bool true) ∧ Below w.heap.size w w' := by
  have hsz : ∀ r ∈ R, ∀ f ∈ r, f.size < 4294967281 := fun r hr f hf => by
    have := ArgR.le_rt hf
    have := ArgR.le_tot hr
    omega
  have hlr : ∀ r ∈ R, r.length ≤ 1048576 := fun r hr => by
    have := ArgR.len_rt r
    have := ArgR.le_tot hr
    omega
  have HCO := hide (fun W h => CpW.copied_any R v W h hN hlr)
  have HS1 := hide (fun u W h => show_any R u W h hsz (by omega) (by omega))
  have HS2 := hide (fun u W h => RSh.show_any R u W h hsz (by omega) (by omega))
  have hS : showS R = ⟨(shw R).toArray⟩ := by unfold showS; rw [if_pos ⟨h0, hl⟩]
  have hE : showE R = 0 := by unfold showE; rw [if_pos h0, if_pos hl]
  rw [hE] at HS1 HS2
  have hss : (showS R).size ≤ 65536 := by
    rw [hS]
    show (shw R).toArray.size ≤ 65536
    have := shw_size R (fun r hr => (BkM.fault_goods h0 r hr).1)
    simp
    omega
  have HRB := hide (fun W h => RowW.rows_short (showS R) W hss h)
  have e1 : Rw.rowsOf (showS R).data.toList = BkM.numR 1 R := by rw [hS]; exact BkM.rows_back h0
  rw [e1] at HRB
  have hR0 := hR
  obtain ⟨ao, cap, rfl, hm, hcap, _⟩ := hR0.form
  have HR := hide hR
  clear hsz hlr hl hR hR0 hS hE hss e1 h0 hN
  unfold maxLen at hm
  have HNL := hide (BkM.numR_len R 1)
  generalize hn : R.length = n at *
  have HN := hide hn
  clear hn
  generalize showS R = S at *
  go_enter Tryd.func7, Tryd.ntmps7
  go_wp2_with (go_at_call 24; refine (Wake.wakes_any _).mono ?_; rintro e w1 ⟨rfl, hB1⟩)
  go_wp2_with (go_at_call 20; refine (unhide HCO _ ((unhide HR).below hB1)).mono ?_; rintro e w2 ⟨u, rfl, hU, hB2⟩)
  have hB12 := hB1.trans (hB2.mono hB1.size)
  have HU := hide hU
  clear hU
  go_wp2_with (go_at_call 22; refine (unhide HS2 _ _ (unhide HU)).mono ?_; rintro e w3 ⟨rfl, hB3⟩)
  have hB13 := hB12.trans (hB3.mono hB12.size)
  go_wp2_with (go_at_call 20; refine (unhide HCO _ ((unhide HR).below hB13)).mono ?_; rintro e w4 ⟨u2, rfl, hU2, hB4⟩)
  have hB14 := hB13.trans (hB4.mono hB13.size)
  have HU2 := hide hU2
  clear hU2
  go_wp2_with (go_at_call 21; refine (unhide HS1 _ _ (unhide HU2)).mono ?_; rintro e w5 ⟨rfl, hB5⟩)
  have hB15 := hB14.trans (hB5.mono hB14.size)
  have hM5 := hM.below hg0 hB15
  go_wp2_with (go_at_call 25; refine (unhide HRB _ hM5).mono ?_; rintro e w6 ⟨bk, rfl, hbk, hB6⟩; obtain ⟨a2, c2, rfl, hl2, hm2, h2⟩ := rows_cells hbk; rw [unhide HNL] at h2 hl2 ⊢; have H2 := hide h2; clear hbk h2 hm2)
  have hB := hB15.trans (hB6.mono hB15.size)
  have HRW := hide ((unhide HR).below hB).form
  have HB := hide hB
  clear hB hB1 hB2 hB12 hB3 hB13 hB4 hB14 hB5 hB15 hB6 hM5 hM HR HU HU2 HS1 HS2 HCO HRB hg0
  go_loopw [52] (fun i wr => ∃ k q : Nat, k ≤ n ∧ i = .int .i64 k ∧ wr = w6.drewN q) (fun i _ => n - (intOf i).toNat)
  case atStart => exact ⟨0, 0, Nat.zero_le _, rfl, rfl⟩
  case round =>
    obtain ⟨k, q, hk, rfl, rfl⟩ := hrel
    by_cases hlt : k < n
    · obtain ⟨r, hr⟩ : ∃ r, R[k]? = some r := ⟨_, List.getElem?_eq_getElem (by rw [unhide HN]; exact hlt)⟩
      obtain ⟨g1, o1, f1, rfl, hc1, ha1⟩ : ∃ g1 o1 f1, ao = some ⟨g1, o1, none⟩ ∧ (w6.drewN q).cell? ⟨g1, o1 + k, none⟩ = some f1 ∧ Same.IsStrs (w6.drewN q) f1 r := by
        obtain ⟨_, _, e, _, _, h4⟩ := unhide HRW
        injection e with e1 _ _
        subst e1
        obtain ⟨g, off, u, e2, _, hc, hA⟩ := h4 k r hr
        exact ⟨g, off, u, e2, hc, strs_of hA⟩
      obtain ⟨g2, f2, rfl, hc2, hd2, ha2⟩ : ∃ g2 f2, a2 = some ⟨g2, 0, none⟩ ∧ (w6.drewN q).cell? ⟨g2, k * 2, none⟩ = some (.int .i64 ((k : Int) + 1)) ∧ (w6.drewN q).cell? ⟨g2, k * 2 + 1, none⟩ = some f2 ∧ Same.IsStrs (w6.drewN q) f2 r := by
        obtain ⟨g, e, h4⟩ := unhide H2 (by omega)
        obtain ⟨fv, x1, x2, x3⟩ := h4 k _ (BkM.numR_get hr)
        rw [BkM.str_tx] at x3
        rw [Nat.mul_comm 2 k] at x1 x2
        have e5 : (((1 + k : Nat)) : Int) = (k : Int) + 1 := by omega
        rw [e5] at x1
        exact ⟨g, fv, e, x1, x2, x3⟩
      have HW : Hid (∀ m, ∃ q', (w6.drewN q).drewN m = w6.drewN q') := fun m => ⟨q + m, by rw [World.drewN_drewN]⟩
      generalize w6.drewN q = W at *
      have HS := hide (fun m : Nat => Same.same_true (W.drewN m) f2 f1 r ha2 ha1)
      have hk1 : (k : Int) < (n : Int) := by omega
      clear ha1 ha2 hr
      go_wp2
      go_quiet ((go_at_call 23; exact Calls.quiet_of (unhide HS _)))
      go_wp2
      go_roundw
      case rel =>
        obtain ⟨q', hq'⟩ := unhide HW nq
        exact ⟨k + 1, q', by omega, by go_num, hq'⟩
      case measure => simp [intOf]; omega
    · have hnl : ¬ ((k : Int) < (n : Int)) := by omega
      have HBQ : Hid (Below w.heap.size w (w6.drewN q)) := below_drewN (unhide HB) q
      generalize w6.drewN q = W at *
      go_wp2
      go_ret
      exact ⟨rfl, unhide HBQ⟩
theorem walk (R : List (List ByteArray)) (v : Value) (w : World) (hR : IsRows w v R) (hM : EachW.MaxIs w) (hg0 : 0 < w.heap.size) (hT : tot R + R.length ≤ 1048576) :
    Calls Tryd.prog 7 #[v] w fun e w' => e = .returned (.bool true) ∧ Below w.heap.size w w' := by
  by_cases hbad : showE R = 0
  · by_cases h0 : fault 0 R = 0
    · by_cases hl : tot R ≤ 65536
      · exact walk_good R v w hR hM hg0 h0 hl (by omega)
      · exfalso
        unfold showE at hbad
        rw [if_pos h0, if_neg hl] at hbad
        cases hbad
    · exfalso
      unfold showE at hbad
      rw [if_neg h0] at hbad
      exact h0 hbad
  · exact walk_bad R v w hR hT hbad

set_option maxRecDepth 100000 in
theorem contract (H : Type) (enc : TypeId × Value → H) (W : World) (base : Nat) (args : Array Value) (ds gs : List (DataW H)) (before : List MemPlace)
    (hval : ∀ (j : Nat) t v, Tryd.f7.params[j]? = some t → args[j]? = some v → Value.okWide Tryd.prog W .any base t v)
    (hW : DataW.Whole enc Tryd.prog Tryd.f7.params.toList Rows.linesBackSpec.vars false W args.toList ds gs before)
    (hcond : Rows.uptoSmall H (ds ++ gs) = true)
    (hsh : W.ShapedOpen Tryd.prog) :
    Calls Tryd.prog 7 args W fun e W' => ∃ v, e = .returned v ∧ Rows.linesBackSpec.post enc Tryd.prog Tryd.f7 false true false false W args v W' := by
  have hW' := hW
  obtain ⟨p, q, hA0, hV, rfl, hfz, hnd⟩ := hW
  have hA : DataW.TrodAll enc Tryd.prog W 0 (fun _ => true) true Tryd.f7.params.toList args.toList ds p := hA0
  rw [Tryd.params7] at hA hval
  obtain ⟨v0, vs0, d0, ds0, p0, q0, hargs, rfl, rfl, h0, r0⟩ := trodAll_cons hA
  obtain ⟨rfl, rfl, rfl⟩ := trodAll_nil r0
  obtain rfl : args = #[v0] := by cases args; simp_all
  obtain ⟨rfl, rfl⟩ := trodVars_none hV
  obtain ⟨a_R, len_R, cap_R, rfl⟩ := okWide_slice Tryd.underlying39 (hval 0 39 v0 rfl rfl)
  have k_R := h0
  have lt_R : ∀ y ∈ p0, y.block < W.heap.size := by obtain ⟨m, hm⟩ := k_R; exact DataW.trod_lt m _ _ _ hm
  obtain ⟨R, S_R, arg_R, dat_R⟩ := ArgR.open_rows Tryd.underlying39 (by kernel_rfl) Tryd.underlying47 (by kernel_rfl) Tryd.underlying9 h0
  clear hA0
  simp only [List.append_nil] at hW'
  simp only [List.append_nil] at hcond
  have hbk := of_decide_eq_true hcond
  simp only [Rows.uptoBulkAll] at hbk
  have hbulk := ArgR.bulk_arg dat_R (by omega)
  have hM := EachW.maxIs_of hsh
  have hg0 : 0 < W.heap.size := by
    obtain ⟨m, hm⟩ := hM
    exact World.block_lt_of_cell? W ⟨0, 0, none⟩ hm
  refine (walk (R.map fun x => x.1.l) _ W arg_R hM hg0 hbulk).mono fun e W' ⟨he, bel⟩ => ?_
  subst he
  exact ⟨_, rfl, _, _, _, [], _, [], hW', trodAll_mk1 (shut_bool Tryd.underlying4 _), (trodAll_cons_mk (Below.trod ArgB.laidOut (by kernel_rfl) (of_decide_eq_true (by kernel_rfl)) k_R bel lt_R) trodAll_mk0), rfl, bel.frame _, fun h => by cases h⟩

theorem laid_met (os : Os) : laidMet Tryd.prog Rows.linesBackUptoRow.laid ((Laid.tabs (World.holding Tryd.prog os ⟨#[], #[], []⟩)).forCall (fun _ _ => 0) ⟨#[], #[.slice none 0 0], []⟩).memory :=
  laidMet_of_run' 8 (by kernel_rfl) (by kernel_rfl)
theorem reads (os : Os) {H : Type} (enc : TypeId × Value → H) : ∃ places, DataW.whole enc Tryd.prog ((Laid.tabs (World.holding Tryd.prog os ⟨#[], #[], []⟩)).forCall (fun _ _ => 0) ⟨#[], #[.slice none 0 0], []⟩).memory Tryd.f7.params.toList Rows.linesBackSpec.vars false #[Value.slice none 0 0].toList 8 = some ([.nil], [], places) :=
  ⟨[], by kernel_rfl⟩

set_option maxRecDepth 100000 in
theorem lifted (os : Os) (started : os.Started) (H : Type) (enc : TypeId × Value → H) (F : Stop.Interp) :
    ReturnsInHanded {} Tryd.checked os 7 .any ((Rows.OpenSpec.upto Rows.linesBackSpec).preRow enc Tryd.prog Tryd.f7 Rows.linesBackUptoRow.domain false Rows.linesBackUptoRow.laid) (((Rows.OpenSpec.upto Rows.linesBackSpec).at F).post enc Tryd.prog Tryd.f7 false true false false) := by
  obtain ⟨places, hx⟩ := reads os enc
  refine returnsInHanded_of_row (C := Tryd.checked) (s := Rows.OpenSpec.upto Rows.linesBackSpec) Laid.own started (by kernel_rfl) Tryd.func7
    (witness_row_at (enc := enc) (C := Tryd.checked) false (Laid.tabs (World.holding Tryd.prog os ⟨#[], #[], []⟩)) #[.slice none 0 0] rfl (by kernel_rfl) (by kernel_rfl) (by kernel_rfl)
      (OpenSpec.preRow_of_cond 8 hx (by kernel_rfl) (fun k hk => by cases hk; kernel_rfl) (by kernel_rfl) (laid_met os))) ?_
  intro W base args ds gs before hval hW _ hcond _ _ hsh _
  exact contract H enc W base args ds gs before hval hW (hcond _ rfl) hsh

theorem said : Rows.LinesBackUptoSaid :=
  OpenClaim.holds_of_cond 7 Tryd.f7 rfl rfl rfl rfl rfl rfl rfl ⟨rfl, rfl, rfl, rfl, rfl⟩ rfl rfl rfl rfl rfl (by kernel_rfl) Tryd.func7 (by kernel_rfl)
    (of_decide_eq_true (by kernel_rfl)) (by unfold Func.isWrapper; first | (rw [if_pos (by decide +kernel)]; kernel_rfl) | (rw [if_neg (by decide +kernel)]; exact ⟨rfl, rfl⟩))
    (fun os started H enc _ F => by rw [OpenClaim.pre_eq_preRow]; exact lifted os started H enc F)

theorem plain (f : FuncId) (fn : Func) (hf : Tryd.pinned.checked.prog.funcNamed "hornbook/hornbooklaw01.LinesBack" = some f) (hfn : Tryd.pinned.checked.prog.funcs[f]? = some fn) :
    false = Tryd.pinned.checked.prog.looks [] ∧ ∀ (j : Nat) t, fn.params[j]? = some t → Tryd.pinned.checked.prog.wantsStandIn t = false := by
  obtain rfl : f = 7 := Option.some.inj ((show Tryd.prog.funcNamed "hornbook/hornbooklaw01.LinesBack" = some 7 by kernel_rfl).symm.trans hf) |>.symm
  obtain rfl : fn = Tryd.f7 := (Option.some.inj (Tryd.func7.symm.trans hfn)).symm
  refine ⟨by kernel_rfl, fun j t ht => ?_⟩
  rw [Tryd.params7] at ht
  obtain rfl : t = 39 := by simpa using Array.mem_of_getElem? ht
  exact (show Tryd.prog.wantsStandIn 39 = false by kernel_rfl)

theorem card : Rows.LinesBackUptoCardSaid :=
  Claim7.holds_tied_plain_at .later [] _ _ _ _ said (fun _ h => by cases h) (by kernel_rfl) (fun _ h => by cases h) linesBackUpto_row_tie rfl ⟨rfl, rfl⟩ (by kernel_rfl) rfl plain (by kernel_rfl)
end Go.Proofs.YtaaonaaciomijabDoor.linesBack
namespace Go.Proofs.YtaaonaaciomijabDoor
theorem linesBack_holds : Rows.LinesBackUptoCardSaid := linesBack.card
end Go.Proofs.YtaaonaaciomijabDoor
