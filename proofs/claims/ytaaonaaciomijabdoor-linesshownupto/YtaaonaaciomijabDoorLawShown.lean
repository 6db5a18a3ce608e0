/- LinesShown of layer 1 returns true for every rows (in all of bulk at most 1048576): lines.Show answers the text and the error of the document's own Show, and the rows stay as they were. The package tables are laid as the program's text lays them (the card's tie). -/
import Derived.Test.YtaaonaaciomijabDoorCpW
import Derived.Test.YtaaonaaciomijabDoorArgR
import Derived.Test.YtaaonaaciomijabDoorRSh
import Derived.Test.YtaaonaaciomijabDoorWake
import Derived.Test.YtaaonaaciomijabDoorSame
import Derived.Test.YtaaonaaciomijabDoorLaid
import Derived.Test.YtaaonaaciomijabDoorCards
import Derived.Test.YtaaonaaciomijabDoorTie
import Derived.ProofKit
import Derived.OpenShut
import Derived.Deep.DeepHandedRow
import Derived.Lib.LaidTab
namespace Go.Proofs.YtaaonaaciomijabDoor.linesShown
open Go.ChangeShapes Go.WideShapes Go.ChangeAt Go.RowKit
open Go.ChangeMaps (open_string shut_string)

open FldW ShM SzW ShoW
theorem strs_of {w : World} {u : Value} {r : List ByteArray} (h : ArgB.ArgOf Value.string w u r) : Same.IsStrs w u r := by
  obtain ⟨ao, cap, e, h1, h2, h3⟩ := h
  refine ⟨ao, cap, e, h2, ?_⟩
  by_cases h0 : r = []
  · exact .inl h0
  · obtain ⟨g, off, e1, _, hc⟩ := h3 (List.length_pos_iff.2 h0)
    exact .inr ⟨g, off, e1, hc⟩
set_option maxRecDepth 100000 in
set_option maxHeartbeats 4000000 in
theorem walk (R : List (List ByteArray)) (v : Value) (w : World) (hR : IsRows w v R) (hT : tot R + R.length ≤ 1048576) :
    Calls Tryd.prog 6 #[v] w fun e w' => e = .returned (.bool true) ∧ Below w.heap.size w w' := by
  have hsz : ∀ r ∈ R, ∀ f ∈ r, f.size < 4294967281 := fun r hr f hf => by
    have := ArgR.le_rt hf
    have := ArgR.le_tot hr
    omega
  have hlr : ∀ r ∈ R, r.length ≤ 1048576 := fun r hr => by
    have := ArgR.len_rt r
    have := ArgR.le_tot hr
    omega
  have HCO := hide (CpW.copied_any R v w hR (by omega) hlr)
  have HS1 := hide (fun W h => show_any R v W h hsz (by omega) (by omega))
  have HS2 := hide (fun u W h => RSh.show_any R u W h hsz (by omega) (by omega))
  have hR0 := hR
  obtain ⟨ao, cap, rfl, hm, hcap, _⟩ := hR0.form
  have HR := hide hR
  clear hsz hlr hT hR hR0
  unfold maxLen at hm
  generalize hn : R.length = n at *
  have HN := hide hn
  clear hn
  generalize showS R = S at *
  generalize showE R = E at *
  go_enter Tryd.func6, Tryd.ntmps6
  go_wp2_with (first
    | (go_at_call 20; refine (unhide HCO).mono ?_; rintro e w1 ⟨u, rfl, hU, hB1⟩; obtain ⟨ao2, cap2, rfl, hm2, hcap2, _⟩ := hU.form; rw [unhide HN] at hm2 hcap2 hU ⊢; have HU := hide hU; clear hU hm2)
    | (go_at_call 21; refine (unhide HS1 _ ((unhide HR).below hB1)).mono ?_; rintro e w2 ⟨rfl, hB2⟩)
    | (go_at_call 22; refine (unhide HS2 _ _ ((unhide HU).below hB2)).mono ?_; rintro e w3 ⟨rfl, hB3⟩))
  have hB23 := hB2.trans (hB3.mono hB2.size)
  have hB := hB1.trans (hB23.mono hB1.size)
  have HRW := hide ((unhide HR).below hB).form
  have HUW := hide ((unhide HU).below hB23).form
  have HB := hide hB
  clear hB hB1 hB2 hB3 hB23 HR HU HS1 HS2 HCO
  go_loopw [38] (fun i wr => ∃ k q : Nat, k ≤ n ∧ i = .int .i64 k ∧ wr = w3.drewN q) (fun i _ => n - (intOf i).toNat)
  case atStart => exact ⟨0, 0, Nat.zero_le _, rfl, rfl⟩
  case round =>
    obtain ⟨k, q, hk, rfl, rfl⟩ := hrel
    by_cases hlt : k < n
    · obtain ⟨r, hr⟩ : ∃ r, R[k]? = some r := ⟨_, List.getElem?_eq_getElem (by rw [unhide HN]; exact hlt)⟩
      obtain ⟨g1, o1, f1, rfl, hc1, ha1⟩ : ∃ g1 o1 f1, ao = some ⟨g1, o1, none⟩ ∧ (w3.drewN q).cell? ⟨g1, o1 + k, none⟩ = some f1 ∧ Same.IsStrs (w3.drewN q) f1 r := by
        obtain ⟨_, _, e, _, _, h4⟩ := unhide HRW
        injection e with e1 _ _
        subst e1
        obtain ⟨g, off, u, e2, _, hc, hA⟩ := h4 k r hr
        exact ⟨g, off, u, e2, hc, strs_of hA⟩
      obtain ⟨g2, o2, f2, rfl, hc2, ha2⟩ : ∃ g2 o2 f2, ao2 = some ⟨g2, o2, none⟩ ∧ (w3.drewN q).cell? ⟨g2, o2 + k, none⟩ = some f2 ∧ Same.IsStrs (w3.drewN q) f2 r := by
        obtain ⟨_, _, e, _, _, h4⟩ := unhide HUW
        injection e with e1 _ _
        subst e1
        obtain ⟨g, off, u, e2, _, hc, hA⟩ := h4 k r hr
        exact ⟨g, off, u, e2, hc, strs_of hA⟩
      have HW : Hid (∀ m, ∃ q', (w3.drewN q).drewN m = w3.drewN q') := fun m => ⟨q + m, by rw [World.drewN_drewN]⟩
      generalize w3.drewN q = W at *
      have HS := hide (fun m : Nat => Same.same_true (W.drewN m) f1 f2 r ha1 ha2)
      have hk1 : (k : Int) < (n : Int) := by omega
      clear ha1 ha2 hr
      go_wp2
      go_quiet ((go_at_call 23; exact Calls.quiet_of (unhide HS _)))
      go_wp2
      go_roundw
      case rel =>
        obtain ⟨q', hq'⟩ := unhide HW nq
        exact ⟨k + 1, q', by omega, by go_num, hq'⟩
      case measure => simp [intOf]; omega
    · have hnl : ¬ ((k : Int) < (n : Int)) := by omega
      have HBQ : Hid (Below w.heap.size w (w3.drewN q)) := below_drewN (unhide HB) q
      generalize w3.drewN q = W at *
      go_wp2_with (go_at_call 24; refine (Wake.wakes_any _).mono ?_; rintro e w4 ⟨rfl, hB4⟩)
      go_ret
      exact ⟨rfl, (unhide HBQ).trans (hB4.mono (unhide HBQ).size)⟩

set_option maxRecDepth 100000 in
theorem contract (H : Type) (enc : TypeId × Value → H) (W : World) (base : Nat) (args : Array Value) (ds gs : List (DataW H)) (before : List MemPlace)
    (hval : ∀ (j : Nat) t v, Tryd.f6.params[j]? = some t → args[j]? = some v → Value.okWide Tryd.prog W .any base t v)
    (hW : DataW.Whole enc Tryd.prog Tryd.f6.params.toList Rows.linesShownSpec.vars false W args.toList ds gs before)
    (hcond : Rows.uptoSmall H (ds ++ gs) = true) :
    Calls Tryd.prog 6 args W fun e W' => ∃ v, e = .returned v ∧ Rows.linesShownSpec.post enc Tryd.prog Tryd.f6 false true false false W args v W' := by
  have hW' := hW
  obtain ⟨p, q, hA0, hV, rfl, hfz, hnd⟩ := hW
  have hA : DataW.TrodAll enc Tryd.prog W 0 (fun _ => true) true Tryd.f6.params.toList args.toList ds p := hA0
  rw [Tryd.params6] at hA hval
  obtain ⟨v0, vs0, d0, ds0, p0, q0, hargs, rfl, rfl, h0, r0⟩ := trodAll_cons hA
  obtain ⟨rfl, rfl, rfl⟩ := trodAll_nil r0
  obtain rfl : args = #[v0] := by cases args; simp_all
  obtain ⟨rfl, rfl⟩ := trodVars_none hV
  obtain ⟨a_R, len_R, cap_R, rfl⟩ := okWide_slice Tryd.underlying39 (hval 0 39 v0 rfl rfl)
  have k_R := h0
  have lt_R : ∀ y ∈ p0, y.block < W.heap.size := by obtain ⟨m, hm⟩ := k_R; exact DataW.trod_lt m _ _ _ hm
  obtain ⟨R, S_R, arg_R, dat_R⟩ := ArgR.open_rows Tryd.underlying39 (by kernel_rfl) Tryd.underlying47 (by kernel_rfl) Tryd.underlying9 h0
  clear hA0
  simp only [List.append_nil] at hW'
  simp only [List.append_nil] at hcond
  have hbk := of_decide_eq_true hcond
  simp only [Rows.uptoBulkAll] at hbk
  have hbulk := ArgR.bulk_arg dat_R (by omega)
  refine (walk (R.map fun x => x.1.l) _ W arg_R hbulk).mono fun e W' ⟨he, bel⟩ => ?_
  subst he
  exact ⟨_, rfl, _, _, _, [], _, [], hW', trodAll_mk1 (shut_bool Tryd.underlying4 _), (trodAll_cons_mk (Below.trod ArgB.laidOut (by kernel_rfl) (of_decide_eq_true (by kernel_rfl)) k_R bel lt_R) trodAll_mk0), rfl, bel.frame _, fun h => by cases h⟩

theorem laid_met (os : Os) : laidMet Tryd.prog Rows.linesShownUptoRow.laid ((Laid.tabs (World.holding Tryd.prog os ⟨#[], #[], []⟩)).forCall (fun _ _ => 0) ⟨#[], #[.slice none 0 0], []⟩).memory :=
  laidMet_of_run' 8 (by kernel_rfl) (by kernel_rfl)
theorem reads (os : Os) {H : Type} (enc : TypeId × Value → H) : ∃ places, DataW.whole enc Tryd.prog ((Laid.tabs (World.holding Tryd.prog os ⟨#[], #[], []⟩)).forCall (fun _ _ => 0) ⟨#[], #[.slice none 0 0], []⟩).memory Tryd.f6.params.toList Rows.linesShownSpec.vars false #[Value.slice none 0 0].toList 8 = some ([.nil], [], places) :=
  ⟨[], by kernel_rfl⟩

set_option maxRecDepth 100000 in
theorem lifted (os : Os) (started : os.Started) (H : Type) (enc : TypeId × Value → H) (F : Stop.Interp) :
    ReturnsInHanded {} Tryd.checked os 6 .any ((Rows.OpenSpec.upto Rows.linesShownSpec).preRow enc Tryd.prog Tryd.f6 Rows.linesShownUptoRow.domain false Rows.linesShownUptoRow.laid) (((Rows.OpenSpec.upto Rows.linesShownSpec).at F).post enc Tryd.prog Tryd.f6 false true false false) := by
  obtain ⟨places, hx⟩ := reads os enc
  refine returnsInHanded_of_row (C := Tryd.checked) (s := Rows.OpenSpec.upto Rows.linesShownSpec) Laid.own started (by kernel_rfl) Tryd.func6
    (witness_row_at (enc := enc) (C := Tryd.checked) false (Laid.tabs (World.holding Tryd.prog os ⟨#[], #[], []⟩)) #[.slice none 0 0] rfl (by kernel_rfl) (by kernel_rfl) (by kernel_rfl)
      (OpenSpec.preRow_of_cond 8 hx (by kernel_rfl) (fun k hk => by cases hk; kernel_rfl) (by kernel_rfl) (laid_met os))) ?_
  intro W base args ds gs before hval hW _ hcond _ _ _ _
  exact contract H enc W base args ds gs before hval hW (hcond _ rfl)

theorem said : Rows.LinesShownUptoSaid :=
  OpenClaim.holds_of_cond 6 Tryd.f6 rfl rfl rfl rfl rfl rfl rfl ⟨rfl, rfl, rfl, rfl, rfl⟩ rfl rfl rfl rfl rfl (by kernel_rfl) Tryd.func6 (by kernel_rfl)
    (of_decide_eq_true (by kernel_rfl)) (by unfold Func.isWrapper; first | (rw [if_pos (by decide +kernel)]; kernel_rfl) | (rw [if_neg (by decide +kernel)]; exact ⟨rfl, rfl⟩))
    (fun os started H enc _ F => by rw [OpenClaim.pre_eq_preRow]; exact lifted os started H enc F)

theorem plain (f : FuncId) (fn : Func) (hf : Tryd.pinned.checked.prog.funcNamed "hornbook/hornbooklaw01.LinesShown" = some f) (hfn : Tryd.pinned.checked.prog.funcs[f]? = some fn) :
    false = Tryd.pinned.checked.prog.looks [] ∧ ∀ (j : Nat) t, fn.params[j]? = some t → Tryd.pinned.checked.prog.wantsStandIn t = false := by
  obtain rfl : f = 6 := Option.some.inj ((show Tryd.prog.funcNamed "hornbook/hornbooklaw01.LinesShown" = some 6 by kernel_rfl).symm.trans hf) |>.symm
  obtain rfl : fn = Tryd.f6 := (Option.some.inj (Tryd.func6.symm.trans hfn)).symm
  refine ⟨by kernel_rfl, fun j t ht => ?_⟩
  rw [Tryd.params6] at ht
  obtain rfl : t = 39 := by simpa using Array.mem_of_getElem? ht
  exact (show Tryd.prog.wantsStandIn 39 = false by kernel_rfl)

theorem card : Rows.LinesShownUptoCardSaid :=
  Claim7.holds_tied_plain_at .later [] _ _ _ _ said (fun _ h => by cases h) (by kernel_rfl) (fun _ h => by cases h) linesShownUpto_row_tie rfl ⟨rfl, rfl⟩ (by kernel_rfl) rfl plain (by kernel_rfl)
end Go.Proofs.YtaaonaaciomijabDoor.linesShown
namespace Go.Proofs.YtaaonaaciomijabDoor
theorem linesShown_holds : Rows.LinesShownUptoCardSaid := linesShown.card
end Go.Proofs.YtaaonaaciomijabDoor
