/- RecordFrames of layer 6 returns true for every list of texts of a bulk of at most 1,048,576: record.Frame answers the bytes and the fault that the document's own Frame answers. -/
import Derived.Test.YtdcffkahijpcbaaUs
import Derived.Test.YtdcffkahijpcbaaArgT
import Derived.Test.YtdcffkahijpcbaaRows
import Derived.WalkKit
import Derived.ProofKit
import Derived.OpenShut
import Derived.Deep.DeepHandedRow
import Derived.Lib.LaidTab
namespace Go.Proofs.Ytdcffkahijpcbaa.recordFrames
open Go.ChangeShapes Go.WideShapes Go.ChangeAt Go.RowKit
open Go.ChangeMaps (open_string shut_string)

theorem own : ownKnob Try.prog.godebug = none := by kernel_rfl

open Um
set_option maxHeartbeats 1000000 in
theorem walk (v : Value) (L : List ByteArray) (w : World) (hT : Txs w v L) (hn : L.length ≤ 1048576) :
    Calls Try.prog 5 #[v] w fun e w' => e = .returned (.bool true) ∧ Below w.heap.size w w' := by
  obtain ⟨A, hA⟩ : ∃ A, frA L = A := ⟨_, rfl⟩
  obtain ⟨Ev, hE⟩ : ∃ Ev, frE L = Ev := ⟨_, rfl⟩
  have HT := hide (twin_any v L w hT (by omega))
  have HF := hide (fun u W h => frame_any u L W h (by omega) A Ev hA hE)
  have HR := hide (fun W h => ref_frame v L W h (by omega) A Ev hA hE)
  have HV := hide hT
  clear hA hE hT
  go_enter Try.func5, Try.ntmps5
  go_wp2_with (first
    | (go_at_call 15; refine (unhide HT).mono ?_; rintro e w1 ⟨u, rfl, h1, h3⟩; have H1 := hide h1; have HB1 := hide h3; clear h1 h3)
    | (go_at_call 14; refine (unhide HF _ _ (unhide H1)).mono ?_; rintro e w2 ⟨rfl, h3⟩; have HB2 := hide ((unhide HB1).trans (h3.mono (unhide HB1).size)); clear h3)
    | (go_at_call 16; refine (unhide HR _ ((unhide HV).below (unhide HB2))).mono ?_; rintro e w3 ⟨rfl, h3⟩; have HB3 := hide ((unhide HB2).trans (h3.mono (unhide HB2).size)); clear h3)
    | (go_at_call 9; refine (wakes_any _).mono ?_; rintro e w4 ⟨rfl, hB4⟩; have HB4 := hide ((unhide HB3).trans (hB4.mono (unhide HB3).size)); clear hB4))
  go_ret
  exact ⟨by simp, unhide HB4⟩

set_option maxRecDepth 100000 in
theorem contract (H : Type) (enc : TypeId × Value → H) (W : World) (base : Nat) (args : Array Value) (ds gs : List (DataW H)) (before : List MemPlace)
    (hval : ∀ (j : Nat) t v, Try.f5.params[j]? = some t → args[j]? = some v → Value.okWide Try.prog W .any base t v)
    (hW : DataW.Whole enc Try.prog Try.f5.params.toList Rows.recordFramesSpec.vars false W args.toList ds gs before)
    (hcond : Rows.uptoSmall H (ds ++ gs) = true) :
    Calls Try.prog 5 args W fun e W' => ∃ v, e = .returned v ∧ Rows.recordFramesSpec.post enc Try.prog Try.f5 false true false false W args v W' := by
  have hW' := hW
  obtain ⟨p, q, hA0, hV, rfl, hfz, hnd⟩ := hW
  have hA : DataW.TrodAll enc Try.prog W 0 (fun _ => true) true Try.f5.params.toList args.toList ds p := hA0
  rw [Try.params5] at hA hval
  obtain ⟨v0, vs0, d0, ds0, p0, q0, hargs, rfl, rfl, h0, r0⟩ := trodAll_cons hA
  obtain ⟨rfl, rfl, rfl⟩ := trodAll_nil r0
  obtain rfl : args = #[v0] := by cases args; simp_all
  obtain ⟨rfl, rfl⟩ := trodVars_none hV
  obtain ⟨a_v, len_v, cap_v, rfl⟩ := okWide_slice Try.underlying32 (hval 0 32 v0 rfl rfl)
  have k_v := h0
  have lt_v : ∀ y ∈ p0, y.block < W.heap.size := by obtain ⟨m, hm⟩ := k_v; exact DataW.trod_lt m _ _ _ hm
  obtain ⟨v, S_v, arg_v, dat_v⟩ := ArgB.open_arg Value.string ArgB.datS Try.underlying32 (by kernel_rfl) (ArgB.el_string Try.underlying9) h0
  clear hA0
  simp only [List.append_nil] at hW'
  simp only [List.append_nil] at hcond
  have hbk := of_decide_eq_true hcond
  simp only [Rows.uptoBulkAll] at hbk
  have hb_v := ArgB.bulk_arg dat_v
  refine (walk _ v W (ArgB.txs_of arg_v) (by omega)).mono fun e W' ⟨he, bel⟩ => ?_
  subst he
  exact ⟨_, rfl, _, _, _, [], _, [], hW', trodAll_mk1 (shut_bool Try.underlying4 _), (trodAll_cons_mk (Below.trod ArgB.laidOut (by kernel_rfl) (of_decide_eq_true (by kernel_rfl)) k_v bel lt_v) trodAll_mk0), rfl, bel.frame _, fun h => by cases h⟩

theorem laid_met (os : Os) : laidMet Try.prog Rows.recordFramesUptoRow.laid ((World.holding Try.prog os ⟨#[], #[], []⟩).forCall (fun _ _ => 0) ⟨#[], #[.slice none 0 0], []⟩).memory :=
  laidMet_of_run' 8 (by kernel_rfl) (by kernel_rfl)
theorem reads (os : Os) {H : Type} (enc : TypeId × Value → H) : ∃ places, DataW.whole enc Try.prog ((World.holding Try.prog os ⟨#[], #[], []⟩).forCall (fun _ _ => 0) ⟨#[], #[.slice none 0 0], []⟩).memory Try.f5.params.toList Rows.recordFramesSpec.vars false #[Value.slice none 0 0].toList 8 = some ([.nil], [], places) :=
  ⟨[], by kernel_rfl⟩

set_option maxRecDepth 100000 in
theorem lifted (os : Os) (started : os.Started) (H : Type) (enc : TypeId × Value → H) (F : Stop.Interp) :
    ReturnsInHanded {} Try.checked os 5 .any ((Rows.OpenSpec.upto Rows.recordFramesSpec).preRow enc Try.prog Try.f5 Rows.recordFramesUptoRow.domain false Rows.recordFramesUptoRow.laid) (((Rows.OpenSpec.upto Rows.recordFramesSpec).at F).post enc Try.prog Try.f5 false true false false) := by
  obtain ⟨places, hx⟩ := reads os enc
  refine returnsInHanded_of_row (C := Try.checked) (s := Rows.OpenSpec.upto Rows.recordFramesSpec) own started (by kernel_rfl) Try.func5
    (witness_row_at (enc := enc) (C := Try.checked) false ((World.holding Try.prog os ⟨#[], #[], []⟩)) #[.slice none 0 0] rfl (by kernel_rfl) (by kernel_rfl) (by kernel_rfl)
      (OpenSpec.preRow_of_cond 8 hx (by kernel_rfl) (fun k hk => by cases hk; kernel_rfl) (by kernel_rfl) (laid_met os))) ?_
  intro W base args ds gs before hval hW _ hcond _ _ _ _
  exact contract H enc W base args ds gs before hval hW (hcond _ rfl)

theorem said : Rows.RecordFramesUptoSaid :=
  OpenClaim.holds_of_cond 5 Try.f5 rfl rfl rfl rfl rfl rfl rfl ⟨rfl, rfl, rfl, rfl, rfl⟩ rfl rfl rfl rfl rfl (by kernel_rfl) Try.func5 (by kernel_rfl)
    (of_decide_eq_true (by kernel_rfl)) (by unfold Func.isWrapper; first | (rw [if_pos (by decide +kernel)]; kernel_rfl) | (rw [if_neg (by decide +kernel)]; exact ⟨rfl, rfl⟩))
    (fun os started H enc _ F => by rw [OpenClaim.pre_eq_preRow]; exact lifted os started H enc F)

end Go.Proofs.Ytdcffkahijpcbaa.recordFrames
namespace Go.Proofs.Ytdcffkahijpcbaa
theorem recordFrames_holds : Rows.RecordFramesUptoSaid := recordFrames.said
end Go.Proofs.Ytdcffkahijpcbaa
