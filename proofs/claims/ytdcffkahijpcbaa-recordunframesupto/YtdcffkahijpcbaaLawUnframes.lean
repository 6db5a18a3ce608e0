/- RecordUnframes of layer 6 returns true for every text of a bulk of at most 1,048,576: record.Unframe answers the records and the fault that the document's own Unframe answers. -/
import Derived.Test.YtdcffkahijpcbaaUv
import Derived.Test.YtdcffkahijpcbaaRows
import Derived.WalkKit
import Derived.ProofKit
import Derived.OpenShut
import Derived.Deep.DeepHandedRow
import Derived.Lib.LaidTab
namespace Go.Proofs.Ytdcffkahijpcbaa.recordUnframes
open Go.ChangeShapes Go.WideShapes Go.ChangeAt Go.RowKit
open Go.ChangeMaps (open_string shut_string)

theorem own : ownKnob Try.prog.godebug = none := by kernel_rfl

open Um
theorem rl_inj {a b : List ByteArray} (h : rl a = rl b) : a = b := by
  have : (rl a).map str = (rl b).map str := by rw [h]
  simpa [rl, str_lst, Function.comp_def] using this
set_option maxHeartbeats 1000000 in
theorem walk (s : ByteArray) (w : World) (hs : s.size ≤ 1048576) :
    Calls Try.prog 6 #[.string s] w fun e w' => e = .returned (.bool true) ∧ Below w.heap.size w w' := by
  obtain ⟨Ev, hEv⟩ : ∃ Ev : Int, ((heads (lst s)).2 : Int) = Ev := ⟨_, rfl⟩
  obtain ⟨XX, hXX⟩ : ∃ XX, (if (heads (lst s)).2 = 0 then (heads (lst s)).1 else []) = XX := ⟨_, rfl⟩
  have HXL : Um.Hid (XX.length ≤ 1048576) := by
    show _ ≤ _
    have := heads_len _ (lst s) (Nat.le_refl _)
    rw [lst_len] at this
    rw [← hXX]
    split
    · omega
    · simp
  have HA := hide (fun W => unframe_any s W (by omega) Ev XX hEv hXX)
  have HB := hide (fun W => refun_any s W (by omega) Ev XX hEv hXX)
  clear hEv hXX
  go_enter Try.func6, Try.ntmps6
  go_wp2_with (first
    | (go_at_call 17; refine (unhide HA _).mono ?_; rintro e w1 ⟨v, D, rfl, h1, h2, h3⟩; have H1 := hide h1; have H2 := hide h2; have HB1 := hide h3; clear h1 h2 h3)
    | (go_at_call 18; refine (unhide HB _).mono ?_; rintro e w2 ⟨u, D2, rfl, h1, h2, h3⟩; obtain rfl : D2 = D := rl_inj (h2.trans (unhide H2).symm); have H3 := hide ((unhide H1).below h3); have H4 := hide h1; have HB2 := hide ((unhide HB1).trans (h3.mono (unhide HB1).size)); clear h1 h2 h3)
    | (go_at_call 9; refine (wakes_any _).mono ?_; rintro e w3 ⟨rfl, hB3⟩; have H5 := hide ((unhide H3).below hB3); have H6 := hide ((unhide H4).below hB3); have HB3 := hide ((unhide HB2).trans (hB3.mono (unhide HB2).size)); clear hB3)
    | (go_at_call 19; refine (list_same _ _ D2 _ (unhide H5) (unhide H6) (by have h5 := unhide HXL; rw [← unhide H2, rl_len] at h5; omega)).mono ?_; rintro e w4 ⟨rfl, hB4⟩; have HB4 := hide ((unhide HB3).trans (hB4.mono (unhide HB3).size)); clear hB4))
  go_ret
  exact ⟨by simp, unhide HB4⟩

set_option maxRecDepth 100000 in
theorem contract (H : Type) (enc : TypeId × Value → H) (W : World) (base : Nat) (args : Array Value) (ds gs : List (DataW H)) (before : List MemPlace)
    (hval : ∀ (j : Nat) t v, Try.f6.params[j]? = some t → args[j]? = some v → Value.okWide Try.prog W .any base t v)
    (hW : DataW.Whole enc Try.prog Try.f6.params.toList Rows.recordUnframesSpec.vars false W args.toList ds gs before)
    (hcond : Rows.uptoSmall H (ds ++ gs) = true) :
    Calls Try.prog 6 args W fun e W' => ∃ v, e = .returned v ∧ Rows.recordUnframesSpec.post enc Try.prog Try.f6 false true false false W args v W' := by
  have hW' := hW
  obtain ⟨p, q, hA0, hV, rfl, hfz, hnd⟩ := hW
  have hA : DataW.TrodAll enc Try.prog W 0 (fun _ => true) true Try.f6.params.toList args.toList ds p := hA0
  rw [Try.params6] at hA hval
  obtain ⟨v0, vs0, d0, ds0, p0, q0, hargs, rfl, rfl, h0, r0⟩ := trodAll_cons hA
  obtain ⟨rfl, rfl, rfl⟩ := trodAll_nil r0
  obtain rfl : args = #[v0] := by cases args; simp_all
  obtain ⟨rfl, rfl⟩ := trodVars_none hV
  obtain ⟨s, rfl, rfl, rfl, hs_s⟩ := open_string Try.underlying9 (hval 0 9 v0 rfl rfl) h0
  clear hA0
  simp only [List.append_nil] at hW'
  simp only [List.append_nil] at hcond
  have hbk := of_decide_eq_true hcond
  simp only [Rows.uptoBulkAll, Rows.uptoBulk] at hbk
  have el_s : s.data.toList.length = s.size := by simp
  refine (walk s W (by omega)).mono fun e W' ⟨he, bel⟩ => ?_
  subst he
  exact ⟨_, rfl, _, _, _, [], [], [], hW', trodAll_mk1 (shut_bool Try.underlying4 _), (trodAll_cons_mk (shut_string Try.underlying9 hs_s) trodAll_mk0), rfl, bel.frame _, fun h => by cases h⟩

theorem laid_met (os : Os) : laidMet Try.prog Rows.recordUnframesUptoRow.laid ((World.holding Try.prog os ⟨#[], #[], []⟩).forCall (fun _ _ => 0) ⟨#[], #[.string ByteArray.empty], []⟩).memory :=
  laidMet_of_run' 8 (by kernel_rfl) (by kernel_rfl)
theorem reads (os : Os) {H : Type} (enc : TypeId × Value → H) : ∃ places, DataW.whole enc Try.prog ((World.holding Try.prog os ⟨#[], #[], []⟩).forCall (fun _ _ => 0) ⟨#[], #[.string ByteArray.empty], []⟩).memory Try.f6.params.toList Rows.recordUnframesSpec.vars false #[Value.string ByteArray.empty].toList 8 = some ([.lit (.string [])], [], places) :=
  ⟨[], by kernel_rfl⟩

set_option maxRecDepth 100000 in
theorem lifted (os : Os) (started : os.Started) (H : Type) (enc : TypeId × Value → H) (F : Stop.Interp) :
    ReturnsInHanded {} Try.checked os 6 .any ((Rows.OpenSpec.upto Rows.recordUnframesSpec).preRow enc Try.prog Try.f6 Rows.recordUnframesUptoRow.domain false Rows.recordUnframesUptoRow.laid) (((Rows.OpenSpec.upto Rows.recordUnframesSpec).at F).post enc Try.prog Try.f6 false true false false) := by
  obtain ⟨places, hx⟩ := reads os enc
  refine returnsInHanded_of_row (C := Try.checked) (s := Rows.OpenSpec.upto Rows.recordUnframesSpec) own started (by kernel_rfl) Try.func6
    (witness_row_at (enc := enc) (C := Try.checked) false ((World.holding Try.prog os ⟨#[], #[], []⟩)) #[.string ByteArray.empty] rfl (by kernel_rfl) (by kernel_rfl) (by kernel_rfl)
      (OpenSpec.preRow_of_cond 8 hx (by kernel_rfl) (fun k hk => by cases hk; kernel_rfl) (by kernel_rfl) (laid_met os))) ?_
  intro W base args ds gs before hval hW _ hcond _ _ _ _
  exact contract H enc W base args ds gs before hval hW (hcond _ rfl)

theorem said : Rows.RecordUnframesUptoSaid :=
  OpenClaim.holds_of_cond 6 Try.f6 rfl rfl rfl rfl rfl rfl rfl ⟨rfl, rfl, rfl, rfl, rfl⟩ rfl rfl rfl rfl rfl (by kernel_rfl) Try.func6 (by kernel_rfl)
    (of_decide_eq_true (by kernel_rfl)) (by unfold Func.isWrapper; first | (rw [if_pos (by decide +kernel)]; kernel_rfl) | (rw [if_neg (by decide +kernel)]; exact ⟨rfl, rfl⟩))
    (fun os started H enc _ F => by rw [OpenClaim.pre_eq_preRow]; exact lifted os started H enc F)

end Go.Proofs.Ytdcffkahijpcbaa.recordUnframes
namespace Go.Proofs.Ytdcffkahijpcbaa
theorem recordUnframes_holds : Rows.RecordUnframesUptoSaid := recordUnframes.said
end Go.Proofs.Ytdcffkahijpcbaa
