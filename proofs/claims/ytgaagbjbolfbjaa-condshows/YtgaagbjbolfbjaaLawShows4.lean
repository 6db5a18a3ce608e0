/- CondShows of layer 4 returns true for every text: Show answers as the document's own does, and no longer a text than was read. -/
import Derived.Test.YtgaagbjbolfbjaaRwW
import Derived.Test.YtgaagbjbolfbjaaRows
import Derived.WalkKit
import Derived.ProofKit
import Derived.OpenShut
import Derived.Deep.DeepHandedRow
import Derived.Lib.LaidTab
namespace Go.Proofs.Ytgaagbjbolfbjaa.condShows
open Go.ChangeShapes Go.WideShapes Go.ChangeAt Go.RowKit
open Go.ChangeMaps (open_string shut_string)

theorem own : ownKnob Try.prog.godebug = none := by kernel_rfl

open Pt Cd
attribute [local go_sem ↓] Pt.load_as
attribute [local go_sem] Pt.ldP_new Pt.ldP_drew
set_option maxHeartbeats 1000000 in
set_option maxRecDepth 100000 in
theorem walk (s : ByteArray) (w : World) :
    Calls Try.prog 5 #[.string s] w fun e w' => e = .returned (.bool true) ∧ Below w.heap.size w w' := by
  have HRD : Hid (∀ W, Calls Try.prog 8 #[.string s] W fun e w' => e = .returned (.tuple #[.agg (patC (rdP s.data.toList)), .int .i64 ((rd s.data.toList).2 : Nat)]) ∧ Below W.heap.size W w') := fun W => read_any s W
  have HRF := hide (fun W => refRead_any s W)
  have HSX : Hid (∀ W, Calls Try.prog 18 #[.agg (patC (rdP s.data.toList))] W fun e w' => e = .returned (.string (str (sws (rd s.data.toList).1))) ∧ Below W.heap.size W w') := fun W => by
    have := patShow_any (rdP s.data.toList) W (rdP_len _)
    rw [rdP, swsF_sws] at this
    exact this
  have HSR : Hid (∀ v W, TextsAt W v (rd s.data.toList).1 → Calls Try.prog 19 #[v] W fun e w' => e = .returned (.string (str (sws (rd s.data.toList).1))) ∧ Below W.heap.size W w') := fun v W h => refShow_any _ v W (rd_pcs _) (rd_len _) h
  have HLE : Hid ((rd s.data.toList).2 = 0 → (str (sws (rd s.data.toList).1)).size ≤ s.size) := fun h => by
    have := sws_len h
    rw [str_size]
    simpa using this
  have hX := sz_pat s.data.toList
  have hstn := fun W => store_new W _ hX (patC_one _)
  have hz := zero_pat
  generalize str (sws (rd s.data.toList).1) = T at *
  generalize patC (rdP s.data.toList) = X at *
  generalize patC [] = Z at *
  generalize rd s.data.toList = R at *
  have htt : (T.toList == T.toList) = true := by simp
  go_enter Try.func5, Try.ntmps5
  go_wp2_with fail
  refine (unhide HRD _).mono ?_
  rintro e w1 ⟨rfl, hb1⟩
  have HB1 := hide hb1
  clear hb1
  go_wp2_with fail
  refine (unhide HRF _).mono ?_
  rintro e w2 ⟨v, rfl, hp2, hb2⟩
  have HG2 := hide (keep_pat (heap_alloc_last w1 (.cells X 27)) hb2)
  have HT2 := hide hp2.at
  have HB2 : Hid (Below w.heap.size w w2) := hide (by
    have b1 := unhide HB1
    exact (b1.alloc b1.size (.cells X 27)).trans (hb2.mono (by have := b1.size; simp; omega)))
  have hld := ldP_row (unhide HG2) hX
  clear hp2 hb2 HB1
  go_wp2_with fail
  refine (unhide HSX _).mono ?_
  rintro e w3 ⟨rfl, hb3⟩
  have HT3 := hide ((unhide HT2).below hb3)
  have HB3 := hide ((unhide HB2).trans (hb3.mono (unhide HB2).size))
  clear hb3 hld HG2 HT2 HB2
  go_wp2_with fail
  refine (wakes_any _).mono ?_
  rintro e w4 ⟨rfl, hb4⟩
  have HT4 := hide ((unhide HT3).below hb4)
  have HB4 := hide ((unhide HB3).trans (hb4.mono (unhide HB3).size))
  clear hb4 HT3 HB3
  by_cases h0 : R.2 = 0
  · have h0z : (R.2 : Int) = 0 := by omega
    have hle : (T.size : Int) ≤ (s.size : Int) := by have := unhide HLE h0; omega
    clear h0
    go_wp2_with fail
    refine (unhide HSR _ _ (unhide HT4)).mono ?_
    rintro e w5 ⟨rfl, hb5⟩
    have HB5 := hide ((unhide HB4).trans (hb5.mono (unhide HB4).size))
    clear hb5
    go_wp2
    go_ret
    exact ⟨rfl, unhide HB5⟩
  · have h0z : ¬ (R.2 : Int) = 0 := by omega
    go_wp2_with fail
    refine (unhide HSR _ _ (unhide HT4)).mono ?_
    rintro e w5 ⟨rfl, hb5⟩
    have HB5 := hide ((unhide HB4).trans (hb5.mono (unhide HB4).size))
    clear hb5
    go_wp2
    go_ret
    exact ⟨rfl, unhide HB5⟩

set_option maxRecDepth 100000 in
theorem contract (H : Type) (enc : TypeId × Value → H) (W : World) (base : Nat) (args : Array Value) (ds gs : List (DataW H)) (before : List MemPlace)
    (hval : ∀ (j : Nat) t v, Try.f5.params[j]? = some t → args[j]? = some v → Value.okWide Try.prog W .any base t v)
    (hW : DataW.Whole enc Try.prog Try.f5.params.toList Rows.condShowsSpec.vars false W args.toList ds gs before) :
    Calls Try.prog 5 args W fun e W' => ∃ v, e = .returned v ∧ Rows.condShowsSpec.post enc Try.prog Try.f5 false true false false W args v W' := by
  have hW' := hW
  obtain ⟨p, q, hA0, hV, rfl, hfz, hnd⟩ := hW
  have hA : DataW.TrodAll enc Try.prog W 0 (fun _ => true) true Try.f5.params.toList args.toList ds p := hA0
  rw [Try.params5] at hA hval
  obtain ⟨v0, vs0, d0, ds0, p0, q0, hargs, rfl, rfl, h0, r0⟩ := trodAll_cons hA
  obtain ⟨rfl, rfl, rfl⟩ := trodAll_nil r0
  obtain rfl : args = #[v0] := by cases args; simp_all
  obtain ⟨rfl, rfl⟩ := trodVars_none hV
  obtain ⟨s, rfl, rfl, rfl, hs_s⟩ := open_string Try.underlying9 (hval 0 9 v0 rfl rfl) h0
  clear hA0
  simp only [List.append_nil] at hW'
  refine (walk s W).mono fun e W' ⟨he, bel⟩ => ?_
  subst he
  exact ⟨_, rfl, _, _, _, [], [], [], hW', trodAll_mk1 (shut_bool Try.underlying4 _), (trodAll_cons_mk (shut_string Try.underlying9 hs_s) trodAll_mk0), rfl, bel.frame _, fun h => by cases h⟩

theorem laid_met (os : Os) : laidMet Try.prog Rows.condShowsRow.laid ((World.holding Try.prog os ⟨#[], #[], []⟩).forCall (fun _ _ => 0) ⟨#[], #[.string ByteArray.empty], []⟩).memory :=
  laidMet_of_run' 8 (by kernel_rfl) (by kernel_rfl)
theorem reads (os : Os) {H : Type} (enc : TypeId × Value → H) : ∃ places, DataW.whole enc Try.prog ((World.holding Try.prog os ⟨#[], #[], []⟩).forCall (fun _ _ => 0) ⟨#[], #[.string ByteArray.empty], []⟩).memory Try.f5.params.toList Rows.condShowsSpec.vars false #[Value.string ByteArray.empty].toList 8 = some ([.lit (.string [])], [], places) :=
  ⟨[], by kernel_rfl⟩

set_option maxRecDepth 100000 in
theorem lifted (os : Os) (started : os.Started) (H : Type) (enc : TypeId × Value → H) (F : Stop.Interp) :
    ReturnsInHanded {} Try.checked os 5 .any ((OpenSpec.ofChange Rows.condShowsSpec).preRow enc Try.prog Try.f5 Rows.condShowsRow.domain false Rows.condShowsRow.laid) (((OpenSpec.ofChange Rows.condShowsSpec).at F).post enc Try.prog Try.f5 false true false false) := by
  obtain ⟨places, hx⟩ := reads os enc
  refine returnsInHanded_of_row (C := Try.checked) (s := OpenSpec.ofChange Rows.condShowsSpec) own started (by kernel_rfl) Try.func5
    (witness_row_at (enc := enc) (C := Try.checked) false ((World.holding Try.prog os ⟨#[], #[], []⟩)) #[.string ByteArray.empty] rfl (by kernel_rfl) (by kernel_rfl) (by kernel_rfl)
      (OpenSpec.preRow_of_cond 8 hx (by kernel_rfl) (fun k hk => by cases hk) (by kernel_rfl) (laid_met os))) ?_
  intro W base args ds gs before hval hW _ _ _ _ _ _
  exact contract H enc W base args ds gs before hval hW 

theorem said : Rows.CondShowsSaid :=
  OpenClaim.holds_of_cond 5 Try.f5 rfl rfl rfl rfl rfl rfl rfl ⟨rfl, rfl, rfl, rfl, rfl⟩ rfl rfl rfl rfl rfl (by kernel_rfl) Try.func5 (by kernel_rfl)
    (of_decide_eq_true (by kernel_rfl)) (by unfold Func.isWrapper; first | (rw [if_pos (by decide +kernel)]; kernel_rfl) | (rw [if_neg (by decide +kernel)]; exact ⟨rfl, rfl⟩))
    (fun os started H enc _ F => by rw [OpenClaim.pre_eq_preRow]; exact lifted os started H enc F)

end Go.Proofs.Ytgaagbjbolfbjaa.condShows
namespace Go.Proofs.Ytgaagbjbolfbjaa
theorem condShows_holds : Rows.CondShowsSaid := condShows.said
end Go.Proofs.Ytgaagbjbolfbjaa
