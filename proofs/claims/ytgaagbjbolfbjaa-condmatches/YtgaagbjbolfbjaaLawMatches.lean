/- CondMatches of layer 4 returns true for every two texts: a pattern's Starts and Ends answer as the document's own do. -/
import Derived.Test.YtgaagbjbolfbjaaRtW
import Derived.Test.YtgaagbjbolfbjaaRows
import Derived.WalkKit
import Derived.ProofKit
import Derived.OpenShut
import Derived.Deep.DeepHandedRow
import Derived.Lib.LaidTab
namespace Go.Proofs.Ytgaagbjbolfbjaa.condMatches
open Go.ChangeShapes Go.WideShapes Go.ChangeAt Go.RowKit
open Go.ChangeMaps (open_string shut_string)

theorem own : ownKnob Try.prog.godebug = none := by kernel_rfl

open Pt Cd
attribute [local go_sem ↓] Pt.load_as
attribute [local go_sem] Pt.ldP_new Pt.ldP_drew
set_option maxHeartbeats 1000000 in
set_option maxRecDepth 100000 in
theorem walk (s t : ByteArray) (w : World) (ht : t.size ≤ maxLen) :
    Calls Try.prog 4 #[.string s, .string t] w fun e w' => e = .returned (.bool true) ∧ Below w.heap.size w w' := by
  have HRD : Hid (∀ W, Calls Try.prog 8 #[.string s] W fun e w' => e = .returned (.tuple #[.agg (patC (rdP s.data.toList)), .int .i64 ((rd s.data.toList).2 : Nat)]) ∧ Below W.heap.size W w') := fun W => read_any s W
  have HRF := hide (fun W => refRead_any s W)
  have HS := hide (fun W => starts_any (rdP s.data.toList) t W (rdP_len _))
  have HE := hide (fun W => ends_any (rdP s.data.toList) t W (rdP_len _) ht)
  have HRS : Hid (∀ v W, TextsAt W v (rd s.data.toList).1 → Calls Try.prog 15 #[v, .string t] W fun e w' => e = .returned (.bool (startsB (rdP s.data.toList) t.data.toList)) ∧ Below W.heap.size W w') := fun v W h => refStarts_any _ v t W (rd_pcs _) (rd_len _) h
  have HRE : Hid (∀ v W, TextsAt W v (rd s.data.toList).1 → Calls Try.prog 17 #[v, .string t] W fun e w' => e = .returned (.bool (endsB (rdP s.data.toList) t.data.toList)) ∧ Below W.heap.size W w') := fun v W h => refEnds_any _ v t W (rd_pcs _) (rd_len _) h ht
  have hX := sz_pat s.data.toList
  have hstn := fun W => store_new W _ hX (patC_one _)
  have hz := zero_pat
  generalize startsB (rdP s.data.toList) t.data.toList = B1 at *
  generalize endsB (rdP s.data.toList) t.data.toList = B2 at *
  generalize patC (rdP s.data.toList) = X at *
  generalize patC [] = Z at *
  generalize rd s.data.toList = R at *
  go_enter Try.func4, Try.ntmps4
  go_wp2_with fail
  refine (unhide HRD _).mono ?_
  rintro e w1 ⟨rfl, hb1⟩
  have HB1 := hide hb1
  clear hb1
  go_wp2_with fail
  refine (unhide HRF _).mono ?_
  rintro e w2 ⟨v, rfl, hp2, hb2⟩
  have HG2 := hide (keep_pat (heap_alloc_last w1 (.cells X 27)) hb2)
  have HT2 := hide hp2.at
  have HB2 := hide hb2
  clear hp2 hb2
  go_wp2_with fail
  refine (wakes_any _).mono ?_
  rintro e w3 ⟨rfl, hb3⟩
  have HG3 := hide (keep_pat (unhide HG2) hb3)
  have hld3 := ldP_row (unhide HG3) hX
  have HT3 := hide ((unhide HT2).below hb3)
  have HB3 := hide hb3
  clear hb3
  go_wp2_with fail
  refine (unhide HS _).mono ?_
  rintro e w4 ⟨rfl, hb4⟩
  have HG4 := hide (keep_pat (unhide HG3) hb4)
  have HT4 := hide ((unhide HT3).below hb4)
  have HB4 := hide hb4
  clear hb4 hld3
  go_wp2_with fail
  refine (unhide HRS _ _ (unhide HT4)).mono ?_
  rintro e w5 ⟨rfl, hb5⟩
  have HG5 := hide (keep_pat (unhide HG4) hb5)
  have hld5 := ldP_row (unhide HG5) hX
  have HT5 := hide ((unhide HT4).below hb5)
  have HB5 := hide hb5
  clear hb5
  go_wp2_with fail
  refine (unhide HE _).mono ?_
  rintro e w6 ⟨rfl, hb6⟩
  have HT6 := hide ((unhide HT5).below hb6)
  have HB6 := hide hb6
  clear hb6 hld5
  go_wp2_with fail
  refine (unhide HRE _ _ (unhide HT6)).mono ?_
  rintro e w7 ⟨rfl, hb7⟩
  have HB7 := hide hb7
  clear hb7
  go_wp2
  go_ret
  have b1 := unhide HB1
  have b2 := (b1.alloc b1.size (.cells X 27)).trans ((unhide HB2).mono (by have := b1.size; simp; omega))
  have b3 := b2.trans ((unhide HB3).mono b2.size)
  have b4 := b3.trans ((unhide HB4).mono b3.size)
  have b5 := b4.trans ((unhide HB5).mono b4.size)
  have b6 := b5.trans ((unhide HB6).mono b5.size)
  exact ⟨by simp, b6.trans ((unhide HB7).mono b6.size)⟩

set_option maxRecDepth 100000 in
theorem contract (H : Type) (enc : TypeId × Value → H) (W : World) (base : Nat) (args : Array Value) (ds gs : List (DataW H)) (before : List MemPlace)
    (hval : ∀ (j : Nat) t v, Try.f4.params[j]? = some t → args[j]? = some v → Value.okWide Try.prog W .any base t v)
    (hW : DataW.Whole enc Try.prog Try.f4.params.toList Rows.condMatchesSpec.vars false W args.toList ds gs before) :
    Calls Try.prog 4 args W fun e W' => ∃ v, e = .returned v ∧ Rows.condMatchesSpec.post enc Try.prog Try.f4 false true false false W args v W' := by
  have hW' := hW
  obtain ⟨p, q, hA0, hV, rfl, hfz, hnd⟩ := hW
  have hA : DataW.TrodAll enc Try.prog W 0 (fun _ => true) true Try.f4.params.toList args.toList ds p := hA0
  rw [Try.params4] at hA hval
  obtain ⟨v0, vs0, d0, ds0, p0, q0, hargs, rfl, rfl, h0, r0⟩ := trodAll_cons hA
  obtain ⟨v1, vs1, d1, ds1, p1, q1, rfl, rfl, rfl, h1, r1⟩ := trodAll_cons r0
  obtain ⟨rfl, rfl, rfl⟩ := trodAll_nil r1
  obtain rfl : args = #[v0, v1] := by cases args; simp_all
  obtain ⟨rfl, rfl⟩ := trodVars_none hV
  obtain ⟨s, rfl, rfl, rfl, hs_s⟩ := open_string Try.underlying9 (hval 0 9 v0 rfl rfl) h0
  obtain ⟨t, rfl, rfl, rfl, hs_t⟩ := open_string Try.underlying9 (hval 1 9 v1 rfl rfl) h1
  clear hA0
  simp only [List.append_nil] at hW'
  refine (walk s t W hs_t).mono fun e W' ⟨he, bel⟩ => ?_
  subst he
  exact ⟨_, rfl, _, _, _, [], [], [], hW', trodAll_mk1 (shut_bool Try.underlying4 _), (trodAll_cons_mk (shut_string Try.underlying9 hs_s) (trodAll_cons_mk (shut_string Try.underlying9 hs_t) trodAll_mk0)), rfl, bel.frame _, fun h => by cases h⟩

theorem laid_met (os : Os) : laidMet Try.prog Rows.condMatchesRow.laid ((World.holding Try.prog os ⟨#[], #[], []⟩).forCall (fun _ _ => 0) ⟨#[], #[.string ByteArray.empty, .string ByteArray.empty], []⟩).memory :=
  laidMet_of_run' 8 (by kernel_rfl) (by kernel_rfl)
theorem reads (os : Os) {H : Type} (enc : TypeId × Value → H) : ∃ places, DataW.whole enc Try.prog ((World.holding Try.prog os ⟨#[], #[], []⟩).forCall (fun _ _ => 0) ⟨#[], #[.string ByteArray.empty, .string ByteArray.empty], []⟩).memory Try.f4.params.toList Rows.condMatchesSpec.vars false #[Value.string ByteArray.empty, Value.string ByteArray.empty].toList 8 = some ([.lit (.string []), .lit (.string [])], [], places) :=
  ⟨[], by kernel_rfl⟩

set_option maxRecDepth 100000 in
theorem lifted (os : Os) (started : os.Started) (H : Type) (enc : TypeId × Value → H) (F : Stop.Interp) :
    ReturnsInHanded {} Try.checked os 4 .any ((OpenSpec.ofChange Rows.condMatchesSpec).preRow enc Try.prog Try.f4 Rows.condMatchesRow.domain false Rows.condMatchesRow.laid) (((OpenSpec.ofChange Rows.condMatchesSpec).at F).post enc Try.prog Try.f4 false true false false) := by
  obtain ⟨places, hx⟩ := reads os enc
  refine returnsInHanded_of_row (C := Try.checked) (s := OpenSpec.ofChange Rows.condMatchesSpec) own started (by kernel_rfl) Try.func4
    (witness_row_at (enc := enc) (C := Try.checked) false ((World.holding Try.prog os ⟨#[], #[], []⟩)) #[.string ByteArray.empty, .string ByteArray.empty] rfl (by kernel_rfl) (by kernel_rfl) (by kernel_rfl)
      (OpenSpec.preRow_of_cond 8 hx (by kernel_rfl) (fun k hk => by cases hk) (by kernel_rfl) (laid_met os))) ?_
  intro W base args ds gs before hval hW _ _ _ _ _ _
  exact contract H enc W base args ds gs before hval hW 

theorem said : Rows.CondMatchesSaid :=
  OpenClaim.holds_of_cond 4 Try.f4 rfl rfl rfl rfl rfl rfl rfl ⟨rfl, rfl, rfl, rfl, rfl⟩ rfl rfl rfl rfl rfl (by kernel_rfl) Try.func4 (by kernel_rfl)
    (of_decide_eq_true (by kernel_rfl)) (by unfold Func.isWrapper; first | (rw [if_pos (by decide +kernel)]; kernel_rfl) | (rw [if_neg (by decide +kernel)]; exact ⟨rfl, rfl⟩))
    (fun os started H enc _ F => by rw [OpenClaim.pre_eq_preRow]; exact lifted os started H enc F)

end Go.Proofs.Ytgaagbjbolfbjaa.condMatches
namespace Go.Proofs.Ytgaagbjbolfbjaa
theorem condMatches_holds : Rows.CondMatchesSaid := condMatches.said
end Go.Proofs.Ytgaagbjbolfbjaa
