/- CondEquals of layer 4 returns true for every two texts: Equal answers as the document's own does, and a pattern equals itself. -/
import Derived.Test.YtgaagbjbolfbjaaRqW
import Derived.Test.YtgaagbjbolfbjaaRows
import Derived.WalkKit
import Derived.ProofKit
import Derived.OpenShut
import Derived.Deep.DeepHandedRow
import Derived.Lib.LaidTab
namespace Go.Proofs.Ytgaagbjbolfbjaa.condEquals
open Go.ChangeShapes Go.WideShapes Go.ChangeAt Go.RowKit
open Go.ChangeMaps (open_string shut_string)

theorem own : ownKnob Try.prog.godebug = none := by kernel_rfl

open Pt Cd
attribute [local go_sem ↓] Pt.load_as
attribute [local go_sem] Pt.ldP_new Pt.ldP_drew
theorem patEq_self (fs : List (UInt8 → Bool)) : patEq fs fs = true := by
  unfold patEq
  rw [List.all_eq_true]
  intro i _
  exact (eqI_iff _ _).2 rfl
set_option maxHeartbeats 1000000 in
set_option maxRecDepth 100000 in
theorem walk (s t : ByteArray) (w : World) :
    Calls Try.prog 6 #[.string s, .string t] w fun e w' => e = .returned (.bool true) ∧ Below w.heap.size w w' := by
  have HRS : Hid (∀ W, Calls Try.prog 8 #[.string s] W fun e w' => e = .returned (.tuple #[.agg (patC (rdP s.data.toList)), .int .i64 ((rd s.data.toList).2 : Nat)]) ∧ Below W.heap.size W w') := fun W => read_any s W
  have HRT : Hid (∀ W, Calls Try.prog 8 #[.string t] W fun e w' => e = .returned (.tuple #[.agg (patC (rdP t.data.toList)), .int .i64 ((rd t.data.toList).2 : Nat)]) ∧ Below W.heap.size W w') := fun W => read_any t W
  have HFS := hide (fun W => refRead_any s W)
  have HFT := hide (fun W => refRead_any t W)
  have HE1 : Hid (∀ W, Calls Try.prog 20 #[.agg (patC (rdP s.data.toList)), .agg (patC (rdP t.data.toList))] W fun e w' => e = .returned (.bool (refEq (rd s.data.toList).1 (rd t.data.toList).1)) ∧ Below W.heap.size W w') := fun W => by
    have := equal_any (rdP s.data.toList) (rdP t.data.toList) (rdP_len _) (rdP_len _) W
    rw [rdP, rdP, patEq_ref (rd_pc _) (rd_pc _) (rd_len _) (rd_len _)] at this
    exact this
  have HE2 : Hid (∀ W, Calls Try.prog 20 #[.agg (patC (rdP s.data.toList)), .agg (patC (rdP s.data.toList))] W fun e w' => e = .returned (.bool true) ∧ Below W.heap.size W w') := fun W => by
    have := equal_any (rdP s.data.toList) (rdP s.data.toList) (rdP_len _) (rdP_len _) W
    rw [patEq_self] at this
    exact this
  have HRE : Hid (∀ v u W, TextsAt W v (rd s.data.toList).1 → TextsAt W u (rd t.data.toList).1 → Calls Try.prog 21 #[v, u] W fun e w' => e = .returned (.bool (refEq (rd s.data.toList).1 (rd t.data.toList).1)) ∧ Below W.heap.size W w') := fun v u W h1 h2 => refEqual_any _ _ v u W (rd_pcs _) (rd_pcs _) (rd_len _) h1 h2
  have hX := sz_pat s.data.toList
  have hY := sz_pat t.data.toList
  have hstX := fun W => store_new W _ hX (patC_one _)
  have hstY := fun W => store_new W _ hY (patC_one _)
  have hz := zero_pat
  generalize refEq (rd s.data.toList).1 (rd t.data.toList).1 = BB at *
  generalize patC (rdP s.data.toList) = X at *
  generalize patC (rdP t.data.toList) = Y at *
  generalize patC [] = Z at *
  generalize rd s.data.toList = R at *
  generalize rd t.data.toList = R2 at *
  go_enter Try.func6, Try.ntmps6
  go_wp2_with fail
  refine (unhide HRS _).mono ?_
  rintro e w1 ⟨rfl, hb1⟩
  have HB1 := hide hb1
  clear hb1
  go_wp2_with fail
  refine (unhide HRT _).mono ?_
  rintro e w2 ⟨rfl, hb2⟩
  have HG2 := hide (heap_two (o := .cells Y 27) (keep_pat (heap_alloc_last w1 (.cells X 27)) hb2))
  have HK2 := hide (heap_alloc_last w2 (.cells Y 27))
  have HB2 : Hid (Below w.heap.size w (w2.alloc (.cells Y 27))) := hide (by
    have b1 := unhide HB1
    have b2 := (b1.alloc b1.size (.cells X 27)).trans (hb2.mono (by have := b1.size; simp; omega))
    exact b2.alloc b2.size _)
  clear hb2 HB1
  go_wp2_with fail
  refine (unhide HFS _).mono ?_
  rintro e w3 ⟨v, rfl, hp3, hb3⟩
  have HG3 := hide (keep_pat (unhide HG2) hb3)
  have HK3 := hide (keep_pat (unhide HK2) hb3)
  have HT3 := hide hp3.at
  have HB3 := hide ((unhide HB2).trans (hb3.mono (unhide HB2).size))
  clear hp3 hb3 HG2 HK2 HB2
  go_wp2_with fail
  refine (unhide HFT _).mono ?_
  rintro e w4 ⟨u, rfl, hp4, hb4⟩
  have HG4 := hide (keep_pat (unhide HG3) hb4)
  have HK4 := hide (keep_pat (unhide HK3) hb4)
  have HT4 := hide ((unhide HT3).below hb4)
  have HU4 := hide hp4.at
  have HB4 := hide ((unhide HB3).trans (hb4.mono (unhide HB3).size))
  clear hp4 hb4 HG3 HK3 HB3 HT3
  go_wp2_with fail
  refine (wakes_any _).mono ?_
  rintro e w5 ⟨rfl, hb5⟩
  have HG5 := hide (keep_pat (unhide HG4) hb5)
  have HK5 := hide (keep_pat (unhide HK4) hb5)
  have HT5 := hide ((unhide HT4).below hb5)
  have HU5 := hide ((unhide HU4).below hb5)
  have HB5 := hide ((unhide HB4).trans (hb5.mono (unhide HB4).size))
  have hldX := ldP_row (unhide HG5) hX
  have hldY := ldP_row (unhide HK5) hY
  clear hb5 HG4 HK4 HB4 HT4 HU4
  go_wp2_with fail
  refine (unhide HE1 _).mono ?_
  rintro e w6 ⟨rfl, hb6⟩
  have HG6 := hide (keep_pat (unhide HG5) hb6)
  have HT6 := hide ((unhide HT5).below hb6)
  have HU6 := hide ((unhide HU5).below hb6)
  have HB6 := hide ((unhide HB5).trans (hb6.mono (unhide HB5).size))
  clear hb6 HG5 HK5 HB5 HT5 HU5 hldX hldY
  go_wp2_with fail
  refine (unhide HRE _ _ _ (unhide HT6) (unhide HU6)).mono ?_
  rintro e w7 ⟨rfl, hb7⟩
  have HG7 := hide (keep_pat (unhide HG6) hb7)
  have HB7 := hide ((unhide HB6).trans (hb7.mono (unhide HB6).size))
  have hldX := ldP_row (unhide HG7) hX
  clear hb7 HG6 HB6 HT6 HU6
  go_wp2_with fail
  refine (unhide HE2 _).mono ?_
  rintro e w8 ⟨rfl, hb8⟩
  have HB8 := hide ((unhide HB7).trans (hb8.mono (unhide HB7).size))
  clear hb8 hldX
  go_wp2
  go_ret
  exact ⟨by simp, unhide HB8⟩

set_option maxRecDepth 100000 in
theorem contract (H : Type) (enc : TypeId × Value → H) (W : World) (base : Nat) (args : Array Value) (ds gs : List (DataW H)) (before : List MemPlace)
    (hval : ∀ (j : Nat) t v, Try.f6.params[j]? = some t → args[j]? = some v → Value.okWide Try.prog W .any base t v)
    (hW : DataW.Whole enc Try.prog Try.f6.params.toList Rows.condEqualsSpec.vars false W args.toList ds gs before) :
    Calls Try.prog 6 args W fun e W' => ∃ v, e = .returned v ∧ Rows.condEqualsSpec.post enc Try.prog Try.f6 false true false false W args v W' := by
  have hW' := hW
  obtain ⟨p, q, hA0, hV, rfl, hfz, hnd⟩ := hW
  have hA : DataW.TrodAll enc Try.prog W 0 (fun _ => true) true Try.f6.params.toList args.toList ds p := hA0
  rw [Try.params6] at hA hval
  obtain ⟨v0, vs0, d0, ds0, p0, q0, hargs, rfl, rfl, h0, r0⟩ := trodAll_cons hA
  obtain ⟨v1, vs1, d1, ds1, p1, q1, rfl, rfl, rfl, h1, r1⟩ := trodAll_cons r0
  obtain ⟨rfl, rfl, rfl⟩ := trodAll_nil r1
  obtain rfl : args = #[v0, v1] := by cases args; simp_all
  obtain ⟨rfl, rfl⟩ := trodVars_none hV
  obtain ⟨s, rfl, rfl, rfl, hs_s⟩ := open_string Try.underlying9 (hval 0 9 v0 rfl rfl) h0
  obtain ⟨t, rfl, rfl, rfl, hs_t⟩ := open_string Try.underlying9 (hval 1 9 v1 rfl rfl) h1
  clear hA0
  simp only [List.append_nil] at hW'
  refine (walk s t W).mono fun e W' ⟨he, bel⟩ => ?_
  subst he
  exact ⟨_, rfl, _, _, _, [], [], [], hW', trodAll_mk1 (shut_bool Try.underlying4 _), (trodAll_cons_mk (shut_string Try.underlying9 hs_s) (trodAll_cons_mk (shut_string Try.underlying9 hs_t) trodAll_mk0)), rfl, bel.frame _, fun h => by cases h⟩

theorem laid_met (os : Os) : laidMet Try.prog Rows.condEqualsRow.laid ((World.holding Try.prog os ⟨#[], #[], []⟩).forCall (fun _ _ => 0) ⟨#[], #[.string ByteArray.empty, .string ByteArray.empty], []⟩).memory :=
  laidMet_of_run' 8 (by kernel_rfl) (by kernel_rfl)
theorem reads (os : Os) {H : Type} (enc : TypeId × Value → H) : ∃ places, DataW.whole enc Try.prog ((World.holding Try.prog os ⟨#[], #[], []⟩).forCall (fun _ _ => 0) ⟨#[], #[.string ByteArray.empty, .string ByteArray.empty], []⟩).memory Try.f6.params.toList Rows.condEqualsSpec.vars false #[Value.string ByteArray.empty, Value.string ByteArray.empty].toList 8 = some ([.lit (.string []), .lit (.string [])], [], places) :=
  ⟨[], by kernel_rfl⟩

set_option maxRecDepth 100000 in
theorem lifted (os : Os) (started : os.Started) (H : Type) (enc : TypeId × Value → H) (F : Stop.Interp) :
    ReturnsInHanded {} Try.checked os 6 .any ((OpenSpec.ofChange Rows.condEqualsSpec).preRow enc Try.prog Try.f6 Rows.condEqualsRow.domain false Rows.condEqualsRow.laid) (((OpenSpec.ofChange Rows.condEqualsSpec).at F).post enc Try.prog Try.f6 false true false false) := by
  obtain ⟨places, hx⟩ := reads os enc
  refine returnsInHanded_of_row (C := Try.checked) (s := OpenSpec.ofChange Rows.condEqualsSpec) own started (by kernel_rfl) Try.func6
    (witness_row_at (enc := enc) (C := Try.checked) false ((World.holding Try.prog os ⟨#[], #[], []⟩)) #[.string ByteArray.empty, .string ByteArray.empty] rfl (by kernel_rfl) (by kernel_rfl) (by kernel_rfl)
      (OpenSpec.preRow_of_cond 8 hx (by kernel_rfl) (fun k hk => by cases hk) (by kernel_rfl) (laid_met os))) ?_
  intro W base args ds gs before hval hW _ _ _ _ _ _
  exact contract H enc W base args ds gs before hval hW 

theorem said : Rows.CondEqualsSaid :=
  OpenClaim.holds_of_cond 6 Try.f6 rfl rfl rfl rfl rfl rfl rfl ⟨rfl, rfl, rfl, rfl, rfl⟩ rfl rfl rfl rfl rfl (by kernel_rfl) Try.func6 (by kernel_rfl)
    (of_decide_eq_true (by kernel_rfl)) (by unfold Func.isWrapper; first | (rw [if_pos (by decide +kernel)]; kernel_rfl) | (rw [if_neg (by decide +kernel)]; exact ⟨rfl, rfl⟩))
    (fun os started H enc _ F => by rw [OpenClaim.pre_eq_preRow]; exact lifted os started H enc F)

end Go.Proofs.Ytgaagbjbolfbjaa.condEquals
namespace Go.Proofs.Ytgaagbjbolfbjaa
theorem condEquals_holds : Rows.CondEqualsSaid := condEquals.said
end Go.Proofs.Ytgaagbjbolfbjaa
