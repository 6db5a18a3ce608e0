/- CondBack of layer 4 returns true for every two texts: two patterns are equal just where they are shown alike; what is shown is read as an equal pattern that is shown alike. -/
import Derived.Test.YtgaagbjbolfbjaaSwP
import Derived.Test.YtgaagbjbolfbjaaRqW
import Derived.Test.YtgaagbjbolfbjaaQbW
import Derived.Test.YtgaagbjbolfbjaaRows
import Derived.WalkKit
import Derived.Deep.Cut
import Derived.Deep.CutRange
import Derived.ProofKit
import Derived.OpenShut
import Derived.Deep.DeepHandedRow
import Derived.Lib.LaidTab
namespace Go.Proofs.Ytgaagbjbolfbjaa.condBack
open Go.ChangeShapes Go.WideShapes Go.ChangeAt Go.RowKit
open Go.ChangeMaps (open_string shut_string)

theorem own : ownKnob Try.prog.godebug = none := by kernel_rfl

open Pt Cd
attribute [local go_sem ↓] Pt.load_as
attribute [local go_sem] Pt.ldP_new Pt.ldP_drew
theorem patEq_self (fs : List (UInt8 → Bool)) : patEq fs fs = true := by
  unfold patEq
  rw [List.all_eq_true]
  intro i _
  exact (eqI_iff _ _).2 rfl
theorem shows_eq (l m : List UInt8) : ((str (swsF (rdP l))).toList == (str (swsF (rdP m))).toList) = patEq (rdP l) (rdP m) := by
  rw [ByteArray.toList_eq, ByteArray.toList_eq, str_list, str_list, rdP, rdP, swsF_sws, swsF_sws, Bool.eq_iff_iff, beq_iff_eq, patEq_iff (rd_pc _) (rd_pc _) (rd_len _) (rd_len _)]
  exact ⟨sws_inj, sws_eq⟩
theorem step2 {w w1 w2 : World} {X : Array Value} {t : TypeId} (h1 : Below w.heap.size w w1) (h2 : Below (w1.alloc (.cells X t)).heap.size (w1.alloc (.cells X t)) w2) : Below w.heap.size w w2 := by
  have b := h1.alloc h1.size (.cells X t)
  exact b.trans (h2.mono b.size)
theorem drew_below {w W w2 : World} (h : Below w.heap.size w W) (h2 : Below W.drew.heap.size W.drew w2) : Below w.heap.size w w2 := h.drew.trans (h2.mono h.size)
theorem keep_drew {W W' : World} {g : Nat} {X : Array Value} {t : TypeId} (h : W.heap[g]? = some (.cells X t (0, 0))) (hb : Below W.drew.heap.size W.drew W') : W'.heap[g]? = some (.cells X t (0, 0)) := keep_pat (W := W.drew) h hb
set_option maxHeartbeats 4000000 in
set_option maxRecDepth 100000 in
theorem walk (s t : ByteArray) (w : World) :
    Calls Try.prog 7 #[.string s, .string t] w fun e w' => e = .returned (.bool true) ∧ Below w.heap.size w w' := by
  have HRS : Hid (∀ W, Calls Try.prog 8 #[.string s] W fun e w' => e = .returned (.tuple #[.agg (patC (rdP s.data.toList)), .int .i64 ((rd s.data.toList).2 : Nat)]) ∧ Below W.heap.size W w') := fun W => read_any s W
  have HRT : Hid (∀ W, Calls Try.prog 8 #[.string t] W fun e w' => e = .returned (.tuple #[.agg (patC (rdP t.data.toList)), .int .i64 ((rd t.data.toList).2 : Nat)]) ∧ Below W.heap.size W w') := fun W => read_any t W
  have HSX := hide (fun W => patShow_any (rdP s.data.toList) W (rdP_len _))
  have HSY := hide (fun W => patShow_any (rdP t.data.toList) W (rdP_len _))
  have HE1 := hide (fun W => equal_any (rdP s.data.toList) (rdP t.data.toList) (rdP_len _) (rdP_len _) W)
  have HE2 := hide (fun W => equal_any (rdP s.data.toList) (rdP s.data.toList) (rdP_len _) (rdP_len _) W)
  rw [patEq_self] at HE2
  have HBK : Hid ((rd s.data.toList).2 = 0 → ∀ W, Calls Try.prog 8 #[.string (str (swsF (rdP s.data.toList)))] W fun e w' => e = .returned (.tuple #[.agg (patC (rdP s.data.toList)), .int .i64 0]) ∧ Below W.heap.size W w') := fun h0 W => by
    have := read_any (str (swsF (rdP s.data.toList))) W
    have e : rd (swsF (rdP s.data.toList)) = ((rd s.data.toList).1.map (fun p => shw (adm p)), 0) := by rw [rdP, swsF_sws]; exact rd_back h0
    rw [str_list, rdV, e, back_adm] at this
    exact this
  have hse := shows_eq s.data.toList t.data.toList
  have hX := sz_pat s.data.toList
  have hY := sz_pat t.data.toList
  have hstX := fun W => store_new W _ hX (patC_one _)
  have hstY := fun W => store_new W _ hY (patC_one _)
  have hz := zero_pat
  generalize patEq (rdP s.data.toList) (rdP t.data.toList) = BE at *
  generalize str (swsF (rdP s.data.toList)) = TX at *
  generalize str (swsF (rdP t.data.toList)) = TY at *
  generalize patC (rdP s.data.toList) = X at *
  generalize patC (rdP t.data.toList) = Y at *
  generalize patC [] = Z at *
  generalize (rd s.data.toList).2 = E1 at *
  generalize (rd t.data.toList).2 = E2 at *
  go_enter Try.func7, Try.ntmps7
  go_wp2_with fail
  refine (wakes_any _).mono ?_
  rintro e w1 ⟨rfl, hb1⟩
  have HB1 := hide hb1
  clear hb1
  go_wp2_with fail
  refine (unhide HRS _).mono ?_
  rintro e w2 ⟨rfl, hb2⟩
  have HB2 := hide ((unhide HB1).trans (hb2.mono (unhide HB1).size))
  clear hb2 HB1
  go_wp2_with fail
  refine (unhide HRT _).mono ?_
  rintro e w3 ⟨rfl, hb3⟩
  have HGX4 := hide (heap_two (o := .cells Y 27) (keep_pat (heap_alloc_last w2 (.cells X 27)) hb3))
  have HGY4 := hide (heap_alloc_last w3 (.cells Y 27))
  have HB4 : Hid (Below w.heap.size w (w3.alloc (.cells Y 27))) := hide (by have b := step2 (unhide HB2) hb3; exact b.alloc b.size _)
  clear hb3 HB2
  have hldX := ldP_row (unhide HGX4) hX
  have hne : (BE != BE) = false := by simp
  have htt : (TX.toList == TX.toList) = true := by simp
  go_wp2
  generalize w3.alloc (.cells Y 27) = V0 at *
  refine wp_region_below (by kernel_rfl) (by kernel_rfl) ?_
  go_big_quiet_want
  refine quiet_ld _ rfl w2.heap.size rfl X hX (fun W hW => keep_pat (unhide HGX4) hW) ?_
  go_simp
  go_big_quiet_on
  go_big_quiet_want
  go_big_quiet_op
  apply Exists.intro
  refine ⟨fun W hW => calls_keep (unhide HSX W) hW, ?_⟩
  go_big_quiet_on
  go_big_quiet_want
  refine quiet_ld _ rfl w3.heap.size rfl Y hY (fun W hW => keep_pat (unhide HGY4) hW) ?_
  go_simp
  go_big_quiet_on
  go_big_quiet_want
  go_big_quiet_op
  apply Exists.intro
  refine ⟨fun W hW => calls_keep (unhide HSY W) hW, ?_⟩
  go_big_quiet_on
  go_big_quiet_want
  go_big_quiet_op
  first | go_big_quiet_on | (refine ⟨_, fun W hW => rfl, ?_⟩; go_big_quiet_on)
  go_big_quiet_want
  refine quiet_ld _ rfl w2.heap.size rfl X hX (fun W hW => keep_pat (unhide HGX4) hW) ?_
  go_simp
  go_big_quiet_on
  go_big_quiet_want
  refine quiet_ld _ rfl w3.heap.size rfl Y hY (fun W hW => keep_pat (unhide HGY4) hW) ?_
  go_simp
  go_big_quiet_on
  go_big_quiet_want
  go_big_quiet_op
  apply Exists.intro
  refine ⟨fun W hW => calls_keep (unhide HE1 W) hW, ?_⟩
  go_big_quiet_on
  go_big_quiet_want
  go_big_quiet_op
  first | go_big_quiet_on | (refine ⟨_, fun W hW => rfl, ?_⟩; go_big_quiet_on)
  refine wpQuiet_nil ?_
  intro V1 hV1
  have HGX6 := hide (keep_pat (unhide HGX4) hV1)
  have HB6 := hide ((unhide HB4).trans (hV1.mono (unhide HB4).size))
  clear HGX4 HGY4 HB4 hldX hV1
  have hldX := ldP_row (unhide HGX6) hX
  by_cases h1 : E1 = 0
  · by_cases h2 : E2 = 0
    · have HBR := hide (unhide HBK h1)
      have h1z : (E1 : Int) = 0 := by omega
      have h2z : (E2 : Int) = 0 := by omega
      clear h1 h2
      go_wp2_with fail
      refine (unhide HSX _).mono ?_
      rintro e w8 ⟨rfl, hb8⟩
      have HGX8 := hide (keep_pat (unhide HGX6) hb8)
      have HB8 := hide ((unhide HB6).trans (hb8.mono (unhide HB6).size))
      clear hb8 hldX HGX6 HB6
      go_wp2_with fail
      refine (unhide HBR _).mono ?_
      rintro e wb ⟨rfl, hbb⟩
      have HGX9 := hide (heap_two (o := .cells X 27) (keep_pat (unhide HGX8) hbb))
      have HGB9 := hide (heap_alloc_last wb (.cells X 27))
      have HB9 : Hid (Below w.heap.size w (wb.alloc (.cells X 27))) := hide (by have b := (unhide HB8).trans (hbb.mono (unhide HB8).size); exact b.alloc b.size _)
      clear hbb HGX8 HB8
      go_wp2
      generalize wb.alloc (.cells X 27) = V3 at *
      refine wp_region_below (by kernel_rfl) (by kernel_rfl) ?_
      go_big_quiet_want
      go_big_quiet_op
      go_big_quiet_on
      go_big_quiet_want
      go_big_quiet_op
      first | go_big_quiet_on | (refine ⟨_, fun W hW => rfl, ?_⟩; go_big_quiet_on)
      go_big_quiet_want
      go_big_quiet_op
      go_big_quiet_on
      go_big_quiet_want
      refine quiet_ld _ rfl wb.heap.size rfl X hX (fun W hW => keep_pat (unhide HGB9) hW) ?_
      go_simp
      go_big_quiet_on
      go_big_quiet_want
      refine quiet_ld _ rfl w2.heap.size rfl X hX (fun W hW => keep_pat (unhide HGX9) hW) ?_
      go_simp
      go_big_quiet_on
      go_big_quiet_want
      go_big_quiet_op
      apply Exists.intro
      refine ⟨fun W hW => calls_keep (unhide HE2 W) hW, ?_⟩
      go_big_quiet_on
      go_big_quiet_want
      go_big_quiet_op
      first | go_big_quiet_on | (refine ⟨_, fun W hW => rfl, ?_⟩; go_big_quiet_on)
      go_big_quiet_want
      go_big_quiet_op
      go_big_quiet_on
      go_big_quiet_want
      refine quiet_ld _ rfl wb.heap.size rfl X hX (fun W hW => keep_pat (unhide HGB9) hW) ?_
      go_simp
      go_big_quiet_on
      go_big_quiet_want
      go_big_quiet_op
      apply Exists.intro
      refine ⟨fun W hW => calls_keep (unhide HSX W) hW, ?_⟩
      go_big_quiet_on
      go_big_quiet_want
      refine quiet_ld _ rfl w2.heap.size rfl X hX (fun W hW => keep_pat (unhide HGX9) hW) ?_
      go_simp
      go_big_quiet_on
      go_big_quiet_want
      go_big_quiet_op
      apply Exists.intro
      refine ⟨fun W hW => calls_keep (unhide HSX W) hW, ?_⟩
      go_big_quiet_on
      go_big_quiet_want
      go_big_quiet_op
      first | go_big_quiet_on | (refine ⟨_, fun W hW => rfl, ?_⟩; go_big_quiet_on)
      go_big_quiet_want
      go_big_quiet_op
      first | go_big_quiet_on | (refine ⟨_, fun W hW => rfl, ?_⟩; go_big_quiet_on)
      go_big_quiet_want
      go_big_quiet_op
      go_big_quiet_on
      refine wpQuiet_nil ?_
      intro V2 hV2
      go_wp2
      go_ret
      exact ⟨rfl, (unhide HB9).trans (hV2.mono (unhide HB9).size)⟩
    · have h1z : (E1 : Int) = 0 := by omega
      have h2z : ¬ (E2 : Int) = 0 := by omega
      go_wp2
      go_ret
      exact ⟨rfl, unhide HB6⟩
  · have h1z : ¬ (E1 : Int) = 0 := by omega
    go_wp2
    go_ret
    exact ⟨rfl, unhide HB6⟩

set_option maxRecDepth 100000 in
theorem contract (H : Type) (enc : TypeId × Value → H) (W : World) (base : Nat) (args : Array Value) (ds gs : List (DataW H)) (before : List MemPlace)
    (hval : ∀ (j : Nat) t v, Try.f7.params[j]? = some t → args[j]? = some v → Value.okWide Try.prog W .any base t v)
    (hW : DataW.Whole enc Try.prog Try.f7.params.toList Rows.condBackSpec.vars false W args.toList ds gs before) :
    Calls Try.prog 7 args W fun e W' => ∃ v, e = .returned v ∧ Rows.condBackSpec.post enc Try.prog Try.f7 false true false false W args v W' := by
  have hW' := hW
  obtain ⟨p, q, hA0, hV, rfl, hfz, hnd⟩ := hW
  have hA : DataW.TrodAll enc Try.prog W 0 (fun _ => true) true Try.f7.params.toList args.toList ds p := hA0
  rw [Try.params7] at hA hval
  obtain ⟨v0, vs0, d0, ds0, p0, q0, hargs, rfl, rfl, h0, r0⟩ := trodAll_cons hA
  obtain ⟨v1, vs1, d1, ds1, p1, q1, rfl, rfl, rfl, h1, r1⟩ := trodAll_cons r0
  obtain ⟨rfl, rfl, rfl⟩ := trodAll_nil r1
  obtain rfl : args = #[v0, v1] := by cases args; simp_all
  obtain ⟨rfl, rfl⟩ := trodVars_none hV
  obtain ⟨s, rfl, rfl, rfl, hs_s⟩ := open_string Try.underlying9 (hval 0 9 v0 rfl rfl) h0
  obtain ⟨t, rfl, rfl, rfl, hs_t⟩ := open_string Try.underlying9 (hval 1 9 v1 rfl rfl) h1
  clear hA0
  simp only [List.append_nil] at hW'
  refine (walk s t W).mono fun e W' ⟨he, bel⟩ => ?_
  subst he
  exact ⟨_, rfl, _, _, _, [], [], [], hW', trodAll_mk1 (shut_bool Try.underlying4 _), (trodAll_cons_mk (shut_string Try.underlying9 hs_s) (trodAll_cons_mk (shut_string Try.underlying9 hs_t) trodAll_mk0)), rfl, bel.frame _, fun h => by cases h⟩

theorem laid_met (os : Os) : laidMet Try.prog Rows.condBackRow.laid ((World.holding Try.prog os ⟨#[], #[], []⟩).forCall (fun _ _ => 0) ⟨#[], #[.string ByteArray.empty, .string ByteArray.empty], []⟩).memory :=
  laidMet_of_run' 8 (by kernel_rfl) (by kernel_rfl)
theorem reads (os : Os) {H : Type} (enc : TypeId × Value → H) : ∃ places, DataW.whole enc Try.prog ((World.holding Try.prog os ⟨#[], #[], []⟩).forCall (fun _ _ => 0) ⟨#[], #[.string ByteArray.empty, .string ByteArray.empty], []⟩).memory Try.f7.params.toList Rows.condBackSpec.vars false #[Value.string ByteArray.empty, Value.string ByteArray.empty].toList 8 = some ([.lit (.string []), .lit (.string [])], [], places) :=
  ⟨[], by kernel_rfl⟩

set_option maxRecDepth 100000 in
theorem lifted (os : Os) (started : os.Started) (H : Type) (enc : TypeId × Value → H) (F : Stop.Interp) :
    ReturnsInHanded {} Try.checked os 7 .any ((OpenSpec.ofChange Rows.condBackSpec).preRow enc Try.prog Try.f7 Rows.condBackRow.domain false Rows.condBackRow.laid) (((OpenSpec.ofChange Rows.condBackSpec).at F).post enc Try.prog Try.f7 false true false false) := by
  obtain ⟨places, hx⟩ := reads os enc
  refine returnsInHanded_of_row (C := Try.checked) (s := OpenSpec.ofChange Rows.condBackSpec) own started (by kernel_rfl) Try.func7
    (witness_row_at (enc := enc) (C := Try.checked) false ((World.holding Try.prog os ⟨#[], #[], []⟩)) #[.string ByteArray.empty, .string ByteArray.empty] rfl (by kernel_rfl) (by kernel_rfl) (by kernel_rfl)
      (OpenSpec.preRow_of_cond 8 hx (by kernel_rfl) (fun k hk => by cases hk) (by kernel_rfl) (laid_met os))) ?_
  intro W base args ds gs before hval hW _ _ _ _ _ _
  exact contract H enc W base args ds gs before hval hW 

theorem said : Rows.CondBackSaid :=
  OpenClaim.holds_of_cond 7 Try.f7 rfl rfl rfl rfl rfl rfl rfl ⟨rfl, rfl, rfl, rfl, rfl⟩ rfl rfl rfl rfl rfl (by kernel_rfl) Try.func7 (by kernel_rfl)
    (of_decide_eq_true (by kernel_rfl)) (by unfold Func.isWrapper; first | (rw [if_pos (by decide +kernel)]; kernel_rfl) | (rw [if_neg (by decide +kernel)]; exact ⟨rfl, rfl⟩))
    (fun os started H enc _ F => by rw [OpenClaim.pre_eq_preRow]; exact lifted os started H enc F)

end Go.Proofs.Ytgaagbjbolfbjaa.condBack
namespace Go.Proofs.Ytgaagbjbolfbjaa
theorem condBack_holds : Rows.CondBackSaid := condBack.said
end Go.Proofs.Ytgaagbjbolfbjaa
