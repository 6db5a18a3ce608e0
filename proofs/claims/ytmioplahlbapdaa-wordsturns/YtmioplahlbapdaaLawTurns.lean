/- WordsTurns of layer 2 returns true for every two texts: words.Reverse answers the bytes from the last to the first, as the document's own Reverse does; turned twice a text is itself, and the turned ends come first. -/
import Derived.Test.YtmioplahlbapdaaRvW
import Derived.Test.YtmioplahlbapdaaRows
import Derived.WalkKit
import Derived.ProofKit
import Derived.OpenShut
import Derived.Deep.DeepHandedRow
import Derived.Lib.LaidTab
namespace Go.Proofs.Ytmioplahlbapdaa.wordsTurns
open Go.ChangeShapes Go.WideShapes Go.ChangeAt Go.RowKit
open Go.ChangeMaps (open_string shut_string)

theorem own : ownKnob Try.prog.godebug = none := by kernel_rfl

theorem reach {s : ByteArray} (h : s.data.toList.length ≤ reachBytes) : s.size ≤ 140737488355328 := by
  have e : s.data.toList.length = s.size := by simp
  unfold reachBytes at h
  omega
theorem rev_app (a b : ByteArray) : Wd.str (a ++ b).data.toList.reverse = Wd.str b.data.toList.reverse ++ Wd.str a.data.toList.reverse := by
  apply ByteArray.ext
  apply Array.ext'
  simp [Wd.str, ByteArray.data_append]
theorem rev_rev (a : ByteArray) : Wd.str (Wd.str a.data.toList.reverse).data.toList.reverse = a := by
  rw [Wd.str_list, List.reverse_reverse, Wd.str_self]
theorem rev_size (a : ByteArray) : (Wd.str a.data.toList.reverse).size = a.size := by
  rw [Wd.str_size, List.length_reverse]; simp
set_option maxHeartbeats 1000000 in
theorem walk (a b : ByteArray) (w : World) (ha : a.size ≤ 140737488355328) (hb : b.size ≤ 140737488355328) :
    Calls Try.prog 7 #[.string a, .string b] w fun e w' => e = .returned (.bool true) ∧ Below w.heap.size w w' := by
  have HK : Hid (∀ W, Calls Try.prog 18 #[.string ⟨#[97, 98, 99]⟩] W fun e w' => e = .returned (.string ⟨#[99, 98, 97]⟩) ∧ Below W.heap.size W w') := fun W => RvW.rev_any ⟨#[97, 98, 99]⟩ W (by decide)
  have hA := fun W => RvW.rev_any a W (by unfold maxLen; omega)
  have hB := fun W => RvW.rev_any b W (by unfold maxLen; omega)
  have hR := fun W => RvW.ref_any a W ha
  have hD := fun W => RvW.rev_any (Wd.str a.data.toList.reverse) W (by unfold maxLen; rw [rev_size]; omega)
  rw [rev_rev] at hD
  have hC := fun W => RvW.rev_any (a ++ b) W (by unfold maxLen; rw [ByteArray.size_append]; omega)
  rw [rev_app] at hC
  have hadd1 : ∀ Wq : World, (Op.stringOp .add a b).run Try.prog Wq = .ok (.string (a ++ b)) Wq := fun Wq => run_string_add_sum _ _ _ (by omega)
  have hadd2 : ∀ Wq : World, (Op.stringOp .add (Wd.str b.data.toList.reverse) (Wd.str a.data.toList.reverse)).run Try.prog Wq = .ok (.string (Wd.str b.data.toList.reverse ++ Wd.str a.data.toList.reverse)) Wq := fun Wq => run_string_add_sum _ _ _ (by rw [rev_size, rev_size]; omega)
  have HA := Bts.hide hA
  have HB := Bts.hide hB
  have HR := Bts.hide hR
  have HD := Bts.hide hD
  have HC := Bts.hide hC
  clear hA hB hR hD hC ha hb
  generalize Wd.str b.data.toList.reverse ++ Wd.str a.data.toList.reverse = d at *
  generalize Wd.str b.data.toList.reverse = rb at *
  generalize Wd.str a.data.toList.reverse = ra at *
  generalize a ++ b = c at *
  go_enter Try.func7, Try.ntmps7
  go_wp2_with fail
  refine (Bts.unhide HK _).mono ?_
  rintro e w1 ⟨rfl, hB1⟩
  have b1 := hB1
  go_wp2_with fail
  refine (Bts.unhide HA _).mono ?_
  rintro e w2 ⟨rfl, hB2⟩
  have b2 := b1.trans (hB2.mono b1.size)
  go_wp2_with fail
  refine (Bts.unhide HR _).mono ?_
  rintro e w3 ⟨rfl, hB3⟩
  have b3 := b2.trans (hB3.mono b2.size)
  go_wp2_with fail
  refine (Bts.unhide HA _).mono ?_
  rintro e w4 ⟨rfl, hB4⟩
  have b4 := b3.trans (hB4.mono b3.size)
  go_wp2_with fail
  refine (Bts.unhide HD _).mono ?_
  rintro e w5 ⟨rfl, hB5⟩
  have b5 := b4.trans (hB5.mono b4.size)
  go_wp2_with fail
  refine (Bts.unhide HC _).mono ?_
  rintro e w6 ⟨rfl, hB6⟩
  have b6 := b5.trans (hB6.mono b5.size)
  go_wp2_with fail
  refine (Bts.unhide HB _).mono ?_
  rintro e w7 ⟨rfl, hB7⟩
  have b7 := b6.trans (hB7.mono b6.size)
  go_wp2_with fail
  refine (Bts.unhide HA _).mono ?_
  rintro e w8 ⟨rfl, hB8⟩
  have b8 := b7.trans (hB8.mono b7.size)
  go_wp2
  go_ret
  exact ⟨by simp, b8⟩

set_option maxRecDepth 100000 in
theorem contract (H : Type) (enc : TypeId × Value → H) (W : World) (base : Nat) (args : Array Value) (ds gs : List (DataW H)) (before : List MemPlace)
    (hval : ∀ (j : Nat) t v, Try.f7.params[j]? = some t → args[j]? = some v → Value.okWide Try.prog W .any base t v)
    (hW : DataW.Whole enc Try.prog Try.f7.params.toList Rows.wordsTurnsSpec.vars false W args.toList ds gs before)
    (hsz : (DataW.weightsEach Try.prog (Try.f7.params.toList ++ Rows.wordsTurnsSpec.plain.varTypes Try.prog) (ds ++ gs)).all (· ≤ reachBytes) = true) :
    Calls Try.prog 7 args W fun e W' => ∃ v, e = .returned v ∧ Rows.wordsTurnsSpec.post enc Try.prog Try.f7 false true false false W args v W' := by
  have hW' := hW
  obtain ⟨p, q, hA0, hV, rfl, hfz, hnd⟩ := hW
  have hA : DataW.TrodAll enc Try.prog W 0 (fun _ => true) true Try.f7.params.toList args.toList ds p := hA0
  rw [Try.params7] at hA hval hsz
  obtain ⟨v0, vs0, d0, ds0, p0, q0, hargs, rfl, rfl, h0, r0⟩ := trodAll_cons hA
  obtain ⟨v1, vs1, d1, ds1, p1, q1, rfl, rfl, rfl, h1, r1⟩ := trodAll_cons r0
  obtain ⟨rfl, rfl, rfl⟩ := trodAll_nil r1
  obtain rfl : args = #[v0, v1] := by cases args; simp_all
  obtain ⟨rfl, rfl⟩ := trodVars_none hV
  obtain ⟨a, rfl, rfl, rfl, hs_a⟩ := open_string Try.underlying9 (hval 0 9 v0 rfl rfl) h0
  obtain ⟨b, rfl, rfl, rfl, hs_b⟩ := open_string Try.underlying9 (hval 1 9 v1 rfl rfl) h1
  clear hA0
  simp only [List.append_nil] at hW'
  refine (walk a b W (reach (sized_string hsz (j := 0) (t := 9) rfl rfl)) (reach (sized_string hsz (j := 1) (t := 9) rfl rfl))).mono fun e W' ⟨he, bel⟩ => ?_
  subst he
  exact ⟨_, rfl, _, _, _, [], [], [], hW', trodAll_mk1 (shut_bool Try.underlying4 _), (trodAll_cons_mk (shut_string Try.underlying9 hs_a) (trodAll_cons_mk (shut_string Try.underlying9 hs_b) trodAll_mk0)), rfl, bel.frame _, fun h => by cases h⟩

theorem laid_met (os : Os) : laidMet Try.prog Rows.wordsTurnsRow.laid ((World.holding Try.prog os ⟨#[], #[], []⟩).forCall (fun _ _ => 0) ⟨#[], #[.string ByteArray.empty, .string ByteArray.empty], []⟩).memory :=
  laidMet_of_run' 8 (by kernel_rfl) (by kernel_rfl)
theorem reads (os : Os) {H : Type} (enc : TypeId × Value → H) : ∃ places, DataW.whole enc Try.prog ((World.holding Try.prog os ⟨#[], #[], []⟩).forCall (fun _ _ => 0) ⟨#[], #[.string ByteArray.empty, .string ByteArray.empty], []⟩).memory Try.f7.params.toList Rows.wordsTurnsSpec.vars false #[Value.string ByteArray.empty, Value.string ByteArray.empty].toList 8 = some ([.lit (.string []), .lit (.string [])], [], places) :=
  ⟨[], by kernel_rfl⟩

set_option maxRecDepth 100000 in
theorem lifted (os : Os) (started : os.Started) (H : Type) (enc : TypeId × Value → H) (F : Stop.Interp) :
    ReturnsInHanded {} Try.checked os 7 .any ((OpenSpec.ofChange Rows.wordsTurnsSpec).preRow enc Try.prog Try.f7 Rows.wordsTurnsRow.domain false Rows.wordsTurnsRow.laid) (((OpenSpec.ofChange Rows.wordsTurnsSpec).at F).post enc Try.prog Try.f7 false true false false) := by
  obtain ⟨places, hx⟩ := reads os enc
  refine returnsInHanded_of_row (C := Try.checked) (s := OpenSpec.ofChange Rows.wordsTurnsSpec) own started (by kernel_rfl) Try.func7
    (witness_row_at (enc := enc) (C := Try.checked) false ((World.holding Try.prog os ⟨#[], #[], []⟩)) #[.string ByteArray.empty, .string ByteArray.empty] rfl (by kernel_rfl) (by kernel_rfl) (by kernel_rfl)
      (OpenSpec.preRow_of_cond 8 hx (by kernel_rfl) (fun k hk => by cases hk) (by kernel_rfl) (laid_met os))) ?_
  intro W base args ds gs before hval hW _ _ hsz _ _ _
  exact contract H enc W base args ds gs before hval hW hsz

theorem said : Rows.WordsTurnsSaid :=
  OpenClaim.holds_of_cond 7 Try.f7 rfl rfl rfl rfl rfl rfl rfl ⟨rfl, rfl, rfl, rfl, rfl⟩ rfl rfl rfl rfl rfl (by kernel_rfl) Try.func7 (by kernel_rfl)
    (of_decide_eq_true (by kernel_rfl)) (by unfold Func.isWrapper; first | (rw [if_pos (by decide +kernel)]; kernel_rfl) | (rw [if_neg (by decide +kernel)]; exact ⟨rfl, rfl⟩))
    (fun os started H enc _ F => by rw [OpenClaim.pre_eq_preRow]; exact lifted os started H enc F)

end Go.Proofs.Ytmioplahlbapdaa.wordsTurns
namespace Go.Proofs.Ytmioplahlbapdaa
theorem wordsTurns_holds : Rows.WordsTurnsSaid := wordsTurns.said
end Go.Proofs.Ytmioplahlbapdaa
