/- FlagsKeeps of layer 3 returns true for every two lists of flags (in all of bulk at most 1048576): sets are new memory, and what was handed in is not written into. The package tables are laid as the program's text lays them (the card's tie). -/
import Derived.Test.YtgaagbjbolfbjaaDoorKeW
import Derived.Test.YtgaagbjbolfbjaaDoorArgF
import Derived.Test.YtgaagbjbolfbjaaDoorShPm
import Derived.Test.YtgaagbjbolfbjaaDoorLaidF
import Derived.Test.YtgaagbjbolfbjaaDoorCards
import Derived.Test.YtgaagbjbolfbjaaDoorTie
import Derived.ProofKit
import Derived.OpenShut
import Derived.Deep.DeepHandedRow
import Derived.Lib.LaidTab
namespace Go.Proofs.YtgaagbjbolfbjaaDoor.flagsKeeps
open Go.ChangeShapes Go.WideShapes Go.ChangeAt Go.RowKit
open Go.ChangeMaps (open_string shut_string)


set_option maxRecDepth 100000 in
theorem contract (H : Type) (enc : TypeId × Value → H) (W : World) (base : Nat) (args : Array Value) (ds gs : List (DataW H)) (before : List MemPlace)
    (hval : ∀ (j : Nat) t v, Tryd.f3.params[j]? = some t → args[j]? = some v → Value.okWide Tryd.prog W .any base t v)
    (hW : DataW.Whole enc Tryd.prog Tryd.f3.params.toList Rows.flagsKeepsSpec.vars false W args.toList ds gs before)
    (hcond : Rows.uptoSmall H (ds ++ gs) = true)
    (hsh : W.ShapedOpen Tryd.prog) :
    Calls Tryd.prog 3 args W fun e W' => ∃ v, e = .returned v ∧ Rows.flagsKeepsSpec.post enc Tryd.prog Tryd.f3 false true false false W args v W' := by
  have hW' := hW
  obtain ⟨p, q, hA0, hV, rfl, hfz, hnd⟩ := hW
  have hA : DataW.TrodAll enc Tryd.prog W 0 (fun _ => true) true Tryd.f3.params.toList args.toList ds p := hA0
  rw [Tryd.params3] at hA hval
  obtain ⟨v0, vs0, d0, ds0, p0, q0, hargs, rfl, rfl, h0, r0⟩ := trodAll_cons hA
  obtain ⟨v1, vs1, d1, ds1, p1, q1, rfl, rfl, rfl, h1, r1⟩ := trodAll_cons r0
  obtain ⟨rfl, rfl, rfl⟩ := trodAll_nil r1
  obtain rfl : args = #[v0, v1] := by cases args; simp_all
  obtain ⟨rfl, rfl⟩ := trodVars_none hV
  obtain ⟨a_S, len_S, cap_S, rfl⟩ := okWide_slice Tryd.underlying22 (hval 0 22 v0 rfl rfl)
  have k_S := h0
  have lt_S : ∀ y ∈ p0, y.block < W.heap.size := by obtain ⟨m, hm⟩ := k_S; exact DataW.trod_lt m _ _ _ hm
  obtain ⟨fu_S, hfu_S⟩ := h0
  obtain ⟨S, S_S, arg_S, bnd_S, dat_S⟩ := ArgF.open_flags (fuel := fu_S) hfu_S
  obtain ⟨a_F, len_F, cap_F, rfl⟩ := okWide_slice Tryd.underlying22 (hval 1 22 v1 rfl rfl)
  have k_F := h1
  have lt_F : ∀ y ∈ p1, y.block < W.heap.size := by obtain ⟨m, hm⟩ := k_F; exact DataW.trod_lt m _ _ _ hm
  obtain ⟨fu_F, hfu_F⟩ := h1
  obtain ⟨F, S_F, arg_F, bnd_F, dat_F⟩ := ArgF.open_flags (fuel := fu_F) hfu_F
  clear hA0
  simp only [List.append_nil] at hW'
  simp only [List.append_nil] at hcond
  have hbk := of_decide_eq_true hcond
  simp only [Rows.uptoBulkAll] at hbk
  have hb_S := ArgF.bulk_arg dat_S
  have hb_F := ArgF.bulk_arg dat_F
  have hM : So.MaxIs W := Tryd.laysM146.s1_3 W hsh
  refine (So.Keep.walk _ _ S F W arg_S arg_F bnd_S bnd_F (by omega) hM).mono fun e W' ⟨he, bel⟩ => ?_
  subst he
  exact ⟨_, rfl, _, _, _, [], _, [], hW', trodAll_mk1 (shut_bool Tryd.underlying4 _), (trodAll_cons_mk (Below.trod ArgF.laidOut (by kernel_rfl) (of_decide_eq_true (by kernel_rfl)) k_S bel lt_S) (trodAll_cons_mk (Below.trod ArgF.laidOut (by kernel_rfl) (of_decide_eq_true (by kernel_rfl)) k_F bel lt_F) trodAll_mk0)), rfl, bel.frame _, fun h => by cases h⟩

theorem laid_met (os : Os) : laidMet Tryd.prog Rows.flagsKeepsUptoRow.laid ((LaidF.tabs (World.holding Tryd.prog os ⟨#[], #[], []⟩)).forCall (fun _ _ => 0) ⟨#[], #[.slice none 0 0, .slice none 0 0], []⟩).memory :=
  laidMet_of_run' 8 (by kernel_rfl) (by kernel_rfl)
theorem reads (os : Os) {H : Type} (enc : TypeId × Value → H) : ∃ places, DataW.whole enc Tryd.prog ((LaidF.tabs (World.holding Tryd.prog os ⟨#[], #[], []⟩)).forCall (fun _ _ => 0) ⟨#[], #[.slice none 0 0, .slice none 0 0], []⟩).memory Tryd.f3.params.toList Rows.flagsKeepsSpec.vars false #[Value.slice none 0 0, Value.slice none 0 0].toList 8 = some ([.nil, .nil], [], places) :=
  ⟨[], by kernel_rfl⟩

set_option maxRecDepth 100000 in
theorem lifted (os : Os) (started : os.Started) (H : Type) (enc : TypeId × Value → H) (F : Stop.Interp) :
    ReturnsInHanded {} Tryd.checked os 3 .any ((Rows.OpenSpec.upto Rows.flagsKeepsSpec).preRow enc Tryd.prog Tryd.f3 Rows.flagsKeepsUptoRow.domain false Rows.flagsKeepsUptoRow.laid) (((Rows.OpenSpec.upto Rows.flagsKeepsSpec).at F).post enc Tryd.prog Tryd.f3 false true false false) := by
  obtain ⟨places, hx⟩ := reads os enc
  refine returnsInHanded_of_row (C := Tryd.checked) (s := Rows.OpenSpec.upto Rows.flagsKeepsSpec) LaidF.own started (by kernel_rfl) Tryd.func3
    (witness_row_at (enc := enc) (C := Tryd.checked) false (LaidF.tabs (World.holding Tryd.prog os ⟨#[], #[], []⟩)) #[.slice none 0 0, .slice none 0 0] rfl (by kernel_rfl) (by kernel_rfl) (by kernel_rfl)
      (OpenSpec.preRow_of_cond 8 hx (by kernel_rfl) (fun k hk => by cases hk; kernel_rfl) (by kernel_rfl) (laid_met os))) ?_
  intro W base args ds gs before hval hW _ hcond _ _ hsh _
  exact contract H enc W base args ds gs before hval hW (hcond _ rfl) hsh

theorem said : Rows.FlagsKeepsUptoSaid :=
  OpenClaim.holds_of_cond 3 Tryd.f3 rfl rfl rfl rfl rfl rfl rfl ⟨rfl, rfl, rfl, rfl, rfl⟩ rfl rfl rfl rfl rfl (by kernel_rfl) Tryd.func3 (by kernel_rfl)
    (of_decide_eq_true (by kernel_rfl)) (by unfold Func.isWrapper; first | (rw [if_pos (by decide +kernel)]; kernel_rfl) | (rw [if_neg (by decide +kernel)]; exact ⟨rfl, rfl⟩))
    (fun os started H enc _ F => by rw [OpenClaim.pre_eq_preRow]; exact lifted os started H enc F)

theorem plain (f : FuncId) (fn : Func) (hf : Tryd.pinned.checked.prog.funcNamed "hornbook/hornbooklaw03.FlagsKeeps" = some f) (hfn : Tryd.pinned.checked.prog.funcs[f]? = some fn) :
    false = Tryd.pinned.checked.prog.looks [] ∧ ∀ (j : Nat) t, fn.params[j]? = some t → Tryd.pinned.checked.prog.wantsStandIn t = false := by
  obtain rfl : f = 3 := Option.some.inj ((show Tryd.prog.funcNamed "hornbook/hornbooklaw03.FlagsKeeps" = some 3 by kernel_rfl).symm.trans hf) |>.symm
  obtain rfl : fn = Tryd.f3 := (Option.some.inj (Tryd.func3.symm.trans hfn)).symm
  refine ⟨by kernel_rfl, fun j t ht => ?_⟩
  rw [Tryd.params3] at ht
  obtain rfl : t = 22 := by simpa using Array.mem_of_getElem? ht
  exact (show Tryd.prog.wantsStandIn 22 = false by kernel_rfl)

theorem card : Rows.FlagsKeepsUptoCardSaid :=
  Claim7.holds_tied_plain_at .later [] _ _ _ _ said (fun _ h => by cases h) (by kernel_rfl) (fun _ h => by cases h) flagsKeepsUpto_row_tie rfl ⟨rfl, rfl⟩ (by kernel_rfl) rfl plain (by kernel_rfl)
end Go.Proofs.YtgaagbjbolfbjaaDoor.flagsKeeps
namespace Go.Proofs.YtgaagbjbolfbjaaDoor
theorem flagsKeeps_holds : Rows.FlagsKeepsUptoCardSaid := flagsKeeps.card
end Go.Proofs.YtgaagbjbolfbjaaDoor
