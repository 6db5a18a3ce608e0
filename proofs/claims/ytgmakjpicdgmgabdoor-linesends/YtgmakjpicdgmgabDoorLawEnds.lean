/- LinesEnds of layer 1 returns true for every list of texts and of bools: of a text made of lines, each ended by a line feed, some with a carriage return ahead of it, marked or not, lines.Split gives the lines. The package tables are laid as the program's text lays them (the card's tie). -/
import Derived.Test.YtgmakjpicdgmgabDoorEndsW
import Derived.Test.YtgmakjpicdgmgabDoorLaid
import Derived.Test.YtgmakjpicdgmgabDoorCards
import Derived.Test.YtgmakjpicdgmgabDoorTie
import Derived.ProofKit
import Derived.OpenShut
import Derived.Deep.DeepHandedRow
import Derived.Lib.LaidTab
namespace Go.Proofs.YtgmakjpicdgmgabDoor.linesEnds
open Go.ChangeShapes Go.WideShapes Go.ChangeAt Go.RowKit
open Go.ChangeMaps (open_string shut_string)


set_option maxRecDepth 100000 in
theorem contract (H : Type) (enc : TypeId × Value → H) (W : World) (base : Nat) (args : Array Value) (ds gs : List (DataW H)) (before : List MemPlace)
    (hval : ∀ (j : Nat) t v, Tryd.f6.params[j]? = some t → args[j]? = some v → Value.okWide Tryd.prog W .any base t v)
    (hW : DataW.Whole enc Tryd.prog Tryd.f6.params.toList Rows.linesEndsSpec.vars false W args.toList ds gs before)
    (hsz : (DataW.weightsEach Tryd.prog (Tryd.f6.params.toList ++ Rows.linesEndsSpec.plain.varTypes Tryd.prog) (ds ++ gs)).all (· ≤ reachBytes) = true)
    (hsh : W.ShapedOpen Tryd.prog) :
    Calls Tryd.prog 6 args W fun e W' => ∃ v, e = .returned v ∧ Rows.linesEndsSpec.post enc Tryd.prog Tryd.f6 false true false false W args v W' := by
  have hW' := hW
  obtain ⟨p, q, hA0, hV, rfl, hfz, hnd⟩ := hW
  have hA : DataW.TrodAll enc Tryd.prog W 0 (fun _ => true) true Tryd.f6.params.toList args.toList ds p := hA0
  rw [Tryd.params6] at hA hval hsz
  obtain ⟨v0, vs0, d0, ds0, p0, q0, hargs, rfl, rfl, h0, r0⟩ := trodAll_cons hA
  obtain ⟨v1, vs1, d1, ds1, p1, q1, rfl, rfl, rfl, h1, r1⟩ := trodAll_cons r0
  obtain ⟨rfl, rfl, rfl⟩ := trodAll_nil r1
  obtain rfl : args = #[v0, v1] := by cases args; simp_all
  obtain ⟨rfl, rfl⟩ := trodVars_none hV
  obtain ⟨a_L, len_L, cap_L, rfl⟩ := okWide_slice Tryd.underlying38 (hval 0 38 v0 rfl rfl)
  have k_L := h0
  have lt_L : ∀ y ∈ p0, y.block < W.heap.size := by obtain ⟨m, hm⟩ := k_L; exact DataW.trod_lt m _ _ _ hm
  obtain ⟨L, S_L, arg_L, dat_L⟩ := ArgB.open_arg Value.string ArgB.datS Tryd.underlying38 (by kernel_rfl) (ArgB.el_string Tryd.underlying9) h0
  obtain ⟨a_Q, len_Q, cap_Q, rfl⟩ := okWide_slice Tryd.underlying43 (hval 1 43 v1 rfl rfl)
  have k_Q := h1
  have lt_Q : ∀ y ∈ p1, y.block < W.heap.size := by obtain ⟨m, hm⟩ := k_Q; exact DataW.trod_lt m _ _ _ hm
  obtain ⟨Q, S_Q, arg_Q, dat_Q⟩ := ArgB.open_arg Value.bool ArgB.datB Tryd.underlying43 (by kernel_rfl) (ArgB.el_bool Tryd.underlying4) h1
  clear hA0
  simp only [List.append_nil] at hW'
  have hsL : ∀ x ∈ L, x.size ≤ 140737488351232 := by
    rcases dat_L with ⟨_, rfl⟩ | hd
    · intro x hx
      simp at hx
    · exact ArgB.sized_strs hsz (j := 0) rfl (by rw [hd]; rfl) Tryd.underlying38
  have hM := EachW.maxIs_of hsh
  have hg0 : 1 < W.heap.size := by
    obtain ⟨m, hm⟩ := hM
    exact World.block_lt_of_cell? W ⟨1, 0, none⟩ hm
  refine (EndsW.walk _ _ L Q W arg_L arg_Q hsL hM hg0).mono fun e W' ⟨he, bel⟩ => ?_
  subst he
  exact ⟨_, rfl, _, _, _, [], _, [], hW', trodAll_mk1 (shut_bool Tryd.underlying4 _), (trodAll_cons_mk (Below.trod ArgB.laidOut (by kernel_rfl) (of_decide_eq_true (by kernel_rfl)) k_L bel lt_L) (trodAll_cons_mk (Below.trod ArgB.laidOut (by kernel_rfl) (of_decide_eq_true (by kernel_rfl)) k_Q bel lt_Q) trodAll_mk0)), rfl, bel.frame _, fun h => by cases h⟩

theorem laid_met (os : Os) : laidMet Tryd.prog Rows.linesEndsRow.laid ((Laid.tabs (World.holding Tryd.prog os ⟨#[], #[], []⟩)).forCall (fun _ _ => 0) ⟨#[], #[.slice none 0 0, .slice none 0 0], []⟩).memory :=
  laidMet_of_run' 8 (by kernel_rfl) (by kernel_rfl)
theorem reads (os : Os) {H : Type} (enc : TypeId × Value → H) : ∃ places, DataW.whole enc Tryd.prog ((Laid.tabs (World.holding Tryd.prog os ⟨#[], #[], []⟩)).forCall (fun _ _ => 0) ⟨#[], #[.slice none 0 0, .slice none 0 0], []⟩).memory Tryd.f6.params.toList Rows.linesEndsSpec.vars false #[Value.slice none 0 0, Value.slice none 0 0].toList 8 = some ([.nil, .nil], [], places) :=
  ⟨[], by kernel_rfl⟩

set_option maxRecDepth 100000 in
theorem lifted (os : Os) (started : os.Started) (H : Type) (enc : TypeId × Value → H) (F : Stop.Interp) :
    ReturnsInHanded {} Tryd.checked os 6 .any ((OpenSpec.ofChange Rows.linesEndsSpec).preRow enc Tryd.prog Tryd.f6 Rows.linesEndsRow.domain false Rows.linesEndsRow.laid) (((OpenSpec.ofChange Rows.linesEndsSpec).at F).post enc Tryd.prog Tryd.f6 false true false false) := by
  obtain ⟨places, hx⟩ := reads os enc
  refine returnsInHanded_of_row (C := Tryd.checked) (s := OpenSpec.ofChange Rows.linesEndsSpec) Laid.own started (by kernel_rfl) Tryd.func6
    (witness_row_at (enc := enc) (C := Tryd.checked) false (Laid.tabs (World.holding Tryd.prog os ⟨#[], #[], []⟩)) #[.slice none 0 0, .slice none 0 0] rfl (by kernel_rfl) (by kernel_rfl) (by kernel_rfl)
      (OpenSpec.preRow_of_cond 8 hx (by kernel_rfl) (fun k hk => by cases hk) (by kernel_rfl) (laid_met os))) ?_
  intro W base args ds gs before hval hW _ _ hsz _ hsh _
  exact contract H enc W base args ds gs before hval hW hsz hsh

theorem said : Rows.LinesEndsSaid :=
  OpenClaim.holds_of_cond 6 Tryd.f6 rfl rfl rfl rfl rfl rfl rfl ⟨rfl, rfl, rfl, rfl, rfl⟩ rfl rfl rfl rfl rfl (by kernel_rfl) Tryd.func6 (by kernel_rfl)
    (of_decide_eq_true (by kernel_rfl)) (by unfold Func.isWrapper; first | (rw [if_pos (by decide +kernel)]; kernel_rfl) | (rw [if_neg (by decide +kernel)]; exact ⟨rfl, rfl⟩))
    (fun os started H enc _ F => by rw [OpenClaim.pre_eq_preRow]; exact lifted os started H enc F)

theorem plain (f : FuncId) (fn : Func) (hf : Tryd.pinned.checked.prog.funcNamed "hornbook/hornbooklaw01.LinesEnds" = some f) (hfn : Tryd.pinned.checked.prog.funcs[f]? = some fn) :
    false = Tryd.pinned.checked.prog.looks [] ∧ ∀ (j : Nat) t, fn.params[j]? = some t → Tryd.pinned.checked.prog.wantsStandIn t = false := by
  obtain rfl : f = 6 := Option.some.inj ((show Tryd.prog.funcNamed "hornbook/hornbooklaw01.LinesEnds" = some 6 by kernel_rfl).symm.trans hf) |>.symm
  obtain rfl : fn = Tryd.f6 := (Option.some.inj (Tryd.func6.symm.trans hfn)).symm
  refine ⟨by kernel_rfl, fun j t ht => ?_⟩
  rw [Tryd.params6] at ht
  have ht2 : t = 38 ∨ t = 43 := by simpa using Array.mem_of_getElem? ht
  rcases ht2 with rfl | rfl
  · exact (show Tryd.prog.wantsStandIn 38 = false by kernel_rfl)
  · exact (show Tryd.prog.wantsStandIn 43 = false by kernel_rfl)

theorem card : Rows.LinesEndsCardSaid :=
  Claim7.holds_tied_plain_at .later [] _ _ _ _ said (fun _ h => by cases h) (by kernel_rfl) (fun _ h => by cases h) linesEnds_row_tie rfl ⟨rfl, rfl⟩ (by kernel_rfl) rfl plain (by kernel_rfl)
end Go.Proofs.YtgmakjpicdgmgabDoor.linesEnds
namespace Go.Proofs.YtgmakjpicdgmgabDoor
theorem linesEnds_holds : Rows.LinesEndsCardSaid := linesEnds.card
end Go.Proofs.YtgmakjpicdgmgabDoor
