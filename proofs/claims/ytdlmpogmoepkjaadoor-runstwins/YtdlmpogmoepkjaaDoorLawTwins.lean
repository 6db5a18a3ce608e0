/- RunsTwins of layer 5 returns true for every two scripts: two stores of unlike capacities, played in turns, answer each as the document's own store that is played alone. The listed failures are laid as the program's text lays them (the card's tie). -/
import Derived.Test.YtdlmpogmoepkjaaDoorLnT
import Derived.Test.YtdlmpogmoepkjaaDoorLeB
import Derived.Test.YtdlmpogmoepkjaaDoorLaidE
import Derived.Test.YtdlmpogmoepkjaaDoorCards
import Derived.Test.YtdlmpogmoepkjaaDoorTie
import Derived.ProofKit
import Derived.OpenShut
import Derived.Deep.DeepHandedRow
import Derived.Lib.LaidTab
namespace Go.Proofs.YtdlmpogmoepkjaaDoor.runsTwins
open Go.ChangeShapes Go.WideShapes Go.ChangeAt Go.RowKit
open Go.ChangeMaps (open_string shut_string)

open Rs
theorem walk (v u : Value) (os ps : List (Op5 × Value)) (W : World) (hs : Script W v os) (hp : Script W u ps) (hL : laidMetH Tryd.prog listed W) : Calls Tryd.prog 4 #[v, u] W fun e w' => e = .returned (.bool true) ∧ Below W.heap.size W w' := by
  obtain ⟨E, V⟩ := env_of_laid hL
  exact twins_law V hs hp

set_option maxRecDepth 100000 in
theorem contract (H : Type) (enc : TypeId × Value → H) (W : World) (base : Nat) (args : Array Value) (ds gs : List (DataW H)) (before : List MemPlace)
    (hval : ∀ (j : Nat) t v, Tryd.f4.params[j]? = some t → args[j]? = some v → Value.okWide Tryd.prog W .any base t v)
    (hW : DataW.Whole enc Tryd.prog Tryd.f4.params.toList Rows.runsTwinsSpec.vars false W args.toList ds gs before)
    (hL : laidMetH Tryd.prog Rows.runsTwinsRow.laid W)
    (hsz : (DataW.weightsEach Tryd.prog (Tryd.f4.params.toList ++ Rows.runsTwinsSpec.plain.varTypes Tryd.prog) (ds ++ gs)).all (· ≤ reachBytes) = true) :
    Calls Tryd.prog 4 args W fun e W' => ∃ v, e = .returned v ∧ Rows.runsTwinsSpec.post enc Tryd.prog Tryd.f4 false true false false W args v W' := by
  have hW' := hW
  obtain ⟨p, q, hA0, hV, rfl, hfz, hnd⟩ := hW
  have hA : DataW.TrodAll enc Tryd.prog W 0 (fun _ => true) true Tryd.f4.params.toList args.toList ds p := hA0
  rw [Tryd.params4] at hA hval hsz
  obtain ⟨v0, vs0, d0, ds0, p0, q0, hargs, rfl, rfl, h0, r0⟩ := trodAll_cons hA
  obtain ⟨v1, vs1, d1, ds1, p1, q1, rfl, rfl, rfl, h1, r1⟩ := trodAll_cons r0
  obtain ⟨rfl, rfl, rfl⟩ := trodAll_nil r1
  obtain rfl : args = #[v0, v1] := by cases args; simp_all
  obtain ⟨rfl, rfl⟩ := trodVars_none hV
  obtain ⟨a_os, len_os, cap_os, rfl⟩ := okWide_slice Tryd.underlying22 (hval 0 22 v0 rfl rfl)
  have k_os := h0
  have lt_os : ∀ y ∈ p0, y.block < W.heap.size := by obtain ⟨m, hm⟩ := k_os; exact DataW.trod_lt m _ _ _ hm
  have z_os : (d0.weights Tryd.prog 22).all (· ≤ reachBytes) = true := by
    refine List.all_eq_true.2 fun y hy => List.all_eq_true.1 hsz y ?_
    simp [DataW.weightsEach, hy]
  obtain ⟨os, S_os⟩ := Rs.open_script h0 z_os
  obtain ⟨a_ps, len_ps, cap_ps, rfl⟩ := okWide_slice Tryd.underlying22 (hval 1 22 v1 rfl rfl)
  have k_ps := h1
  have lt_ps : ∀ y ∈ p1, y.block < W.heap.size := by obtain ⟨m, hm⟩ := k_ps; exact DataW.trod_lt m _ _ _ hm
  have z_ps : (d1.weights Tryd.prog 22).all (· ≤ reachBytes) = true := by
    refine List.all_eq_true.2 fun y hy => List.all_eq_true.1 hsz y ?_
    simp [DataW.weightsEach, hy]
  obtain ⟨ps, S_ps⟩ := Rs.open_script h1 z_ps
  clear hA0
  simp only [List.append_nil] at hW'
  have _hz := hsz
  refine (walk _ _ os ps W S_os S_ps hL).mono fun e W' ⟨he, bel⟩ => ?_
  subst he
  exact ⟨_, rfl, _, _, _, [], _, [], hW', trodAll_mk1 (shut_bool Tryd.underlying4 _), (trodAll_cons_mk (Below.trod Rs.laidOut (by kernel_rfl) (of_decide_eq_true (by kernel_rfl)) k_os bel lt_os) (trodAll_cons_mk (Below.trod Rs.laidOut (by kernel_rfl) (of_decide_eq_true (by kernel_rfl)) k_ps bel lt_ps) trodAll_mk0)), rfl, bel.frame _, fun h => by cases h⟩

theorem laid_met (os : Os) : laidMet Tryd.prog Rows.runsTwinsRow.laid ((LaidE.tabs (World.holding Tryd.prog os ⟨#[], #[], []⟩)).forCall (fun _ _ => 0) ⟨#[], #[.slice none 0 0, .slice none 0 0], []⟩).memory :=
  laidMet_of_run' 8 (by kernel_rfl) (by kernel_rfl)
theorem reads (os : Os) {H : Type} (enc : TypeId × Value → H) : ∃ places, DataW.whole enc Tryd.prog ((LaidE.tabs (World.holding Tryd.prog os ⟨#[], #[], []⟩)).forCall (fun _ _ => 0) ⟨#[], #[.slice none 0 0, .slice none 0 0], []⟩).memory Tryd.f4.params.toList Rows.runsTwinsSpec.vars false #[Value.slice none 0 0, Value.slice none 0 0].toList 8 = some ([.nil, .nil], [], places) :=
  ⟨[], by kernel_rfl⟩

set_option maxRecDepth 100000 in
theorem lifted (os : Os) (started : os.Started) (H : Type) (enc : TypeId × Value → H) (F : Stop.Interp) :
    ReturnsInHanded {} Tryd.checked os 4 .any ((OpenSpec.ofChange Rows.runsTwinsSpec).preRow enc Tryd.prog Tryd.f4 Rows.runsTwinsRow.domain false Rows.runsTwinsRow.laid) (((OpenSpec.ofChange Rows.runsTwinsSpec).at F).post enc Tryd.prog Tryd.f4 false true false false) := by
  obtain ⟨places, hx⟩ := reads os enc
  refine returnsInHanded_of_row (C := Tryd.checked) (s := OpenSpec.ofChange Rows.runsTwinsSpec) LaidE.own started (by kernel_rfl) Tryd.func4
    (witness_row_at (enc := enc) (C := Tryd.checked) false (LaidE.tabs (World.holding Tryd.prog os ⟨#[], #[], []⟩)) #[.slice none 0 0, .slice none 0 0] rfl (by kernel_rfl) (by kernel_rfl) (by kernel_rfl)
      (OpenSpec.preRow_of_cond 8 hx (by kernel_rfl) (fun k hk => by cases hk) (by kernel_rfl) (laid_met os))) ?_
  intro W base args ds gs before hval hW _ _ hsz hL _ _
  exact contract H enc W base args ds gs before hval hW hL hsz

theorem said : Rows.RunsTwinsSaid :=
  OpenClaim.holds_of_cond 4 Tryd.f4 rfl rfl rfl rfl rfl rfl rfl ⟨rfl, rfl, rfl, rfl, rfl⟩ rfl rfl rfl rfl rfl (by kernel_rfl) Tryd.func4 (by kernel_rfl)
    (of_decide_eq_true (by kernel_rfl)) (by unfold Func.isWrapper; first | (rw [if_pos (by decide +kernel)]; kernel_rfl) | (rw [if_neg (by decide +kernel)]; exact ⟨rfl, rfl⟩))
    (fun os started H enc _ F => by rw [OpenClaim.pre_eq_preRow]; exact lifted os started H enc F)

theorem plain (f : FuncId) (fn : Func) (hf : Tryd.pinned.checked.prog.funcNamed "hornbook/hornbooklaw05.RunsTwins" = some f) (hfn : Tryd.pinned.checked.prog.funcs[f]? = some fn) :
    true = Tryd.pinned.checked.prog.looks [] ∧ ∀ (j : Nat) t, fn.params[j]? = some t → Tryd.pinned.checked.prog.wantsStandIn t = false := by
  obtain rfl : f = 4 := Option.some.inj ((show Tryd.prog.funcNamed "hornbook/hornbooklaw05.RunsTwins" = some 4 by kernel_rfl).symm.trans hf) |>.symm
  obtain rfl : fn = Tryd.f4 := (Option.some.inj (Tryd.func4.symm.trans hfn)).symm
  refine ⟨by kernel_rfl, fun j t ht => ?_⟩
  rw [Tryd.params4] at ht
  obtain rfl : t = 22 := by simpa using Array.mem_of_getElem? ht
  exact (show Tryd.prog.wantsStandIn 22 = false by kernel_rfl)

theorem card : Rows.RunsTwinsCardSaid :=
  Claim7.holds_tied_plain_at .later [] _ _ _ _ said (fun _ h => by cases h) (by kernel_rfl) (fun _ h => by cases h) runsTwins_row_tie rfl ⟨rfl, rfl⟩ (by kernel_rfl) rfl plain (by kernel_rfl)
end Go.Proofs.YtdlmpogmoepkjaaDoor.runsTwins
namespace Go.Proofs.YtdlmpogmoepkjaaDoor
theorem runsTwins_holds : Rows.RunsTwinsCardSaid := runsTwins.card
end Go.Proofs.YtdlmpogmoepkjaaDoor
