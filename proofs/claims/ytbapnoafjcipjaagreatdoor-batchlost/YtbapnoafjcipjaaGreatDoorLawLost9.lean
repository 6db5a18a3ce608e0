/- BatchLost of layer 9 returns true for every list of words, buffer, step and capacity: whatever step is refused, Add or Finish tells it, the former dies of it, nothing is left in the store; another former goes on. The listed failures are laid as the program's text lays them (the card's tie). -/
import Derived.Test.YtbapnoafjcipjaaGreatDoorYw
import Derived.Test.YtbapnoafjcipjaaGreatDoorArgL
import Derived.Test.YtbapnoafjcipjaaGreatDoorLe9
import Derived.Test.YtbapnoafjcipjaaGreatDoorLaidE
import Derived.Test.YtbapnoafjcipjaaGreatDoorCards
import Derived.Test.YtbapnoafjcipjaaGreatDoorTie
import Derived.ProofKit
import Derived.OpenShut
import Derived.Deep.DeepHandedRow
import Derived.Lib.LaidTab
namespace Go.Proofs.YtbapnoafjcipjaaGreatDoor.batchLost
open Go.ChangeShapes Go.WideShapes Go.ChangeAt Go.RowKit
open Go.ChangeMaps (open_string shut_string)

open Rs
theorem walk (v : Value) (L : List ByteArray) (bl n c : Int) (W : World) (hs : ArgB.ArgOf Value.string W v L) (hb : -9223372036854775808 ≤ bl ∧ bl ≤ 9223372036854775807) (hn : -9223372036854775808 ≤ n ∧ n ≤ 9223372036854775807) (hc : -9223372036854775808 ≤ c ∧ c ≤ 9223372036854775807) (hL : laidMetH Tryz.prog listed W) : Calls Tryz.prog 4 #[.agg #[v, .int .i64 bl, .int .i64 n, .int .i64 c]] W fun e w' => e = .returned (.bool true) ∧ Below W.heap.size W w' := by
  obtain ⟨E, V⟩ := env_of_laid hL
  have h5 : L.length ≤ 9223372036854775807 := by
    obtain ⟨_, _, _, _, h5, _⟩ := hs
    unfold maxLen at h5
    omega
  exact lost_law V (ArgB.txs_of hs) h5 bl n c hb.1 hb.2 hn.2 hc.1 hc.2

set_option maxRecDepth 100000 in
theorem contract (H : Type) (enc : TypeId × Value → H) (W : World) (base : Nat) (args : Array Value) (ds gs : List (DataW H)) (before : List MemPlace)
    (hval : ∀ (j : Nat) t v, Tryz.f4.params[j]? = some t → args[j]? = some v → Value.okWide Tryz.prog W .any base t v)
    (hW : DataW.Whole enc Tryz.prog Tryz.f4.params.toList Rows.batchLostSpec.vars false W args.toList ds gs before)
    (hL : laidMetH Tryz.prog Rows.batchLostRow.laid W) :
    Calls Tryz.prog 4 args W fun e W' => ∃ v, e = .returned v ∧ Rows.batchLostSpec.post enc Tryz.prog Tryz.f4 false true false false W args v W' := by
  have hW' := hW
  obtain ⟨p, q, hA0, hV, rfl, hfz, hnd⟩ := hW
  have hA : DataW.TrodAll enc Tryz.prog W 0 (fun _ => true) true Tryz.f4.params.toList args.toList ds p := hA0
  rw [Tryz.params4] at hA hval
  obtain ⟨v0, vs0, d0, ds0, p0, q0, hargs, rfl, rfl, h0, r0⟩ := trodAll_cons hA
  obtain ⟨rfl, rfl, rfl⟩ := trodAll_nil r0
  obtain rfl : args = #[v0] := by cases args; simp_all
  obtain ⟨rfl, rfl⟩ := trodVars_none hV
  have k_x := h0
  have lt_x : ∀ y ∈ p0, y.block < W.heap.size := by obtain ⟨m, hm⟩ := k_x; exact DataW.trod_lt m _ _ _ hm
  obtain ⟨u_x, L_x, bl_x, n_x, c_x, rfl, arg_x, i1_x, i2_x, i3_x⟩ := ArgB.open_loss (hval 0 39 v0 rfl rfl) h0
  clear hA0
  simp only [List.append_nil] at hW'
  refine (walk u_x L_x bl_x n_x c_x W arg_x i1_x i2_x i3_x hL).mono fun e W' ⟨he, bel⟩ => ?_
  subst he
  exact ⟨_, rfl, _, _, _, [], _, [], hW', trodAll_mk1 (shut_bool Tryz.underlying4 _), (trodAll_cons_mk (Below.trod ArgB.laidOut (by kernel_rfl) (of_decide_eq_true (by kernel_rfl)) k_x bel lt_x) trodAll_mk0), rfl, bel.frame _, fun h => by cases h⟩

theorem laid_met (os : Os) : laidMet Tryz.prog Rows.batchLostRow.laid ((LaidE.tabs (World.holding Tryz.prog os ⟨#[], #[], []⟩)).forCall (fun _ _ => 0) ⟨#[], #[.agg #[.slice none 0 0, .int .i64 0, .int .i64 0, .int .i64 0]], []⟩).memory :=
  laidMet_of_run' 8 (by kernel_rfl) (by kernel_rfl)
theorem reads (os : Os) {H : Type} (enc : TypeId × Value → H) : ∃ places, DataW.whole enc Tryz.prog ((LaidE.tabs (World.holding Tryz.prog os ⟨#[], #[], []⟩)).forCall (fun _ _ => 0) ⟨#[], #[.agg #[.slice none 0 0, .int .i64 0, .int .i64 0, .int .i64 0]], []⟩).memory Tryz.f4.params.toList Rows.batchLostSpec.vars false #[Value.agg #[.slice none 0 0, .int .i64 0, .int .i64 0, .int .i64 0]].toList 8 = some ([.agg [.nil, .lit (.int .i64 0), .lit (.int .i64 0), .lit (.int .i64 0)]], [], places) :=
  ⟨[], by kernel_rfl⟩

set_option maxRecDepth 100000 in
theorem lifted (os : Os) (started : os.Started) (H : Type) (enc : TypeId × Value → H) (F : Stop.Interp) :
    ReturnsInHanded {} Tryz.checked os 4 .any ((OpenSpec.ofChange Rows.batchLostSpec).preRow enc Tryz.prog Tryz.f4 Rows.batchLostRow.domain false Rows.batchLostRow.laid) (((OpenSpec.ofChange Rows.batchLostSpec).at F).post enc Tryz.prog Tryz.f4 false true false false) := by
  obtain ⟨places, hx⟩ := reads os enc
  refine returnsInHanded_of_row (C := Tryz.checked) (s := OpenSpec.ofChange Rows.batchLostSpec) LaidE.own started (by kernel_rfl) Tryz.func4
    (witness_row_at (enc := enc) (C := Tryz.checked) false (LaidE.tabs (World.holding Tryz.prog os ⟨#[], #[], []⟩)) #[.agg #[.slice none 0 0, .int .i64 0, .int .i64 0, .int .i64 0]] rfl (by kernel_rfl) (by kernel_rfl) (by kernel_rfl)
      (OpenSpec.preRow_of_cond 8 hx (by kernel_rfl) (fun k hk => by cases hk) (by kernel_rfl) (laid_met os))) ?_
  intro W base args ds gs before hval hW _ _ _ hL _ _
  exact contract H enc W base args ds gs before hval hW hL

theorem said : Rows.BatchLostSaid :=
  OpenClaim.holds_of_cond 4 Tryz.f4 rfl rfl rfl rfl rfl rfl rfl ⟨rfl, rfl, rfl, rfl, rfl⟩ rfl rfl rfl rfl rfl (by kernel_rfl) Tryz.func4 (by kernel_rfl)
    (of_decide_eq_true (by kernel_rfl)) (by unfold Func.isWrapper; first | (rw [if_pos (by decide +kernel)]; kernel_rfl) | (rw [if_neg (by decide +kernel)]; exact ⟨rfl, rfl⟩))
    (fun os started H enc _ F => by rw [OpenClaim.pre_eq_preRow]; exact lifted os started H enc F)

theorem plain (f : FuncId) (fn : Func) (hf : Tryz.pinned.checked.prog.funcNamed "hornbook/hornbooklaw09.BatchLost" = some f) (hfn : Tryz.pinned.checked.prog.funcs[f]? = some fn) :
    true = Tryz.pinned.checked.prog.looks [] ∧ ∀ (j : Nat) t, fn.params[j]? = some t → Tryz.pinned.checked.prog.wantsStandIn t = false := by
  obtain rfl : f = 4 := Option.some.inj ((show Tryz.prog.funcNamed "hornbook/hornbooklaw09.BatchLost" = some 4 by kernel_rfl).symm.trans hf) |>.symm
  obtain rfl : fn = Tryz.f4 := (Option.some.inj (Tryz.func4.symm.trans hfn)).symm
  refine ⟨by kernel_rfl, fun j t ht => ?_⟩
  rw [Tryz.params4] at ht
  obtain rfl : t = 39 := by simpa using Array.mem_of_getElem? ht
  exact (show Tryz.prog.wantsStandIn 39 = false by kernel_rfl)

theorem card : Rows.BatchLostCardSaid :=
  Claim7.holds_tied_plain_at .later [] _ _ _ _ said (fun _ h => by cases h) (by kernel_rfl) (fun _ h => by cases h) batchLost_row_tie rfl ⟨rfl, rfl⟩ (by kernel_rfl) rfl plain (by kernel_rfl)
end Go.Proofs.YtbapnoafjcipjaaGreatDoor.batchLost
namespace Go.Proofs.YtbapnoafjcipjaaGreatDoor
theorem batchLost_holds : Rows.BatchLostCardSaid := batchLost.card
end Go.Proofs.YtbapnoafjcipjaaGreatDoor
