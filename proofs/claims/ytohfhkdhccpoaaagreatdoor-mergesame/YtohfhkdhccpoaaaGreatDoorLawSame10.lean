/- MergeSame of layer 10 returns true for all words, orders and settings: two settings, another order and repeats of the words: the run that is answered holds the same bytes. The listed failures are laid as the program's text lays them (the card's tie). -/
import Derived.Test.YtohfhkdhccpoaaaGreatDoorMp
import Derived.Test.YtohfhkdhccpoaaaGreatDoorArgM10
import Derived.Test.YtohfhkdhccpoaaaGreatDoorGb
import Derived.Test.YtohfhkdhccpoaaaGreatDoorLaidE
import Derived.Test.YtohfhkdhccpoaaaGreatDoorCards
import Derived.Test.YtohfhkdhccpoaaaGreatDoorTie
import Derived.ProofKit
import Derived.OpenShut
import Derived.Deep.DeepHandedRow
import Derived.Lib.LaidTab
namespace Go.Proofs.YtohfhkdhccpoaaaGreatDoor.mergeSame
open Go.ChangeShapes Go.WideShapes Go.ChangeAt Go.RowKit
open Go.ChangeMaps (open_string shut_string)

open Rs
theorem walk (v : Value) (L : List ByteArray) (o : Value) (K : List ArgB.Num) (i2 i3 i4 i5 i6 : Int) (W : World) (hs : ArgB.ArgOf Value.string W v L) (ho : ArgB.ArgOf (fun k : ArgB.Num => Value.int .i64 k.1) W o K) (h2 : i2 ≤ 9223372036854775807) (h3 : i3 ≤ 9223372036854775807) (h4 : i4 ≤ 9223372036854775807) (h5 : i5 ≤ 9223372036854775807) (hL : laidMetH Tryz.prog listed W) : Calls Tryz.prog 5 #[.agg #[v, o, .int .i64 i2, .int .i64 i3, .int .i64 i4, .int .i64 i5, .int .i64 i6]] W fun e w' => e = .returned (.bool true) ∧ Below W.heap.size W w' := by
  obtain ⟨E, V⟩ := env_of_laid hL
  have hn : L.length ≤ 9223372036854775807 := by
    obtain ⟨_, _, _, _, h5, _⟩ := hs
    unfold maxLen at h5
    omega
  have hk : K.length ≤ 9223372036854775807 := by
    obtain ⟨_, _, _, _, h5, _⟩ := ho
    unfold maxLen at h5
    omega
  have hno : Nums W o (K.map (·.1)) := by
    obtain ⟨ao, cap, e, _, _, _, h⟩ := ho
    refine ⟨ao, cap, by rw [List.length_map]; exact e, fun h0 => ?_⟩
    rw [List.length_map] at h0
    obtain ⟨g, off, e1, hg, hc⟩ := h h0
    refine ⟨g, off, e1, hg, fun j n hj => ?_⟩
    rw [List.getElem?_map] at hj
    obtain ⟨y, hy, rfl⟩ := Option.map_eq_some_iff.1 hj
    exact hc j y hy
  exact same10 V (ArgB.txs_of hs) hn hno (by rw [List.length_map]; exact hk) (fun k hk => by obtain ⟨y, _, rfl⟩ := List.mem_map.1 hk; exact y.2.2) i2 i3 i4 i5 i6 h2 h3 h4 h5

set_option maxRecDepth 100000 in
theorem contract (H : Type) (enc : TypeId × Value → H) (W : World) (base : Nat) (args : Array Value) (ds gs : List (DataW H)) (before : List MemPlace)
    (hval : ∀ (j : Nat) t v, Tryz.f5.params[j]? = some t → args[j]? = some v → Value.okWide Tryz.prog W .any base t v)
    (hW : DataW.Whole enc Tryz.prog Tryz.f5.params.toList Rows.mergeSameSpec.vars false W args.toList ds gs before)
    (hL : laidMetH Tryz.prog Rows.mergeSameRow.laid W) :
    Calls Tryz.prog 5 args W fun e W' => ∃ v, e = .returned v ∧ Rows.mergeSameSpec.post enc Tryz.prog Tryz.f5 false true false false W args v W' := by
  have hW' := hW
  obtain ⟨p, q, hA0, hV, rfl, hfz, hnd⟩ := hW
  have hA : DataW.TrodAll enc Tryz.prog W 0 (fun _ => true) true Tryz.f5.params.toList args.toList ds p := hA0
  rw [Tryz.params5] at hA hval
  obtain ⟨v0, vs0, d0, ds0, p0, q0, hargs, rfl, rfl, h0, r0⟩ := trodAll_cons hA
  obtain ⟨rfl, rfl, rfl⟩ := trodAll_nil r0
  obtain rfl : args = #[v0] := by cases args; simp_all
  obtain ⟨rfl, rfl⟩ := trodVars_none hV
  have k_x := h0
  have lt_x : ∀ y ∈ p0, y.block < W.heap.size := by obtain ⟨m, hm⟩ := k_x; exact DataW.trod_lt m _ _ _ hm
  obtain ⟨u_x, L_x, o_x, K_x, i2_x, i3_x, i4_x, i5_x, i6_x, rfl, arg_x, ar2_x, b2_x, b3_x, b4_x, b5_x, b6_x⟩ := ArgB.open_two (hval 0 51 v0 rfl rfl) h0
  clear hA0
  simp only [List.append_nil] at hW'
  refine (walk u_x L_x o_x K_x i2_x i3_x i4_x i5_x i6_x W arg_x ar2_x b2_x.2 b3_x.2 b4_x.2 b5_x.2 hL).mono fun e W' ⟨he, bel⟩ => ?_
  subst he
  exact ⟨_, rfl, _, _, _, [], _, [], hW', trodAll_mk1 (shut_bool Tryz.underlying4 _), (trodAll_cons_mk (Below.trod ArgB.laidOut (by kernel_rfl) (of_decide_eq_true (by kernel_rfl)) k_x bel lt_x) trodAll_mk0), rfl, bel.frame _, fun h => by cases h⟩

theorem laid_met (os : Os) : laidMet Tryz.prog Rows.mergeSameRow.laid ((LaidE.tabs (World.holding Tryz.prog os ⟨#[], #[], []⟩)).forCall (fun _ _ => 0) ⟨#[], #[.agg #[.slice none 0 0, .slice none 0 0, .int .i64 0, .int .i64 0, .int .i64 0, .int .i64 0, .int .i64 0]], []⟩).memory :=
  laidMet_of_run' 8 (by kernel_rfl) (by kernel_rfl)
theorem reads (os : Os) {H : Type} (enc : TypeId × Value → H) : ∃ places, DataW.whole enc Tryz.prog ((LaidE.tabs (World.holding Tryz.prog os ⟨#[], #[], []⟩)).forCall (fun _ _ => 0) ⟨#[], #[.agg #[.slice none 0 0, .slice none 0 0, .int .i64 0, .int .i64 0, .int .i64 0, .int .i64 0, .int .i64 0]], []⟩).memory Tryz.f5.params.toList Rows.mergeSameSpec.vars false #[Value.agg #[.slice none 0 0, .slice none 0 0, .int .i64 0, .int .i64 0, .int .i64 0, .int .i64 0, .int .i64 0]].toList 8 = some ([.agg [.nil, .nil, .lit (.int .i64 0), .lit (.int .i64 0), .lit (.int .i64 0), .lit (.int .i64 0), .lit (.int .i64 0)]], [], places) :=
  ⟨[], by kernel_rfl⟩

set_option maxRecDepth 100000 in
theorem lifted (os : Os) (started : os.Started) (H : Type) (enc : TypeId × Value → H) (F : Stop.Interp) :
    ReturnsInHanded {} Tryz.checked os 5 .any ((OpenSpec.ofChange Rows.mergeSameSpec).preRow enc Tryz.prog Tryz.f5 Rows.mergeSameRow.domain false Rows.mergeSameRow.laid) (((OpenSpec.ofChange Rows.mergeSameSpec).at F).post enc Tryz.prog Tryz.f5 false true false false) := by
  obtain ⟨places, hx⟩ := reads os enc
  refine returnsInHanded_of_row (C := Tryz.checked) (s := OpenSpec.ofChange Rows.mergeSameSpec) LaidE.own started (by kernel_rfl) Tryz.func5
    (witness_row_at (enc := enc) (C := Tryz.checked) false (LaidE.tabs (World.holding Tryz.prog os ⟨#[], #[], []⟩)) #[.agg #[.slice none 0 0, .slice none 0 0, .int .i64 0, .int .i64 0, .int .i64 0, .int .i64 0, .int .i64 0]] rfl (by kernel_rfl) (by kernel_rfl) (by kernel_rfl)
      (OpenSpec.preRow_of_cond 8 hx (by kernel_rfl) (fun k hk => by cases hk) (by kernel_rfl) (laid_met os))) ?_
  intro W base args ds gs before hval hW _ _ _ hL _ _
  exact contract H enc W base args ds gs before hval hW hL

theorem said : Rows.MergeSameSaid :=
  OpenClaim.holds_of_cond 5 Tryz.f5 rfl rfl rfl rfl rfl rfl rfl ⟨rfl, rfl, rfl, rfl, rfl⟩ rfl rfl rfl rfl rfl (by kernel_rfl) Tryz.func5 (by kernel_rfl)
    (of_decide_eq_true (by kernel_rfl)) (by unfold Func.isWrapper; first | (rw [if_pos (by decide +kernel)]; kernel_rfl) | (rw [if_neg (by decide +kernel)]; exact ⟨rfl, rfl⟩))
    (fun os started H enc _ F => by rw [OpenClaim.pre_eq_preRow]; exact lifted os started H enc F)

theorem plain (f : FuncId) (fn : Func) (hf : Tryz.pinned.checked.prog.funcNamed "hornbook/hornbooklaw10.MergeSame" = some f) (hfn : Tryz.pinned.checked.prog.funcs[f]? = some fn) :
    true = Tryz.pinned.checked.prog.looks [] ∧ ∀ (j : Nat) t, fn.params[j]? = some t → Tryz.pinned.checked.prog.wantsStandIn t = false := by
  obtain rfl : f = 5 := Option.some.inj ((show Tryz.prog.funcNamed "hornbook/hornbooklaw10.MergeSame" = some 5 by kernel_rfl).symm.trans hf) |>.symm
  obtain rfl : fn = Tryz.f5 := (Option.some.inj (Tryz.func5.symm.trans hfn)).symm
  refine ⟨by kernel_rfl, fun j t ht => ?_⟩
  rw [Tryz.params5] at ht
  obtain rfl : t = 51 := by simpa using Array.mem_of_getElem? ht
  exact (show Tryz.prog.wantsStandIn 51 = false by kernel_rfl)

theorem card : Rows.MergeSameCardSaid :=
  Claim7.holds_tied_plain_at .later [] _ _ _ _ said (fun _ h => by cases h) (by kernel_rfl) (fun _ h => by cases h) mergeSame_row_tie rfl ⟨rfl, rfl⟩ (by kernel_rfl) rfl plain (by kernel_rfl)
end Go.Proofs.YtohfhkdhccpoaaaGreatDoor.mergeSame
namespace Go.Proofs.YtohfhkdhccpoaaaGreatDoor
theorem mergeSame_holds : Rows.MergeSameCardSaid := mergeSame.card
end Go.Proofs.YtohfhkdhccpoaaaGreatDoor
