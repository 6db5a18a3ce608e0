/- MergeAgain of layer 10 returns true for every three lists of words: merging a merged run with the runs of its own parts, or alone, changes nothing; merging in two halves is merging at once. The listed failures are laid as the program's text lays them (the card's tie). -/
import Derived.Test.YtohfhkdhccpoaaaGreatDoorMqw
import Derived.Test.YtohfhkdhccpoaaaGreatDoorArgT
import Derived.Test.YtohfhkdhccpoaaaGreatDoorGb
import Derived.Test.YtohfhkdhccpoaaaGreatDoorLaidE
import Derived.Test.YtohfhkdhccpoaaaGreatDoorCards
import Derived.Test.YtohfhkdhccpoaaaGreatDoorTie
import Derived.ProofKit
import Derived.OpenShut
import Derived.Deep.DeepHandedRow
import Derived.Lib.LaidTab
namespace Go.Proofs.YtohfhkdhccpoaaaGreatDoor.mergeAgain
open Go.ChangeShapes Go.WideShapes Go.ChangeAt Go.RowKit
open Go.ChangeMaps (open_string shut_string)

open Rs
theorem len_of {W : World} {v : Value} {L : List ByteArray} (hs : ArgB.ArgOf Value.string W v L) : L.length ≤ 9223372036854775807 := by
  obtain ⟨_, _, _, _, h5, _⟩ := hs
  unfold maxLen at h5
  omega
theorem walk (va vb vc : Value) (La Lb Lc : List ByteArray) (W : World) (ha : ArgB.ArgOf Value.string W va La) (hb : ArgB.ArgOf Value.string W vb Lb) (hc : ArgB.ArgOf Value.string W vc Lc) (hL : laidMetH Tryz.prog listed W) : Calls Tryz.prog 7 #[va, vb, vc] W fun e w' => e = .returned (.bool true) ∧ Below W.heap.size W w' := by
  obtain ⟨E, V⟩ := env_of_laid hL
  exact again10 V (ArgB.txs_of ha) (ArgB.txs_of hb) (ArgB.txs_of hc) (len_of ha) (len_of hb) (len_of hc)

set_option maxRecDepth 100000 in
theorem contract (H : Type) (enc : TypeId × Value → H) (W : World) (base : Nat) (args : Array Value) (ds gs : List (DataW H)) (before : List MemPlace)
    (hval : ∀ (j : Nat) t v, Tryz.f7.params[j]? = some t → args[j]? = some v → Value.okWide Tryz.prog W .any base t v)
    (hW : DataW.Whole enc Tryz.prog Tryz.f7.params.toList Rows.mergeAgainSpec.vars false W args.toList ds gs before)
    (hL : laidMetH Tryz.prog Rows.mergeAgainRow.laid W) :
    Calls Tryz.prog 7 args W fun e W' => ∃ v, e = .returned v ∧ Rows.mergeAgainSpec.post enc Tryz.prog Tryz.f7 false true false false W args v W' := by
  have hW' := hW
  obtain ⟨p, q, hA0, hV, rfl, hfz, hnd⟩ := hW
  have hA : DataW.TrodAll enc Tryz.prog W 0 (fun _ => true) true Tryz.f7.params.toList args.toList ds p := hA0
  rw [Tryz.params7] at hA hval
  obtain ⟨v0, vs0, d0, ds0, p0, q0, hargs, rfl, rfl, h0, r0⟩ := trodAll_cons hA
  obtain ⟨v1, vs1, d1, ds1, p1, q1, rfl, rfl, rfl, h1, r1⟩ := trodAll_cons r0
  obtain ⟨v2, vs2, d2, ds2, p2, q2, rfl, rfl, rfl, h2, r2⟩ := trodAll_cons r1
  obtain ⟨rfl, rfl, rfl⟩ := trodAll_nil r2
  obtain rfl : args = #[v0, v1, v2] := by cases args; simp_all
  obtain ⟨rfl, rfl⟩ := trodVars_none hV
  obtain ⟨a_a, len_a, cap_a, rfl⟩ := okWide_slice Tryz.underlying29 (hval 0 29 v0 rfl rfl)
  have k_a := h0
  have lt_a : ∀ y ∈ p0, y.block < W.heap.size := by obtain ⟨m, hm⟩ := k_a; exact DataW.trod_lt m _ _ _ hm
  obtain ⟨a, S_a, arg_a, dat_a⟩ := ArgB.open_arg Value.string ArgB.datS Tryz.underlying29 (by kernel_rfl) (ArgB.el_string Tryz.underlying9) h0
  obtain ⟨a_b, len_b, cap_b, rfl⟩ := okWide_slice Tryz.underlying29 (hval 1 29 v1 rfl rfl)
  have k_b := h1
  have lt_b : ∀ y ∈ p1, y.block < W.heap.size := by obtain ⟨m, hm⟩ := k_b; exact DataW.trod_lt m _ _ _ hm
  obtain ⟨b, S_b, arg_b, dat_b⟩ := ArgB.open_arg Value.string ArgB.datS Tryz.underlying29 (by kernel_rfl) (ArgB.el_string Tryz.underlying9) h1
  obtain ⟨a_c, len_c, cap_c, rfl⟩ := okWide_slice Tryz.underlying29 (hval 2 29 v2 rfl rfl)
  have k_c := h2
  have lt_c : ∀ y ∈ p2, y.block < W.heap.size := by obtain ⟨m, hm⟩ := k_c; exact DataW.trod_lt m _ _ _ hm
  obtain ⟨c, S_c, arg_c, dat_c⟩ := ArgB.open_arg Value.string ArgB.datS Tryz.underlying29 (by kernel_rfl) (ArgB.el_string Tryz.underlying9) h2
  clear hA0
  simp only [List.append_nil] at hW'
  refine (walk _ _ _ a b c W arg_a arg_b arg_c hL).mono fun e W' ⟨he, bel⟩ => ?_
  subst he
  exact ⟨_, rfl, _, _, _, [], _, [], hW', trodAll_mk1 (shut_bool Tryz.underlying4 _), (trodAll_cons_mk (Below.trod ArgB.laidOut (by kernel_rfl) (of_decide_eq_true (by kernel_rfl)) k_a bel lt_a) (trodAll_cons_mk (Below.trod ArgB.laidOut (by kernel_rfl) (of_decide_eq_true (by kernel_rfl)) k_b bel lt_b) (trodAll_cons_mk (Below.trod ArgB.laidOut (by kernel_rfl) (of_decide_eq_true (by kernel_rfl)) k_c bel lt_c) trodAll_mk0))), rfl, bel.frame _, fun h => by cases h⟩

theorem laid_met (os : Os) : laidMet Tryz.prog Rows.mergeAgainRow.laid ((LaidE.tabs (World.holding Tryz.prog os ⟨#[], #[], []⟩)).forCall (fun _ _ => 0) ⟨#[], #[.slice none 0 0, .slice none 0 0, .slice none 0 0], []⟩).memory :=
  laidMet_of_run' 8 (by kernel_rfl) (by kernel_rfl)
theorem reads (os : Os) {H : Type} (enc : TypeId × Value → H) : ∃ places, DataW.whole enc Tryz.prog ((LaidE.tabs (World.holding Tryz.prog os ⟨#[], #[], []⟩)).forCall (fun _ _ => 0) ⟨#[], #[.slice none 0 0, .slice none 0 0, .slice none 0 0], []⟩).memory Tryz.f7.params.toList Rows.mergeAgainSpec.vars false #[Value.slice none 0 0, Value.slice none 0 0, Value.slice none 0 0].toList 8 = some ([.nil, .nil, .nil], [], places) :=
  ⟨[], by kernel_rfl⟩

set_option maxRecDepth 100000 in
theorem lifted (os : Os) (started : os.Started) (H : Type) (enc : TypeId × Value → H) (F : Stop.Interp) :
    ReturnsInHanded {} Tryz.checked os 7 .any ((OpenSpec.ofChange Rows.mergeAgainSpec).preRow enc Tryz.prog Tryz.f7 Rows.mergeAgainRow.domain false Rows.mergeAgainRow.laid) (((OpenSpec.ofChange Rows.mergeAgainSpec).at F).post enc Tryz.prog Tryz.f7 false true false false) := by
  obtain ⟨places, hx⟩ := reads os enc
  refine returnsInHanded_of_row (C := Tryz.checked) (s := OpenSpec.ofChange Rows.mergeAgainSpec) LaidE.own started (by kernel_rfl) Tryz.func7
    (witness_row_at (enc := enc) (C := Tryz.checked) false (LaidE.tabs (World.holding Tryz.prog os ⟨#[], #[], []⟩)) #[.slice none 0 0, .slice none 0 0, .slice none 0 0] rfl (by kernel_rfl) (by kernel_rfl) (by kernel_rfl)
      (OpenSpec.preRow_of_cond 8 hx (by kernel_rfl) (fun k hk => by cases hk) (by kernel_rfl) (laid_met os))) ?_
  intro W base args ds gs before hval hW _ _ _ hL _ _
  exact contract H enc W base args ds gs before hval hW hL

theorem said : Rows.MergeAgainSaid :=
  OpenClaim.holds_of_cond 7 Tryz.f7 rfl rfl rfl rfl rfl rfl rfl ⟨rfl, rfl, rfl, rfl, rfl⟩ rfl rfl rfl rfl rfl (by kernel_rfl) Tryz.func7 (by kernel_rfl)
    (of_decide_eq_true (by kernel_rfl)) (by unfold Func.isWrapper; first | (rw [if_pos (by decide +kernel)]; kernel_rfl) | (rw [if_neg (by decide +kernel)]; exact ⟨rfl, rfl⟩))
    (fun os started H enc _ F => by rw [OpenClaim.pre_eq_preRow]; exact lifted os started H enc F)

theorem plain (f : FuncId) (fn : Func) (hf : Tryz.pinned.checked.prog.funcNamed "hornbook/hornbooklaw10.MergeAgain" = some f) (hfn : Tryz.pinned.checked.prog.funcs[f]? = some fn) :
    true = Tryz.pinned.checked.prog.looks [] ∧ ∀ (j : Nat) t, fn.params[j]? = some t → Tryz.pinned.checked.prog.wantsStandIn t = false := by
  obtain rfl : f = 7 := Option.some.inj ((show Tryz.prog.funcNamed "hornbook/hornbooklaw10.MergeAgain" = some 7 by kernel_rfl).symm.trans hf) |>.symm
  obtain rfl : fn = Tryz.f7 := (Option.some.inj (Tryz.func7.symm.trans hfn)).symm
  refine ⟨by kernel_rfl, fun j t ht => ?_⟩
  rw [Tryz.params7] at ht
  obtain rfl : t = 29 := by simpa using Array.mem_of_getElem? ht
  exact (show Tryz.prog.wantsStandIn 29 = false by kernel_rfl)

theorem card : Rows.MergeAgainCardSaid :=
  Claim7.holds_tied_plain_at .later [] _ _ _ _ said (fun _ h => by cases h) (by kernel_rfl) (fun _ h => by cases h) mergeAgain_row_tie rfl ⟨rfl, rfl⟩ (by kernel_rfl) rfl plain (by kernel_rfl)
end Go.Proofs.YtohfhkdhccpoaaaGreatDoor.mergeAgain
namespace Go.Proofs.YtohfhkdhccpoaaaGreatDoor
theorem mergeAgain_holds : Rows.MergeAgainCardSaid := mergeAgain.card
end Go.Proofs.YtohfhkdhccpoaaaGreatDoor
