/- MergeSorts of layer 10 returns true for every list of words and all numbers: with room for twice the frames Sort is never refused; its run holds each of the words and no other, rising; nothing else is left; there never was more in the store. The listed failures are laid as the program's text lays them (the card's tie). -/
import Derived.Test.YtohfhkdhccpoaaaGreatDoorGr
import Derived.Test.YtohfhkdhccpoaaaGreatDoorArgT
import Derived.Test.YtohfhkdhccpoaaaGreatDoorGb
import Derived.Test.YtohfhkdhccpoaaaGreatDoorLaidE
import Derived.Test.YtohfhkdhccpoaaaGreatDoorCards
import Derived.Test.YtohfhkdhccpoaaaGreatDoorTie
import Derived.ProofKit
import Derived.OpenShut
import Derived.Deep.DeepHandedRow
import Derived.Lib.LaidTab
namespace Go.Proofs.YtohfhkdhccpoaaaGreatDoor.mergeSorts
open Go.ChangeShapes Go.WideShapes Go.ChangeAt Go.RowKit
open Go.ChangeMaps (open_string shut_string)

open Rs
theorem walk (v : Value) (L : List ByteArray) (bl fl : Int) (W : World) (hs : ArgB.ArgOf Value.string W v L) (hb : bl ≤ 9223372036854775807) (hf : fl ≤ 9223372036854775807) (hL : laidMetH Tryz.prog listed W) : Calls Tryz.prog 4 #[v, .int .i64 bl, .int .i64 fl] W fun e w' => e = .returned (.bool true) ∧ Below W.heap.size W w' := by
  obtain ⟨E, V⟩ := env_of_laid hL
  have hn : L.length ≤ 9223372036854775807 := by
    obtain ⟨_, _, _, _, h5, _⟩ := hs
    unfold maxLen at h5
    omega
  exact sorts10 V (ArgB.txs_of hs) hn bl fl hb hf

set_option maxRecDepth 100000 in
theorem contract (H : Type) (enc : TypeId × Value → H) (W : World) (base : Nat) (args : Array Value) (ds gs : List (DataW H)) (before : List MemPlace)
    (hval : ∀ (j : Nat) t v, Tryz.f4.params[j]? = some t → args[j]? = some v → Value.okWide Tryz.prog W .any base t v)
    (hW : DataW.Whole enc Tryz.prog Tryz.f4.params.toList Rows.mergeSortsSpec.vars false W args.toList ds gs before)
    (hL : laidMetH Tryz.prog Rows.mergeSortsRow.laid W) :
    Calls Tryz.prog 4 args W fun e W' => ∃ v, e = .returned v ∧ Rows.mergeSortsSpec.post enc Tryz.prog Tryz.f4 false true false false W args v W' := by
  have hW' := hW
  obtain ⟨p, q, hA0, hV, rfl, hfz, hnd⟩ := hW
  have hA : DataW.TrodAll enc Tryz.prog W 0 (fun _ => true) true Tryz.f4.params.toList args.toList ds p := hA0
  rw [Tryz.params4] at hA hval
  obtain ⟨v0, vs0, d0, ds0, p0, q0, hargs, rfl, rfl, h0, r0⟩ := trodAll_cons hA
  obtain ⟨v1, vs1, d1, ds1, p1, q1, rfl, rfl, rfl, h1, r1⟩ := trodAll_cons r0
  obtain ⟨v2, vs2, d2, ds2, p2, q2, rfl, rfl, rfl, h2, r2⟩ := trodAll_cons r1
  obtain ⟨rfl, rfl, rfl⟩ := trodAll_nil r2
  obtain rfl : args = #[v0, v1, v2] := by cases args; simp_all
  obtain ⟨rfl, rfl⟩ := trodVars_none hV
  obtain ⟨a_words, len_words, cap_words, rfl⟩ := okWide_slice Tryz.underlying29 (hval 0 29 v0 rfl rfl)
  have k_words := h0
  have lt_words : ∀ y ∈ p0, y.block < W.heap.size := by obtain ⟨m, hm⟩ := k_words; exact DataW.trod_lt m _ _ _ hm
  obtain ⟨words, S_words, arg_words, dat_words⟩ := ArgB.open_arg Value.string ArgB.datS Tryz.underlying29 (by kernel_rfl) (ArgB.el_string Tryz.underlying9) h0
  obtain ⟨b, rfl, rfl, rfl, wf_b⟩ := open_int Tryz.underlying3 (hval 1 3 v1 rfl rfl) h1
  obtain ⟨lo_b, hi_b⟩ := bounds_i64 wf_b
  obtain ⟨fan, rfl, rfl, rfl, wf_fan⟩ := open_int Tryz.underlying3 (hval 2 3 v2 rfl rfl) h2
  obtain ⟨lo_fan, hi_fan⟩ := bounds_i64 wf_fan
  clear hA0
  simp only [List.append_nil] at hW'
  refine (walk _ words b fan W arg_words hi_b hi_fan hL).mono fun e W' ⟨he, bel⟩ => ?_
  subst he
  exact ⟨_, rfl, _, _, _, [], _, [], hW', trodAll_mk1 (shut_bool Tryz.underlying4 _), (trodAll_cons_mk (Below.trod ArgB.laidOut (by kernel_rfl) (of_decide_eq_true (by kernel_rfl)) k_words bel lt_words) (trodAll_cons_mk (shut_int Tryz.underlying3 wf_b) (trodAll_cons_mk (shut_int Tryz.underlying3 wf_fan) trodAll_mk0))), rfl, bel.frame _, fun h => by cases h⟩

theorem laid_met (os : Os) : laidMet Tryz.prog Rows.mergeSortsRow.laid ((LaidE.tabs (World.holding Tryz.prog os ⟨#[], #[], []⟩)).forCall (fun _ _ => 0) ⟨#[], #[.slice none 0 0, .int .i64 0, .int .i64 0], []⟩).memory :=
  laidMet_of_run' 8 (by kernel_rfl) (by kernel_rfl)
theorem reads (os : Os) {H : Type} (enc : TypeId × Value → H) : ∃ places, DataW.whole enc Tryz.prog ((LaidE.tabs (World.holding Tryz.prog os ⟨#[], #[], []⟩)).forCall (fun _ _ => 0) ⟨#[], #[.slice none 0 0, .int .i64 0, .int .i64 0], []⟩).memory Tryz.f4.params.toList Rows.mergeSortsSpec.vars false #[Value.slice none 0 0, Value.int .i64 0, Value.int .i64 0].toList 8 = some ([.nil, .lit (.int .i64 0), .lit (.int .i64 0)], [], places) :=
  ⟨[], by kernel_rfl⟩

set_option maxRecDepth 100000 in
theorem lifted (os : Os) (started : os.Started) (H : Type) (enc : TypeId × Value → H) (F : Stop.Interp) :
    ReturnsInHanded {} Tryz.checked os 4 .any ((OpenSpec.ofChange Rows.mergeSortsSpec).preRow enc Tryz.prog Tryz.f4 Rows.mergeSortsRow.domain false Rows.mergeSortsRow.laid) (((OpenSpec.ofChange Rows.mergeSortsSpec).at F).post enc Tryz.prog Tryz.f4 false true false false) := by
  obtain ⟨places, hx⟩ := reads os enc
  refine returnsInHanded_of_row (C := Tryz.checked) (s := OpenSpec.ofChange Rows.mergeSortsSpec) LaidE.own started (by kernel_rfl) Tryz.func4
    (witness_row_at (enc := enc) (C := Tryz.checked) false (LaidE.tabs (World.holding Tryz.prog os ⟨#[], #[], []⟩)) #[.slice none 0 0, .int .i64 0, .int .i64 0] rfl (by kernel_rfl) (by kernel_rfl) (by kernel_rfl)
      (OpenSpec.preRow_of_cond 8 hx (by kernel_rfl) (fun k hk => by cases hk) (by kernel_rfl) (laid_met os))) ?_
  intro W base args ds gs before hval hW _ _ _ hL _ _
  exact contract H enc W base args ds gs before hval hW hL

theorem said : Rows.MergeSortsSaid :=
  OpenClaim.holds_of_cond 4 Tryz.f4 rfl rfl rfl rfl rfl rfl rfl ⟨rfl, rfl, rfl, rfl, rfl⟩ rfl rfl rfl rfl rfl (by kernel_rfl) Tryz.func4 (by kernel_rfl)
    (of_decide_eq_true (by kernel_rfl)) (by unfold Func.isWrapper; first | (rw [if_pos (by decide +kernel)]; kernel_rfl) | (rw [if_neg (by decide +kernel)]; exact ⟨rfl, rfl⟩))
    (fun os started H enc _ F => by rw [OpenClaim.pre_eq_preRow]; exact lifted os started H enc F)

theorem plain (f : FuncId) (fn : Func) (hf : Tryz.pinned.checked.prog.funcNamed "hornbook/hornbooklaw10.MergeSorts" = some f) (hfn : Tryz.pinned.checked.prog.funcs[f]? = some fn) :
    true = Tryz.pinned.checked.prog.looks [] ∧ ∀ (j : Nat) t, fn.params[j]? = some t → Tryz.pinned.checked.prog.wantsStandIn t = false := by
  obtain rfl : f = 4 := Option.some.inj ((show Tryz.prog.funcNamed "hornbook/hornbooklaw10.MergeSorts" = some 4 by kernel_rfl).symm.trans hf) |>.symm
  obtain rfl : fn = Tryz.f4 := (Option.some.inj (Tryz.func4.symm.trans hfn)).symm
  refine ⟨by kernel_rfl, fun j t ht => ?_⟩
  rw [Tryz.params4] at ht
  have ht2 : t = 29 ∨ t = 3 := by simpa using Array.mem_of_getElem? ht
  rcases ht2 with rfl | rfl
  · exact (show Tryz.prog.wantsStandIn 29 = false by kernel_rfl)
  · exact (show Tryz.prog.wantsStandIn 3 = false by kernel_rfl)

theorem card : Rows.MergeSortsCardSaid :=
  Claim7.holds_tied_plain_at .later [] _ _ _ _ said (fun _ h => by cases h) (by kernel_rfl) (fun _ h => by cases h) mergeSorts_row_tie rfl ⟨rfl, rfl⟩ (by kernel_rfl) rfl plain (by kernel_rfl)
end Go.Proofs.YtohfhkdhccpoaaaGreatDoor.mergeSorts
namespace Go.Proofs.YtohfhkdhccpoaaaGreatDoor
theorem mergeSorts_holds : Rows.MergeSortsCardSaid := mergeSorts.card
end Go.Proofs.YtohfhkdhccpoaaaGreatDoor
