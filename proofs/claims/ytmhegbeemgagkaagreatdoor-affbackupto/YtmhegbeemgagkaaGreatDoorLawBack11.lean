import Derived.Test.YtmhegbeemgagkaaGreatDoorJk3
import Derived.Test.YtmhegbeemgagkaaGreatDoorArgX
import Derived.Test.YtmhegbeemgagkaaGreatDoorLaidA
import Derived.Test.YtmhegbeemgagkaaGreatDoorCards
import Derived.Test.YtmhegbeemgagkaaGreatDoorTie
namespace Go.Proofs.YtmhegbeemgagkaaGreatDoor.affBack
open Go.ChangeShapes Go.WideShapes Go.ChangeAt Go.RowKit
open Go.ChangeMaps (open_string shut_string)


set_option maxRecDepth 100000 in
theorem contract (H : Type) (enc : TypeId × Value → H) (W : World) (base : Nat) (args : Array Value) (ds gs : List (DataW H)) (before : List MemPlace)
  (hval : ∀ (j : Nat) t v, Tryz.f7.params[j]? = some t → args[j]? = some v → Value.okWide Tryz.prog W .any base t v)
  (hW : DataW.Whole enc Tryz.prog Tryz.f7.params.toList Rows.affBackSpec.vars false W args.toList ds gs before)
  (hcond : Rows.uptoSmall H (ds ++ gs) = true)
  (hL : laidMetH Tryz.prog Rows.affBackUptoRow.laid W)
  (hsh : W.ShapedOpen Tryz.prog) :
  Calls Tryz.prog 7 args W fun e W' => ∃ v, e = .returned v ∧ Rows.affBackSpec.post enc Tryz.prog Tryz.f7 false true false false W args v W' := by
 have hW' := hW
 obtain ⟨p, q, hA0, hV, rfl, hfz, hnd⟩ := hW
 have hA : DataW.TrodAll enc Tryz.prog W 0 (fun _ => true) true Tryz.f7.params.toList args.toList ds p := hA0
 rw [Tryz.params7] at hA hval
 obtain ⟨v0, vs0, d0, ds0, p0, q0, hargs, rfl, rfl, h0, r0⟩ := trodAll_cons hA
 obtain ⟨v1, vs1, d1, ds1, p1, q1, rfl, rfl, rfl, h1, r1⟩ := trodAll_cons r0
 obtain ⟨v2, vs2, d2, ds2, p2, q2, rfl, rfl, rfl, h2, r2⟩ := trodAll_cons r1
 obtain ⟨rfl, rfl, rfl⟩ := trodAll_nil r2
 obtain rfl : args = #[v0, v1, v2] := by cases args; simp_all
 obtain ⟨rfl, rfl⟩ := trodVars_none hV
 obtain ⟨s, rfl, rfl, rfl, hs_s⟩ := open_string Tryz.underlying9 (hval 0 9 v0 rfl rfl) h0
 obtain ⟨t, rfl, rfl, rfl, hs_t⟩ := open_string Tryz.underlying9 (hval 1 9 v1 rfl rfl) h1
 obtain ⟨a_fs, len_fs, cap_fs, rfl⟩ := okWide_slice Tryz.underlying44 (hval 2 44 v2 rfl rfl)
 have k_fs := h2
 have lt_fs : ∀ y ∈ p2, y.block < W.heap.size := by obtain ⟨m, hm⟩ := k_fs; exact DataW.trod_lt m _ _ _ hm
 obtain ⟨fu_fs, hfu_fs⟩ := h2
 obtain ⟨fs, S_fs, arg_fs, bnd_fs, dat_fs⟩ := ArgF.open_flags (fuel := fu_fs) hfu_fs
 clear hA0
 simp only [List.append_nil] at hW'
 simp only [List.append_nil] at hcond
 have hbk := of_decide_eq_true hcond
 simp only [Rows.uptoBulkAll] at hbk
 have hM0 := Tryz.laysM145.s1_3 W hsh
 have hM : Af.Mx W.heap.size W := by
  obtain ⟨m, hm⟩ := hM0
  exact ⟨World.block_lt_of_cell? W _ hm, m, hm⟩
 have hP : So.Pow W := Tab.pow10 hL
 refine (Af.back_law s t _ fs W hM (by simp [Rows.uptoBulk] at hbk; omega) arg_fs bnd_fs (by have h1 := ArgF.bulk_arg dat_fs; simp [Rows.uptoBulk] at hbk; omega) hP).mono fun e W' ⟨he, bel⟩ => ?_
 subst he
 exact ⟨_, rfl, _, _, _, [], _, [], hW', trodAll_mk1 (shut_bool Tryz.underlying4 _), (trodAll_cons_mk (shut_string Tryz.underlying9 hs_s) (trodAll_cons_mk (shut_string Tryz.underlying9 hs_t) (trodAll_cons_mk (Below.trod ArgF.laidOut (by kernel_rfl) (of_decide_eq_true (by kernel_rfl)) k_fs bel lt_fs) trodAll_mk0))), rfl, bel.frame _, fun h => by cases h⟩

theorem laid_met (os : Os) : laidMet Tryz.prog Rows.affBackUptoRow.laid ((LaidA.tabs (World.holding Tryz.prog os ⟨#[], #[], []⟩)).forCall (fun _ _ => 0) ⟨#[], #[.string ByteArray.empty, .string ByteArray.empty, .slice none 0 0], []⟩).memory :=
 laidMet_of_run' 8 (by kernel_rfl) (by kernel_rfl)
theorem reads (os : Os) {H : Type} (enc : TypeId × Value → H) : ∃ places, DataW.whole enc Tryz.prog ((LaidA.tabs (World.holding Tryz.prog os ⟨#[], #[], []⟩)).forCall (fun _ _ => 0) ⟨#[], #[.string ByteArray.empty, .string ByteArray.empty, .slice none 0 0], []⟩).memory Tryz.f7.params.toList Rows.affBackSpec.vars false #[Value.string ByteArray.empty, Value.string ByteArray.empty, Value.slice none 0 0].toList 8 = some ([.lit (.string []), .lit (.string []), .nil], [], places) :=
 ⟨[], by kernel_rfl⟩

set_option maxRecDepth 100000 in
theorem lifted (os : Os) (started : os.Started) (H : Type) (enc : TypeId × Value → H) (F : Stop.Interp) :
  ReturnsInHanded {} Tryz.checked os 7 .any ((Rows.OpenSpec.upto Rows.affBackSpec).preRow enc Tryz.prog Tryz.f7 Rows.affBackUptoRow.domain false Rows.affBackUptoRow.laid) (((Rows.OpenSpec.upto Rows.affBackSpec).at F).post enc Tryz.prog Tryz.f7 false true false false) := by
 obtain ⟨places, hx⟩ := reads os enc
 refine returnsInHanded_of_row (C := Tryz.checked) (s := Rows.OpenSpec.upto Rows.affBackSpec) LaidA.own started (by kernel_rfl) Tryz.func7
  (witness_row_at (enc := enc) (C := Tryz.checked) false (LaidA.tabs (World.holding Tryz.prog os ⟨#[], #[], []⟩)) #[.string ByteArray.empty, .string ByteArray.empty, .slice none 0 0] rfl (by kernel_rfl) (by kernel_rfl) (by kernel_rfl)
   (OpenSpec.preRow_of_cond 8 hx (by kernel_rfl) (fun k hk => by cases hk; kernel_rfl) (by kernel_rfl) (laid_met os))) ?_
 intro W base args ds gs before hval hW _ hcond _ hL hsh _
 exact contract H enc W base args ds gs before hval hW (hcond _ rfl) hL hsh

theorem said : Rows.AffBackUptoSaid :=
 OpenClaim.holds_of_cond 7 Tryz.f7 rfl rfl rfl rfl rfl rfl rfl ⟨rfl, rfl, rfl, rfl, rfl⟩ rfl rfl rfl rfl rfl (by kernel_rfl) Tryz.func7 (by kernel_rfl)
  (of_decide_eq_true (by kernel_rfl)) (by unfold Func.isWrapper; first | (rw [if_pos (by decide +kernel)]; kernel_rfl) | (rw [if_neg (by decide +kernel)]; exact ⟨rfl, rfl⟩))
  (fun os started H enc _ F => by rw [OpenClaim.pre_eq_preRow]; exact lifted os started H enc F)

theorem plain (f : FuncId) (fn : Func) (hf : Tryz.pinned.checked.prog.funcNamed "hornbook/hornbooklaw11.AffBack" = some f) (hfn : Tryz.pinned.checked.prog.funcs[f]? = some fn) :
  true = Tryz.pinned.checked.prog.looks [] ∧ ∀ (j : Nat) t, fn.params[j]? = some t → Tryz.pinned.checked.prog.wantsStandIn t = false := by
 obtain rfl : f = 7 := Option.some.inj ((show Tryz.prog.funcNamed "hornbook/hornbooklaw11.AffBack" = some 7 by kernel_rfl).symm.trans hf) |>.symm
 obtain rfl : fn = Tryz.f7 := (Option.some.inj (Tryz.func7.symm.trans hfn)).symm
 refine ⟨by kernel_rfl, fun j t ht => ?_⟩
 rw [Tryz.params7] at ht
 have ht2 : t = 9 ∨ t = 44 := by simpa using Array.mem_of_getElem? ht
 rcases ht2 with rfl | rfl
 ·exact (show Tryz.prog.wantsStandIn 9 = false by kernel_rfl)
 ·exact (show Tryz.prog.wantsStandIn 44 = false by kernel_rfl)

theorem card : Rows.AffBackUptoCardSaid :=
 Claim7.holds_tied_plain_at .later [] _ _ _ _ said (fun _ h => by cases h) (by kernel_rfl) (fun _ h => by cases h) affBackUpto_row_tie rfl ⟨rfl, rfl⟩ (by kernel_rfl) rfl plain (by kernel_rfl)
end Go.Proofs.YtmhegbeemgagkaaGreatDoor.affBack
namespace Go.Proofs.YtmhegbeemgagkaaGreatDoor
theorem affBack_holds : Rows.AffBackUptoCardSaid := affBack.card
end Go.Proofs.YtmhegbeemgagkaaGreatDoor
