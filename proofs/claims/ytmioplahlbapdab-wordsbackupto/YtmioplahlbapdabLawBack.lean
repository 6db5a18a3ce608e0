/- WordsBack of layer 2 returns true for every two texts of a bulk of at most 1,048,576 together: what words.Write writes words.Read reads as that text, with a slash and anything behind it, and without. -/
import Derived.Test.YtmioplahlbapdabWkA
import Derived.Test.YtmioplahlbapdabRows
import Derived.WalkKit
import Derived.ProofKit
import Derived.OpenShut
import Derived.Deep.DeepHandedRow
import Derived.Lib.LaidTab
namespace Go.Proofs.Ytmioplahlbapdab.wordsBack
open Go.ChangeShapes Go.WideShapes Go.ChangeAt Go.RowKit
open Go.ChangeMaps (open_string shut_string)

theorem own : ownKnob Try.prog.godebug = none := by kernel_rfl

theorem app_list (S b : ByteArray) : (S ++ ⟨#[47]⟩ ++ b).data.toList = S.data.toList ++ 47 :: b.data.toList := by
  simp [ByteArray.data_append]
set_option maxHeartbeats 1000000 in
theorem walk (a b : ByteArray) (w : World) (ha : a.size ≤ 1048576) (hb : b.size ≤ 1048576) :
    Calls Try.prog 3 #[.string a, .string b] w fun e w' => e = .returned (.bool true) ∧ Below w.heap.size w w' := by
  have hW := fun W => RdW.write_any a W (by omega)
  have hL := Wd.wt_len a.data.toList
  have e0 : a.data.toList.length = a.size := by simp
  have hSz : (Wd.str (Wd.wt a.data.toList)).size ≤ 2097152 := by rw [Wd.str_size]; omega
  have h1 : (ByteArray.mk #[47]).size = 1 := rfl
  have hSz1 : (Wd.str (Wd.wt a.data.toList) ++ ⟨#[47]⟩).size ≤ 2097153 := by rw [ByteArray.size_append, h1]; omega
  have hR1 := fun W => RdW.read_any (Wd.str (Wd.wt a.data.toList) ++ ⟨#[47]⟩ ++ b) W (by rw [ByteArray.size_append]; omega)
  rw [app_list, Wd.str_list, Wd.back_slash] at hR1
  have hR2 := fun W => RdW.read_any (Wd.str (Wd.wt a.data.toList)) W (by omega)
  rw [Wd.str_list, Wd.back_whole] at hR2
  have hadd1 : ∀ Wq : World, (Op.stringOp .add (Wd.str (Wd.wt a.data.toList)) ⟨#[47]⟩).run Try.prog Wq = .ok (.string (Wd.str (Wd.wt a.data.toList) ++ ⟨#[47]⟩)) Wq := fun Wq => run_string_add_sum _ _ _ (by omega)
  have hadd2 : ∀ Wq : World, (Op.stringOp .add (Wd.str (Wd.wt a.data.toList) ++ ⟨#[47]⟩) b).run Try.prog Wq = .ok (.string (Wd.str (Wd.wt a.data.toList) ++ ⟨#[47]⟩ ++ b)) Wq := fun Wq => run_string_add_sum _ _ _ (by omega)
  simp only [RdW.ans] at hR1 hR2
  have e1 : Wd.str ([] : List UInt8) = ⟨#[]⟩ := rfl
  rw [e1] at hR2
  rw [Wd.str_self, Wd.str_self] at hR1
  rw [Wd.str_self] at hR2
  have HW := RdW.hide hW
  have HR1 := RdW.hide hR1
  have HR2 := RdW.hide hR2
  clear hW hR1 hR2 hL e0 hSz hSz1 h1 e1 ha hb
  generalize Wd.str (Wd.wt a.data.toList) = S at *
  generalize S ++ ⟨#[47]⟩ ++ b = S2 at *
  generalize S ++ ⟨#[47]⟩ = S1 at *
  go_enter Try.func3, Try.ntmps3
  go_wp2_with fail
  refine (WkW.wakes_any _).mono ?_
  rintro e w1 ⟨rfl, hB1⟩
  have b1 := hB1
  go_wp2_with fail
  refine (RdW.unhide HW _).mono ?_
  rintro e w2 ⟨rfl, hB2⟩
  have b2 := b1.trans (hB2.mono b1.size)
  go_wp2_with fail
  refine (RdW.unhide HR1 _).mono ?_
  rintro e w3 ⟨rfl, hB3⟩
  have b3 := b2.trans (hB3.mono b2.size)
  go_wp2_with fail
  refine (RdW.unhide HR2 _).mono ?_
  rintro e w4 ⟨rfl, hB4⟩
  have b4 := b3.trans (hB4.mono b3.size)
  go_wp2
  go_ret
  exact ⟨by first | rfl | simp, b4⟩

set_option maxRecDepth 100000 in
theorem contract (H : Type) (enc : TypeId × Value → H) (W : World) (base : Nat) (args : Array Value) (ds gs : List (DataW H)) (before : List MemPlace)
    (hval : ∀ (j : Nat) t v, Try.f3.params[j]? = some t → args[j]? = some v → Value.okWide Try.prog W .any base t v)
    (hW : DataW.Whole enc Try.prog Try.f3.params.toList Rows.wordsBackSpec.vars false W args.toList ds gs before)
    (hcond : Rows.uptoSmall H (ds ++ gs) = true) :
    Calls Try.prog 3 args W fun e W' => ∃ v, e = .returned v ∧ Rows.wordsBackSpec.post enc Try.prog Try.f3 false true false false W args v W' := by
  have hW' := hW
  obtain ⟨p, q, hA0, hV, rfl, hfz, hnd⟩ := hW
  have hA : DataW.TrodAll enc Try.prog W 0 (fun _ => true) true Try.f3.params.toList args.toList ds p := hA0
  rw [Try.params3] at hA hval
  obtain ⟨v0, vs0, d0, ds0, p0, q0, hargs, rfl, rfl, h0, r0⟩ := trodAll_cons hA
  obtain ⟨v1, vs1, d1, ds1, p1, q1, rfl, rfl, rfl, h1, r1⟩ := trodAll_cons r0
  obtain ⟨rfl, rfl, rfl⟩ := trodAll_nil r1
  obtain rfl : args = #[v0, v1] := by cases args; simp_all
  obtain ⟨rfl, rfl⟩ := trodVars_none hV
  obtain ⟨a, rfl, rfl, rfl, hs_a⟩ := open_string Try.underlying9 (hval 0 9 v0 rfl rfl) h0
  obtain ⟨b, rfl, rfl, rfl, hs_b⟩ := open_string Try.underlying9 (hval 1 9 v1 rfl rfl) h1
  clear hA0
  simp only [List.append_nil] at hW'
  simp only [List.append_nil] at hcond
  have hbk := of_decide_eq_true hcond
  simp only [Rows.uptoBulkAll, Rows.uptoBulk] at hbk
  have el_a : a.data.toList.length = a.size := by simp
  have el_b : b.data.toList.length = b.size := by simp
  refine (walk a b W (by omega) (by omega)).mono fun e W' ⟨he, bel⟩ => ?_
  subst he
  exact ⟨_, rfl, _, _, _, [], [], [], hW', trodAll_mk1 (shut_bool Try.underlying4 _), (trodAll_cons_mk (shut_string Try.underlying9 hs_a) (trodAll_cons_mk (shut_string Try.underlying9 hs_b) trodAll_mk0)), rfl, bel.frame _, fun h => by cases h⟩

theorem laid_met (os : Os) : laidMet Try.prog Rows.wordsBackUptoRow.laid ((World.holding Try.prog os ⟨#[], #[], []⟩).forCall (fun _ _ => 0) ⟨#[], #[.string ByteArray.empty, .string ByteArray.empty], []⟩).memory :=
  laidMet_of_run' 8 (by kernel_rfl) (by kernel_rfl)
theorem reads (os : Os) {H : Type} (enc : TypeId × Value → H) : ∃ places, DataW.whole enc Try.prog ((World.holding Try.prog os ⟨#[], #[], []⟩).forCall (fun _ _ => 0) ⟨#[], #[.string ByteArray.empty, .string ByteArray.empty], []⟩).memory Try.f3.params.toList Rows.wordsBackSpec.vars false #[Value.string ByteArray.empty, Value.string ByteArray.empty].toList 8 = some ([.lit (.string []), .lit (.string [])], [], places) :=
  ⟨[], by kernel_rfl⟩

set_option maxRecDepth 100000 in
theorem lifted (os : Os) (started : os.Started) (H : Type) (enc : TypeId × Value → H) (F : Stop.Interp) :
    ReturnsInHanded {} Try.checked os 3 .any ((Rows.OpenSpec.upto Rows.wordsBackSpec).preRow enc Try.prog Try.f3 Rows.wordsBackUptoRow.domain false Rows.wordsBackUptoRow.laid) (((Rows.OpenSpec.upto Rows.wordsBackSpec).at F).post enc Try.prog Try.f3 false true false false) := by
  obtain ⟨places, hx⟩ := reads os enc
  refine returnsInHanded_of_row (C := Try.checked) (s := Rows.OpenSpec.upto Rows.wordsBackSpec) own started (by kernel_rfl) Try.func3
    (witness_row_at (enc := enc) (C := Try.checked) false ((World.holding Try.prog os ⟨#[], #[], []⟩)) #[.string ByteArray.empty, .string ByteArray.empty] rfl (by kernel_rfl) (by kernel_rfl) (by kernel_rfl)
      (OpenSpec.preRow_of_cond 8 hx (by kernel_rfl) (fun k hk => by cases hk; kernel_rfl) (by kernel_rfl) (laid_met os))) ?_
  intro W base args ds gs before hval hW _ hcond _ _ _ _
  exact contract H enc W base args ds gs before hval hW (hcond _ rfl)

theorem said : Rows.WordsBackUptoSaid :=
  OpenClaim.holds_of_cond 3 Try.f3 rfl rfl rfl rfl rfl rfl rfl ⟨rfl, rfl, rfl, rfl, rfl⟩ rfl rfl rfl rfl rfl (by kernel_rfl) Try.func3 (by kernel_rfl)
    (of_decide_eq_true (by kernel_rfl)) (by unfold Func.isWrapper; first | (rw [if_pos (by decide +kernel)]; kernel_rfl) | (rw [if_neg (by decide +kernel)]; exact ⟨rfl, rfl⟩))
    (fun os started H enc _ F => by rw [OpenClaim.pre_eq_preRow]; exact lifted os started H enc F)

end Go.Proofs.Ytmioplahlbapdab.wordsBack
namespace Go.Proofs.Ytmioplahlbapdab
theorem wordsBack_holds : Rows.WordsBackUptoSaid := wordsBack.said
end Go.Proofs.Ytmioplahlbapdab
