/- WordsFirst of layer 2 returns true for every three texts: both texts begin with their common part, and then part; what stands ahead of both adds its length. -/
import Derived.Test.YtmioplahlbapdabCmA
import Derived.Test.YtmioplahlbapdabCm2
import Derived.Test.YtmioplahlbapdabRows
import Derived.WalkKit
import Derived.ProofKit
import Derived.OpenShut
import Derived.Deep.DeepHandedRow
import Derived.Lib.LaidTab
namespace Go.Proofs.Ytmioplahlbapdab.wordsFirst
open Go.ChangeShapes Go.WideShapes Go.ChangeAt Go.RowKit
open Go.ChangeMaps (open_string shut_string)

theorem own : ownKnob Try.prog.godebug = none := by kernel_rfl

theorem reach {s : ByteArray} (h : s.data.toList.length ≤ reachBytes) : s.size ≤ 140737488351232 := by
  have e : s.data.toList.length = s.size := by simp
  unfold reachBytes at h
  omega
theorem app_list (p a : ByteArray) : (p ++ a).data.toList = p.data.toList ++ a.data.toList := by
  simp [ByteArray.data_append]
set_option maxHeartbeats 2000000 in
theorem walk (p a b : ByteArray) (w : World) (hp : p.size ≤ 140737488351232) (ha : a.size ≤ 140737488351232) (hb : b.size ≤ 140737488351232) :
    Calls Try.prog 4 #[.string p, .string a, .string b] w fun e w' => e = .returned (.bool true) ∧ Below w.heap.size w w' := by
  have hA := fun W => CmW.common_any a b W (by unfold maxLen; omega)
  have hC := fun W => CmW.common_any b a W (by unfold maxLen; omega)
  rw [Wd.cm_comm] at hC
  have hP := fun W => CmW.common_any (p ++ a) (p ++ b) W (by unfold maxLen; rw [ByteArray.size_append]; omega)
  rw [app_list, app_list, Wd.cm_app] at hP
  have el : p.data.toList.length = p.size := by simp
  rw [el] at hP
  have hadd1 : ∀ Wq : World, (Op.stringOp .add p a).run Try.prog Wq = .ok (.string (p ++ a)) Wq := fun Wq => run_string_add_sum _ _ _ (by omega)
  have hadd2 : ∀ Wq : World, (Op.stringOp .add p b).run Try.prog Wq = .ok (.string (p ++ b)) Wq := fun Wq => run_string_add_sum _ _ _ (by omega)
  have HK : Hid (∀ W, Calls Try.prog 9 #[.string ⟨#[119, 97, 108, 107]⟩, .string ⟨#[119, 97, 108, 108]⟩] W fun e w' => e = .returned (.int .i64 3) ∧ ∃ q, w' = W.drewN q) := fun W => CmW.common_any ⟨#[119, 97, 108, 107]⟩ ⟨#[119, 97, 108, 108]⟩ W (by decide)
  have hext := Wd.cm_ext a b
  have hn1 := Wd.cm_le1 a.data.toList b.data.toList
  have hn2 := Wd.cm_le2 a.data.toList b.data.toList
  have ea : a.data.toList.length = a.size := by simp
  have eb : b.data.toList.length = b.size := by simp
  rw [ea] at hn1
  rw [eb] at hn2
  have HQ := CmW.hide (Wd.cm_nq a b)
  have HA := CmW.hide hA
  have HC := CmW.hide hC
  have HP := CmW.hide hP
  clear hA hC hP el ea eb
  generalize Wd.cm a.data.toList b.data.toList = n at *
  generalize p ++ a = pa at *
  generalize p ++ b = pb at *
  have i0 : ¬ (n : Int) < 0 := by omega
  have i1 : ¬ (a.size : Int) < (n : Int) := by omega
  have i2 : ¬ (b.size : Int) < (n : Int) := by omega
  have i3 : (n : Int) ≤ (a.size : Int) := by omega
  have d0 : decide ((n : Int) < 0) = false := by simp
  have d1 : decide (a.size < n) = false := by simp; omega
  have d2 : decide (b.size < n) = false := by simp; omega
  have i4 : (n : Int) ≤ (b.size : Int) := by omega
  go_enter Try.func4, Try.ntmps4
  go_wp2_with fail
  refine (CmW.unhide HA _).mono ?_
  rintro e w1 ⟨rfl, q1, rfl⟩
  have HY0 := CmW.hide (below_drewN (Below.refl w.heap.size w) q1)
  generalize w.drewN q1 = Y0 at *
  go_wp2
  go_quiet ((go_at_call 9; exact Calls.quiet_of (CmW.unhide HK _)))
  have HY := CmW.hide (below_drewN (CmW.unhide HY0) nq)
  clear HY0
  generalize Y0.drewN nq = Y at *
  by_cases j1 : n < a.size
  · by_cases j2 : n < b.size
    · have hq : ((a[n].toNat : Int) == (b[n].toNat : Int)) = false := by rw [beq_eq_false_iff_ne]; exact fun h => CmW.unhide HQ j1 j2 (Wd.byte_eq h)
      have k1 : (n : Int) < (a.size : Int) := by omega
      have k2 : (n : Int) < (b.size : Int) := by omega
      go_wp2
      go_quiet (fail)
      have HY2 := CmW.hide (below_drewN (CmW.unhide HY) nq)
      clear HY
      generalize Y.drewN nq = Y2 at *
      go_wp2_with fail
      refine (CmW.unhide HP _).mono ?_
      rintro e w3 ⟨rfl, q3, rfl⟩
      have HY3 := CmW.hide (below_drewN (CmW.unhide HY2) q3)
      clear HY2
      generalize Y2.drewN q3 = Y3 at *
      go_wp2_with fail
      refine (CmW.unhide HC _).mono ?_
      rintro e w4 ⟨rfl, q4, rfl⟩
      go_wp2
      go_ret
      exact ⟨by first | rfl | simp, below_drewN (CmW.unhide HY3) q4⟩
    · have k1 : (n : Int) < (a.size : Int) := by omega
      have k2 : ¬ (n : Int) < (b.size : Int) := by omega
      go_wp2
      go_quiet (fail)
      have HY2 := CmW.hide (below_drewN (CmW.unhide HY) nq)
      clear HY
      generalize Y.drewN nq = Y2 at *
      go_wp2_with fail
      refine (CmW.unhide HP _).mono ?_
      rintro e w3 ⟨rfl, q3, rfl⟩
      have HY3 := CmW.hide (below_drewN (CmW.unhide HY2) q3)
      clear HY2
      generalize Y2.drewN q3 = Y3 at *
      go_wp2_with fail
      refine (CmW.unhide HC _).mono ?_
      rintro e w4 ⟨rfl, q4, rfl⟩
      go_wp2
      go_ret
      exact ⟨by first | rfl | simp, below_drewN (CmW.unhide HY3) q4⟩
  · have k1 : ¬ (n : Int) < (a.size : Int) := by omega
    go_wp2
    go_quiet (fail)
    have HY2 := CmW.hide (below_drewN (CmW.unhide HY) nq)
    clear HY
    generalize Y.drewN nq = Y2 at *
    go_wp2_with fail
    refine (CmW.unhide HP _).mono ?_
    rintro e w3 ⟨rfl, q3, rfl⟩
    have HY3 := CmW.hide (below_drewN (CmW.unhide HY2) q3)
    clear HY2
    generalize Y2.drewN q3 = Y3 at *
    go_wp2_with fail
    refine (CmW.unhide HC _).mono ?_
    rintro e w4 ⟨rfl, q4, rfl⟩
    go_wp2
    go_ret
    exact ⟨by first | rfl | simp, below_drewN (CmW.unhide HY3) q4⟩

set_option maxRecDepth 100000 in
theorem contract (H : Type) (enc : TypeId × Value → H) (W : World) (base : Nat) (args : Array Value) (ds gs : List (DataW H)) (before : List MemPlace)
    (hval : ∀ (j : Nat) t v, Try.f4.params[j]? = some t → args[j]? = some v → Value.okWide Try.prog W .any base t v)
    (hW : DataW.Whole enc Try.prog Try.f4.params.toList Rows.wordsFirstSpec.vars false W args.toList ds gs before)
    (hsz : (DataW.weightsEach Try.prog (Try.f4.params.toList ++ Rows.wordsFirstSpec.plain.varTypes Try.prog) (ds ++ gs)).all (· ≤ reachBytes) = true) :
    Calls Try.prog 4 args W fun e W' => ∃ v, e = .returned v ∧ Rows.wordsFirstSpec.post enc Try.prog Try.f4 false true false false W args v W' := by
  have hW' := hW
  obtain ⟨p, q, hA0, hV, rfl, hfz, hnd⟩ := hW
  have hA : DataW.TrodAll enc Try.prog W 0 (fun _ => true) true Try.f4.params.toList args.toList ds p := hA0
  rw [Try.params4] at hA hval hsz
  obtain ⟨v0, vs0, d0, ds0, p0, q0, hargs, rfl, rfl, h0, r0⟩ := trodAll_cons hA
  obtain ⟨v1, vs1, d1, ds1, p1, q1, rfl, rfl, rfl, h1, r1⟩ := trodAll_cons r0
  obtain ⟨v2, vs2, d2, ds2, p2, q2, rfl, rfl, rfl, h2, r2⟩ := trodAll_cons r1
  obtain ⟨rfl, rfl, rfl⟩ := trodAll_nil r2
  obtain rfl : args = #[v0, v1, v2] := by cases args; simp_all
  obtain ⟨rfl, rfl⟩ := trodVars_none hV
  obtain ⟨p, rfl, rfl, rfl, hs_p⟩ := open_string Try.underlying9 (hval 0 9 v0 rfl rfl) h0
  obtain ⟨a, rfl, rfl, rfl, hs_a⟩ := open_string Try.underlying9 (hval 1 9 v1 rfl rfl) h1
  obtain ⟨b, rfl, rfl, rfl, hs_b⟩ := open_string Try.underlying9 (hval 2 9 v2 rfl rfl) h2
  clear hA0
  simp only [List.append_nil] at hW'
  refine (walk p a b W (reach (sized_string hsz (j := 0) (t := 9) rfl rfl)) (reach (sized_string hsz (j := 1) (t := 9) rfl rfl)) (reach (sized_string hsz (j := 2) (t := 9) rfl rfl))).mono fun e W' ⟨he, bel⟩ => ?_
  subst he
  exact ⟨_, rfl, _, _, _, [], [], [], hW', trodAll_mk1 (shut_bool Try.underlying4 _), (trodAll_cons_mk (shut_string Try.underlying9 hs_p) (trodAll_cons_mk (shut_string Try.underlying9 hs_a) (trodAll_cons_mk (shut_string Try.underlying9 hs_b) trodAll_mk0))), rfl, bel.frame _, fun h => by cases h⟩

theorem laid_met (os : Os) : laidMet Try.prog Rows.wordsFirstRow.laid ((World.holding Try.prog os ⟨#[], #[], []⟩).forCall (fun _ _ => 0) ⟨#[], #[.string ByteArray.empty, .string ByteArray.empty, .string ByteArray.empty], []⟩).memory :=
  laidMet_of_run' 8 (by kernel_rfl) (by kernel_rfl)
theorem reads (os : Os) {H : Type} (enc : TypeId × Value → H) : ∃ places, DataW.whole enc Try.prog ((World.holding Try.prog os ⟨#[], #[], []⟩).forCall (fun _ _ => 0) ⟨#[], #[.string ByteArray.empty, .string ByteArray.empty, .string ByteArray.empty], []⟩).memory Try.f4.params.toList Rows.wordsFirstSpec.vars false #[Value.string ByteArray.empty, Value.string ByteArray.empty, Value.string ByteArray.empty].toList 8 = some ([.lit (.string []), .lit (.string []), .lit (.string [])], [], places) :=
  ⟨[], by kernel_rfl⟩

set_option maxRecDepth 100000 in
theorem lifted (os : Os) (started : os.Started) (H : Type) (enc : TypeId × Value → H) (F : Stop.Interp) :
    ReturnsInHanded {} Try.checked os 4 .any ((OpenSpec.ofChange Rows.wordsFirstSpec).preRow enc Try.prog Try.f4 Rows.wordsFirstRow.domain false Rows.wordsFirstRow.laid) (((OpenSpec.ofChange Rows.wordsFirstSpec).at F).post enc Try.prog Try.f4 false true false false) := by
  obtain ⟨places, hx⟩ := reads os enc
  refine returnsInHanded_of_row (C := Try.checked) (s := OpenSpec.ofChange Rows.wordsFirstSpec) own started (by kernel_rfl) Try.func4
    (witness_row_at (enc := enc) (C := Try.checked) false ((World.holding Try.prog os ⟨#[], #[], []⟩)) #[.string ByteArray.empty, .string ByteArray.empty, .string ByteArray.empty] rfl (by kernel_rfl) (by kernel_rfl) (by kernel_rfl)
      (OpenSpec.preRow_of_cond 8 hx (by kernel_rfl) (fun k hk => by cases hk) (by kernel_rfl) (laid_met os))) ?_
  intro W base args ds gs before hval hW _ _ hsz _ _ _
  exact contract H enc W base args ds gs before hval hW hsz

theorem said : Rows.WordsFirstSaid :=
  OpenClaim.holds_of_cond 4 Try.f4 rfl rfl rfl rfl rfl rfl rfl ⟨rfl, rfl, rfl, rfl, rfl⟩ rfl rfl rfl rfl rfl (by kernel_rfl) Try.func4 (by kernel_rfl)
    (of_decide_eq_true (by kernel_rfl)) (by unfold Func.isWrapper; first | (rw [if_pos (by decide +kernel)]; kernel_rfl) | (rw [if_neg (by decide +kernel)]; exact ⟨rfl, rfl⟩))
    (fun os started H enc _ F => by rw [OpenClaim.pre_eq_preRow]; exact lifted os started H enc F)

end Go.Proofs.Ytmioplahlbapdab.wordsFirst
namespace Go.Proofs.Ytmioplahlbapdab
theorem wordsFirst_holds : Rows.WordsFirstSaid := wordsFirst.said
end Go.Proofs.Ytmioplahlbapdab
