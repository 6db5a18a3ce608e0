/- RecordOneForm of layer 6 returns true for every number and every two texts: a number is read back from what was written, wherever it stands, and what is read as a number is what is written of it. -/
import Derived.Test.YtdcffkahijpcbaaUx
import Derived.Test.YtdcffkahijpcbaaUq
import Derived.Test.YtdcffkahijpcbaaRows
import Derived.WalkKit
import Derived.ProofKit
import Derived.OpenShut
import Derived.Deep.DeepHandedRow
import Derived.Lib.LaidTab
namespace Go.Proofs.Ytdcffkahijpcbaa.recordOneForm
open Go.ChangeShapes Go.WideShapes Go.ChangeAt Go.RowKit
open Go.ChangeMaps (open_string shut_string)

theorem own : ownKnob Try.prog.godebug = none := by kernel_rfl

open Um
theorem rdN_err {T : List UInt8} (h : (rdN T).2.2 ≠ 0) : (rdN T).1 = 0 ∧ (rdN T).2.1 = 0 := by
  unfold rdN at h ⊢
  by_cases h0 : T = []
  · rw [if_pos h0]; exact ⟨rfl, rfl⟩
  rw [if_neg h0] at h ⊢
  by_cases h1 : 10 ≤ ahd T
  · rw [if_pos h1]; exact ⟨rfl, rfl⟩
  rw [if_neg h1] at h ⊢
  cases hb : T[ahd T]? with
  | none => exact ⟨rfl, rfl⟩
  | some b =>
    rw [hb] at h
    simp only at h ⊢
    by_cases h2 : bad (ahd T) b.toNat = true
    · rw [if_pos h2]; exact ⟨rfl, rfl⟩
    · rw [if_neg h2] at h; exact absurd rfl h
set_option maxHeartbeats 2000000 in
set_option maxRecDepth 100000 in
theorem walk (n : Int) (b s : ByteArray) (w : World) (h0 : 0 ≤ n) (h1 : n ≤ 18446744073709551615) (hb : b.size ≤ 140737488351232) (hs : s.size ≤ 140737488351232) :
    Calls Try.prog 7 #[.int .u64 n, .string b, .string s] w fun e w' => e = .returned (.bool true) ∧ Below w.heap.size w w' := by
  obtain ⟨m, rfl⟩ : ∃ m : Nat, (m : Int) = n := ⟨n.toNat, by omega⟩
  have hm : m < 18446744073709551616 := by omega
  obtain ⟨U, hU⟩ : ∃ U, U = str (uL m) := ⟨_, rfl⟩
  have hUs : U.size ≤ 10 := by rw [hU, str_size]; exact uL_ten hm
  have hUp : 0 < U.size := by rw [hU, str_size]; exact uL_pos m
  have HA := hide (fun W => uint_any m hm W)
  rw [← hU] at HA
  obtain ⟨BU, hBU⟩ : ∃ x, x = b ++ U := ⟨_, rfl⟩
  obtain ⟨Z, hZ⟩ : ∃ x, x = BU ++ s := ⟨_, rfl⟩
  have hBUs : BU.size = b.size + U.size := by rw [hBU, ByteArray.size_append]
  have hZs : Z.size = b.size + U.size + s.size := by rw [hZ, ByteArray.size_append, hBUs]
  have ha1 : ∀ W : World, (Op.stringOp .add b U).run Try.prog W = .ok (.string BU) W := fun W => by rw [hBU]; exact run_string_add_sum _ _ _ (by omega)
  have ha2 : ∀ W : World, (Op.stringOp .add BU s).run Try.prog W = .ok (.string Z) W := fun W => by rw [hZ]; exact run_string_add_sum _ _ _ (by omega)
  have hZd : (lst Z).drop b.size = uL m ++ lst s := by
    have e1 : lst Z = lst b ++ (uL m ++ lst s) := by
      rw [hZ, hBU, hU]
      simp [lst, str]
    rw [e1, ← lst_len b, List.drop_left]
  have HR1 := hide (fun W => read_uint Z b.size W (by unfold maxLen; omega) (by omega))
  have e1 : ruT ((lst Z).drop b.size) b.size = ((m : Int), (b.size : Int) + U.size, 0) := by
    unfold ruT
    rw [hZd, rdN_uL hm]
    simp only [if_true]
    rw [hU, str_size]
    rfl
  rw [e1] at HR1
  have HR2 : ∃ N X E : Int, (∀ W, Calls Try.prog 12 #[.string s, .int .i64 0] W fun e w' => e = .returned (.tuple #[.int .u64 N, .int .i64 X, .int .i64 E]) ∧ w' = W) ∧ ((¬ E = 0 ∧ N = 0 ∧ X = 0) ∨ (E = 0 ∧ ∃ (p x : Nat), N = p ∧ X = x ∧ p < 18446744073709551616 ∧ 0 < x ∧ x ≤ s.size ∧ str (uL p) = s.extract 0 x)) := by
    by_cases h : s.size = 0
    · exact ⟨0, 0, 60, fun W => read_off s 0 W (by omega), .inl ⟨by decide, rfl, rfl⟩⟩
    · have hr := fun W => read_uint s 0 W (by unfold maxLen; omega) (by omega)
      refine ⟨_, _, _, hr, ?_⟩
      unfold ruT
      simp only [List.drop_zero]
      by_cases he : (rdN (lst s)).2.2 = 0
      · right
        obtain ⟨k1, k2, k3, k4, k5, k6⟩ := rdN_ok he
        rw [if_pos he]
        refine ⟨by rw [he]; rfl, (rdN (lst s)).1, ahd (lst s) + 1, rfl, by rw [k1]; omega, k6, by omega, by rw [← lst_len]; omega, ?_⟩
        rw [k5, extract_str]
        simp [lst]
      · left
        obtain ⟨k1, k2⟩ := rdN_err he
        rw [if_neg he, k1]
        exact ⟨by omega, rfl, rfl⟩
  clear hU hZ hBU e1 hZd
  obtain ⟨N, X, E, hR2, hcase⟩ := HR2
  have HR2 := hide hR2
  clear hR2
  rcases hcase with ⟨hE, rfl, rfl⟩ | ⟨rfl, p, x, rfl, rfl, hp, hx, hxs, he⟩
  · have hEb : (E == 0) = false := by simp [hE]
    go_enter Try.func7, Try.ntmps7
    go_wp2_with (first | (go_at_call 9; refine (wakes_any _).mono ?_; rintro e w1 ⟨rfl, hB1⟩; have HB1 := hide hB1; clear hB1) | (go_at_call 10; refine (unhide HA _).mono ?_; rintro e w2 ⟨rfl, hB2⟩; have HB2 := hide ((unhide HB1).trans (hB2.mono (unhide HB1).size)); clear hB2) | (go_at_call 12; with_reducible (show Calls _ _ #[.string Z, _] _ _); refine (unhide HR1 _).mono ?_; rintro e w3 ⟨rfl, hw3⟩; subst hw3) | (go_at_call 12; refine (unhide HR2 _).mono ?_; rintro e w4 ⟨rfl, hw4⟩; subst hw4))
    go_ret
    exact ⟨rfl, unhide HB2⟩
  · have HA2 := hide (fun W => uint_any p hp W)
    have hpz : (p : Int) ≤ 18446744073709551615 := by omega
    have hxz : 0 < (x : Int) := by omega
    have hxsz : (x : Int) ≤ s.size := by omega
    rw [he] at HA2
    obtain ⟨P, hP⟩ : ∃ P, s.extract 0 x = P := ⟨_, rfl⟩
    rw [hP] at HA2
    clear he
    go_enter Try.func7, Try.ntmps7
    go_wp2_with (first | (go_at_call 9; refine (wakes_any _).mono ?_; rintro e w1 ⟨rfl, hB1⟩; have HB1 := hide hB1; clear hB1) | (go_at_call 10; refine (unhide HA _).mono ?_; rintro e w2 ⟨rfl, hB2⟩; have HB2 := hide ((unhide HB1).trans (hB2.mono (unhide HB1).size)); clear hB2) | (go_at_call 12; with_reducible (show Calls _ _ #[.string Z, _] _ _); refine (unhide HR1 _).mono ?_; rintro e w3 ⟨rfl, hw3⟩; subst hw3) | (go_at_call 12; refine (unhide HR2 _).mono ?_; rintro e w4 ⟨rfl, hw4⟩; subst hw4))
    refine wp_region_below (by kernel_rfl) (by kernel_rfl) ?_
    go_big_quiet_want
    go_big_quiet_op
    go_big_quiet_on
    go_big_quiet_want
    go_big_quiet_op
    first | go_big_quiet_on | (refine ⟨_, fun W hW => rfl, ?_⟩; go_big_quiet_on)
    go_big_quiet_want
    go_big_quiet_op
    go_big_quiet_on
    go_big_quiet_want
    go_big_quiet_op
    go_big_quiet_on
    go_big_quiet_want
    go_big_quiet_op
    go_big_quiet_on
    go_big_quiet_want
    go_big_quiet_op
    first | go_big_quiet_on | (refine ⟨_, fun W hW => rfl, ?_⟩; go_big_quiet_on)
    go_big_quiet_want
    go_big_quiet_op
    first | go_big_quiet_on | (refine ⟨_, fun W hW => rfl, ?_⟩; go_big_quiet_on)
    go_big_quiet_want
    go_big_quiet_op
    first | go_big_quiet_on | (refine ⟨_, fun W hW => rfl, ?_⟩; go_big_quiet_on)
    go_big_quiet_want
    go_big_quiet_op
    go_big_quiet_on
    go_big_quiet_want
    go_big_quiet_op
    go_big_quiet_on
    go_big_quiet_want
    go_big_quiet_op
    apply Exists.intro
    refine ⟨fun W hW => calls_keep (unhide HA2 W) hW, ?_⟩
    go_big_quiet_on
    go_big_quiet_want
    go_big_quiet_op
    go_big_quiet_on
    go_big_quiet_want
    go_big_quiet_op
    go_big_quiet_on
    go_big_quiet_want
    go_big_quiet_op
    first | go_big_quiet_on | (refine ⟨_, fun W hW => rfl, ?_⟩; go_big_quiet_on)
    go_big_quiet_want
    go_big_quiet_op
    first | go_big_quiet_on | (refine ⟨_, fun W hW => rfl, ?_⟩; go_big_quiet_on)
    go_big_quiet_want
    go_big_quiet_op
    first | go_big_quiet_on | (refine ⟨_, fun W hW => rfl, ?_⟩; go_big_quiet_on)
    go_big_quiet_want
    go_big_quiet_op
    go_big_quiet_on
    refine wpQuiet_nil ?_
    intro V1 hV1
    go_wp2
    go_ret
    exact ⟨by simp, (unhide HB2).trans (hV1.mono (unhide HB2).size)⟩

set_option maxRecDepth 100000 in
theorem contract (H : Type) (enc : TypeId × Value → H) (W : World) (base : Nat) (args : Array Value) (ds gs : List (DataW H)) (before : List MemPlace)
    (hval : ∀ (j : Nat) t v, Try.f7.params[j]? = some t → args[j]? = some v → Value.okWide Try.prog W .any base t v)
    (hW : DataW.Whole enc Try.prog Try.f7.params.toList Rows.recordOneFormSpec.vars false W args.toList ds gs before)
    (hsz : (DataW.weightsEach Try.prog (Try.f7.params.toList ++ Rows.recordOneFormSpec.plain.varTypes Try.prog) (ds ++ gs)).all (· ≤ reachBytes) = true) :
    Calls Try.prog 7 args W fun e W' => ∃ v, e = .returned v ∧ Rows.recordOneFormSpec.post enc Try.prog Try.f7 false true false false W args v W' := by
  have hW' := hW
  obtain ⟨p, q, hA0, hV, rfl, hfz, hnd⟩ := hW
  have hA : DataW.TrodAll enc Try.prog W 0 (fun _ => true) true Try.f7.params.toList args.toList ds p := hA0
  rw [Try.params7] at hA hval hsz
  obtain ⟨v0, vs0, d0, ds0, p0, q0, hargs, rfl, rfl, h0, r0⟩ := trodAll_cons hA
  obtain ⟨v1, vs1, d1, ds1, p1, q1, rfl, rfl, rfl, h1, r1⟩ := trodAll_cons r0
  obtain ⟨v2, vs2, d2, ds2, p2, q2, rfl, rfl, rfl, h2, r2⟩ := trodAll_cons r1
  obtain ⟨rfl, rfl, rfl⟩ := trodAll_nil r2
  obtain rfl : args = #[v0, v1, v2] := by cases args; simp_all
  obtain ⟨rfl, rfl⟩ := trodVars_none hV
  obtain ⟨n, rfl, rfl, rfl, wf_n⟩ := open_int Try.underlying22 (hval 0 22 v0 rfl rfl) h0
  obtain ⟨lo_n, hi_n⟩ := bounds_u64 wf_n
  obtain ⟨b, rfl, rfl, rfl, hs_b⟩ := open_string Try.underlying9 (hval 1 9 v1 rfl rfl) h1
  obtain ⟨s, rfl, rfl, rfl, hs_s⟩ := open_string Try.underlying9 (hval 2 9 v2 rfl rfl) h2
  clear hA0
  simp only [List.append_nil] at hW'
  have hwt : ∀ y ∈ DataW.weightsEach Try.prog ([22, 9, 9] ++ (Rows.recordOneFormSpec).plain.varTypes Try.prog) [DataW.lit (.int .u64 n), .lit (.string b.data.toList), .lit (.string s.data.toList)], y ≤ reachBytes := fun y hy => by
    have := List.all_eq_true.1 hsz y (by simpa using hy)
    simpa using this
  have hrb : b.size ≤ 140737488351232 := by
    have := hwt b.data.toList.length (by simp [DataW.weightsEach, DataW.weights])
    have h3 : reachBytes = 140737488351232 := by decide
    have h4 : b.data.toList.length = b.size := by simp
    omega
  have hrs : s.size ≤ 140737488351232 := by
    have := hwt s.data.toList.length (by simp [DataW.weightsEach, DataW.weights])
    have h3 : reachBytes = 140737488351232 := by decide
    have h4 : s.data.toList.length = s.size := by simp
    omega
  refine (walk n b s W lo_n hi_n hrb hrs).mono fun e W' ⟨he, bel⟩ => ?_
  subst he
  exact ⟨_, rfl, _, _, _, [], [], [], hW', trodAll_mk1 (shut_bool Try.underlying4 _), (trodAll_cons_mk (shut_int Try.underlying22 wf_n) (trodAll_cons_mk (shut_string Try.underlying9 hs_b) (trodAll_cons_mk (shut_string Try.underlying9 hs_s) trodAll_mk0))), rfl, bel.frame _, fun h => by cases h⟩

theorem laid_met (os : Os) : laidMet Try.prog Rows.recordOneFormRow.laid ((World.holding Try.prog os ⟨#[], #[], []⟩).forCall (fun _ _ => 0) ⟨#[], #[.int .u64 0, .string ByteArray.empty, .string ByteArray.empty], []⟩).memory :=
  laidMet_of_run' 8 (by kernel_rfl) (by kernel_rfl)
theorem reads (os : Os) {H : Type} (enc : TypeId × Value → H) : ∃ places, DataW.whole enc Try.prog ((World.holding Try.prog os ⟨#[], #[], []⟩).forCall (fun _ _ => 0) ⟨#[], #[.int .u64 0, .string ByteArray.empty, .string ByteArray.empty], []⟩).memory Try.f7.params.toList Rows.recordOneFormSpec.vars false #[Value.int .u64 0, Value.string ByteArray.empty, Value.string ByteArray.empty].toList 8 = some ([.lit (.int .u64 0), .lit (.string []), .lit (.string [])], [], places) :=
  ⟨[], by kernel_rfl⟩

set_option maxRecDepth 100000 in
theorem lifted (os : Os) (started : os.Started) (H : Type) (enc : TypeId × Value → H) (F : Stop.Interp) :
    ReturnsInHanded {} Try.checked os 7 .any ((OpenSpec.ofChange Rows.recordOneFormSpec).preRow enc Try.prog Try.f7 Rows.recordOneFormRow.domain false Rows.recordOneFormRow.laid) (((OpenSpec.ofChange Rows.recordOneFormSpec).at F).post enc Try.prog Try.f7 false true false false) := by
  obtain ⟨places, hx⟩ := reads os enc
  refine returnsInHanded_of_row (C := Try.checked) (s := OpenSpec.ofChange Rows.recordOneFormSpec) own started (by kernel_rfl) Try.func7
    (witness_row_at (enc := enc) (C := Try.checked) false ((World.holding Try.prog os ⟨#[], #[], []⟩)) #[.int .u64 0, .string ByteArray.empty, .string ByteArray.empty] rfl (by kernel_rfl) (by kernel_rfl) (by kernel_rfl)
      (OpenSpec.preRow_of_cond 8 hx (by kernel_rfl) (fun k hk => by cases hk) (by kernel_rfl) (laid_met os))) ?_
  intro W base args ds gs before hval hW _ _ hsz _ _ _
  exact contract H enc W base args ds gs before hval hW hsz

theorem said : Rows.RecordOneFormSaid :=
  OpenClaim.holds_of_cond 7 Try.f7 rfl rfl rfl rfl rfl rfl rfl ⟨rfl, rfl, rfl, rfl, rfl⟩ rfl rfl rfl rfl rfl (by kernel_rfl) Try.func7 (by kernel_rfl)
    (of_decide_eq_true (by kernel_rfl)) (by unfold Func.isWrapper; first | (rw [if_pos (by decide +kernel)]; kernel_rfl) | (rw [if_neg (by decide +kernel)]; exact ⟨rfl, rfl⟩))
    (fun os started H enc _ F => by rw [OpenClaim.pre_eq_preRow]; exact lifted os started H enc F)

end Go.Proofs.Ytdcffkahijpcbaa.recordOneForm
namespace Go.Proofs.Ytdcffkahijpcbaa
theorem recordOneForm_holds : Rows.RecordOneFormSaid := recordOneForm.said
end Go.Proofs.Ytdcffkahijpcbaa
