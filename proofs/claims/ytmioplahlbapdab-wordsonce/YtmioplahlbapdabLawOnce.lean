/- WordsOnce of layer 2 returns true for every text: the letters of fit bytes hold each of them once, in the order in which they come first; letters of letters are themselves. -/
import Derived.Test.YtmioplahlbapdabLtA
import Derived.Test.YtmioplahlbapdabUn
import Derived.Test.YtmioplahlbapdabRdW
import Derived.Test.YtmioplahlbapdabRows
import Derived.WalkKit
import Derived.ProofKit
import Derived.OpenShut
import Derived.Deep.DeepHandedRow
import Derived.Lib.LaidTab
namespace Go.Proofs.Ytmioplahlbapdab.wordsOnce
open Go.ChangeShapes Go.WideShapes Go.ChangeAt Go.RowKit
open Go.ChangeMaps (open_string shut_string)

theorem own : ownKnob Try.prog.godebug = none := by kernel_rfl

theorem reach {s : ByteArray} (h : s.data.toList.length ≤ reachBytes) : s.size ≤ 140737488351232 := by
  have e : s.data.toList.length = s.size := by simp
  unfold reachBytes at h
  omega
theorem len_size (x : ByteArray) : x.data.toList.length = x.size := by simp
theorem o_list (G : ByteArray) : ((⟨#[111]⟩ : ByteArray) ++ G).data.toList = 111 :: G.data.toList := by
  simp [ByteArray.data_append]
theorem ok_o (l : List UInt8) : VlW.okB (111 :: l.filter Wd.fit) = true := by
  unfold VlW.okB
  rw [Wd.fit_all]; rfl
theorem ok_u (l : List UInt8) : VlW.okB (Wd.uq [] (111 :: l.filter Wd.fit)) = true := by
  unfold VlW.okB
  rw [Wd.uq_all _ (Wd.fit_all l), Wd.uq_some]; rfl
theorem ext_one (s : ByteArray) (k : Nat) (h : k < s.size) : (s.extract k (k + 1)).size = 1 := by
  rw [ByteArray.size_extract]; omega
theorem uq_len (l acc : List UInt8) : (Wd.uq acc l).length ≤ acc.length + l.length := by
  induction l generalizing acc with
  | nil => simp [Wd.uq]
  | cons c t ih =>
    simp only [Wd.uq, List.length_cons]
    split
    · have := ih acc; omega
    · have := ih (acc ++ [c]); simp only [List.length_append, List.length_singleton] at this; omega

set_option maxHeartbeats 4000000 in
theorem walk (s : ByteArray) (w : World) (hs : s.size ≤ 140737488351232) :
    Calls Try.prog 5 #[.string s] w fun e w' => e = .returned (.bool true) ∧ Below w.heap.size w w' := by
  go_enter Try.func5, Try.ntmps5
  go_wp2
  go_loop [3, 4] (fun g i => ∃ k : Nat, k ≤ s.size ∧ i = .int .i64 k ∧ g = .string (Wd.str ((s.data.toList.take k).filter Wd.fit))) (fun _ i => s.size - (intOf i).toNat)
  case atStart => exact ⟨0, Nat.zero_le _, rfl, rfl⟩
  case round =>
    obtain ⟨k, hk, rfl, rfl⟩ := hrel
    by_cases hlt : k < s.size
    · by_cases h1 : 32 < (s[k].toNat : Int)
      · by_cases h2 : (s[k].toNat : Int) = 127
        · have HS := Bts.hide (Wd.fl_no s hlt (Wd.unfit_del h2))
          have e2 : ((s[k].toNat : Int) != 127) = false := by rw [h2]; rfl
          clear h2
          obtain ⟨G, hG⟩ : ∃ G, G = Wd.str ((s.data.toList.take k).filter Wd.fit) := ⟨_, rfl⟩
          rw [← hG]
          have HG := Bts.hide hG
          clear hG
          go_wp2
          go_round
          case rel => exact ⟨k + 1, by omega, by go_num, by rw [Bts.unhide HS, Bts.unhide HG]⟩
          case measure => simp [intOf]; omega
        · have HS := Bts.hide (Wd.fl_yes s hlt (Wd.fit_of h1 h2))
          have e2 : ((s[k].toNat : Int) != 127) = true := by rw [bne_iff_ne]; exact h2
          have hl := Wd.fl_len (s.data.toList.take k)
          rw [Wd.take_len s k hk] at hl
          have hz : (Wd.str ((s.data.toList.take k).filter Wd.fit)).size ≤ k := by rw [Wd.str_size]; exact hl
          have he := ext_one s k hlt
          have hwr : IntKind.i64.wrap ((k : Int) + 1) = (k : Int) + 1 := RdW.wrap_small (by omega) (by omega)
          have hadd : ∀ Wq : World, (Op.stringOp .add (Wd.str ((s.data.toList.take k).filter Wd.fit)) (s.extract k (k + 1))).run Try.prog Wq = .ok (.string (Wd.str ((s.data.toList.take k).filter Wd.fit) ++ s.extract k (k + 1))) Wq := fun Wq => run_string_add_sum _ _ _ (by omega)
          rw [← Bts.unhide HS] at hadd
          clear h2 hl hz he HS
          generalize Wd.str ((s.data.toList.take k).filter Wd.fit) = G at *
          go_wp2
          go_round
          case rel => exact ⟨k + 1, by omega, by go_num, rfl⟩
          case measure => simp [intOf]; omega
      · have HS := Bts.hide (Wd.fl_no s hlt (Wd.unfit_lo (by omega)))
        obtain ⟨G, hG⟩ : ∃ G, G = Wd.str ((s.data.toList.take k).filter Wd.fit) := ⟨_, rfl⟩
        rw [← hG]
        have HG := Bts.hide hG
        clear hG
        go_wp2
        go_round
        case rel => exact ⟨k + 1, by omega, by go_num, by rw [Bts.unhide HS, Bts.unhide HG]⟩
        case measure => simp [intOf]; omega
    · rw [Wd.take_full s k (by omega)]
      obtain ⟨G, hG⟩ : ∃ G, G = Wd.str (s.data.toList.filter Wd.fit) := ⟨_, rfl⟩
      rw [← hG]
      have hGl : G.data.toList = s.data.toList.filter Wd.fit := by rw [hG, Wd.str_list]
      have hGz : G.size ≤ s.size := by rw [hG, Wd.str_size]; exact Nat.le_trans (Wd.fl_len _) (by simp)
      have hS : ((⟨#[111]⟩ : ByteArray) ++ G).data.toList = 111 :: s.data.toList.filter Wd.fit := by rw [o_list, hGl]
      have h1 : (ByteArray.mk #[111]).size = 1 := rfl
      have hSz : ((⟨#[111]⟩ : ByteArray) ++ G).size = G.size + 1 := by rw [ByteArray.size_append, h1]; omega
      have hadd : ∀ Wq : World, (Op.stringOp .add ⟨#[111]⟩ G).run Try.prog Wq = .ok (.string (⟨#[111]⟩ ++ G)) Wq := fun Wq => run_string_add_sum _ _ _ (by omega)
      have hL1 := fun W => LtW.letters_ok (⟨#[111]⟩ ++ G) W (by omega) (by rw [hS]; exact ok_o _)
      have hul := uq_len ((⟨#[111]⟩ : ByteArray) ++ G).data.toList []
      have hll := len_size ((⟨#[111]⟩ : ByteArray) ++ G)
      have hok := ok_u s.data.toList
      rw [← hS] at hok
      clear hS hG hGl h1
      generalize (⟨#[111]⟩ : ByteArray) ++ G = S at *
      obtain ⟨T, hT⟩ : ∃ T, T = Wd.str (Wd.uq [] S.data.toList) := ⟨_, rfl⟩
      rw [← hT] at hL1
      have hTl : T.data.toList = Wd.uq [] S.data.toList := by rw [hT, Wd.str_list]
      have hTz : T.size ≤ G.size + 1 := by rw [hT, Wd.str_size]; rw [List.length_nil] at hul; omega
      have hL2 := fun W => LtW.letters_ok T W (by omega) (by rw [hTl]; exact hok)
      rw [hTl, Wd.uq_uq, ← hT] at hL2
      have HU := Bts.hide hTl.symm
      have HL1 := Bts.hide hL1
      have HL2 := Bts.hide hL2
      clear hL1 hL2 hTl hT hok hul hll
      go_wp2_with fail
      refine (Bts.unhide HL1 _).mono ?_
      rintro e w1 ⟨rfl, hB1⟩
      go_wp2_with fail
      refine (Bts.unhide HL2 _).mono ?_
      rintro e w2 ⟨rfl, hB2⟩
      have HB := Bts.hide (hB1.trans (hB2.mono hB1.size))
      clear hB1 hB2 HL1 HL2 hlt hk
      go_wp2
      go_loop [8, 9] (fun a i => ∃ k : Nat, k ≤ S.size ∧ i = .int .i64 k ∧ a = .int .i64 ((Wd.uq [] (S.data.toList.take k)).length : Nat)) (fun _ i => S.size - (intOf i).toNat)
      case atStart => exact ⟨0, Nat.zero_le _, rfl, rfl⟩
      case round =>
        obtain ⟨k, hk, rfl, rfl⟩ := hrel
        have hUl := Wd.un_len (k := k) (Bts.unhide HU)
        have HUt := Bts.hide (Wd.un_take (k := k) (Bts.unhide HU))
        have HUe := Bts.hide (Wd.un_end (k := k) (Bts.unhide HU))
        by_cases hlt : k < S.size
        · have HA := Bts.hide (Wd.un_again (S := S) hlt)
          have HN := Bts.hide (Wd.un_new (S := S) hlt)
          have HT := Bts.hide (Wd.un_at (Bts.unhide HU) hlt)
          obtain ⟨m, hm⟩ : ∃ m, m = (Wd.uq [] (S.data.toList.take k)).length := ⟨_, rfl⟩
          rw [← hm]
          rw [← hm] at hUl
          have HM := Bts.hide hm
          clear hm
          have hk1 : (k : Int) < (G.size : Int) + 1 := by omega
          go_wp2
          go_loop [11, 12] (fun a j => ∃ q : Nat, q ≤ m ∧ j = .int .i64 q ∧ a = .bool ((T.data.toList.take q).contains S[k])) (fun _ j => m - (intOf j).toNat)
          case atStart => exact ⟨0, Nat.zero_le _, rfl, rfl⟩
          case round =>
            obtain ⟨q, hq, rfl, rfl⟩ := hrel
            by_cases hqm : q < m
            · have HC := Bts.hide (Wd.con_step T q S[k] (by omega))
              have hqT : q < T.size := by omega
              cases hcon : (T.data.toList.take q).contains S[k] with
              | true =>
                have HD : Hid ((T.data.toList.take (q + 1)).contains S[k] = true) := by rw [Hid, Bts.unhide HC, hcon]; rfl
                clear hcon HC
                go_wp2
                go_round
                case rel => exact ⟨q + 1, by omega, by go_num, by rw [Bts.unhide HD]⟩
                case measure => simp [intOf]; omega
              | false =>
                have HD : Hid ((T.data.toList.take (q + 1)).contains S[k] = ((T[q].toNat : Int) == (S[k].toNat : Int))) := by rw [Hid, Bts.unhide HC, hcon]; rfl
                clear hcon HC
                go_wp2
                go_round
                case rel => exact ⟨q + 1, by omega, by go_num, by rw [Bts.unhide HD]⟩
                case measure => simp [intOf]; omega
            · have hqm2 : q = m := by omega
              have HUc : Hid ((T.data.toList.take q).contains S[k] = (Wd.uq [] (S.data.toList.take k)).contains S[k]) := by rw [Hid, hqm2, Bts.unhide HM, Bts.unhide HUt]
              cases hcon : (T.data.toList.take q).contains S[k] with
              | true =>
                have HD := Bts.hide (Bts.unhide HA ((Bts.unhide HUc).symm.trans hcon))
                clear hcon HUc HA HN HT
                go_wp2
                go_round
                case rel => exact ⟨k + 1, by omega, by go_num, by rw [Bts.unhide HD, ← Bts.unhide HM]⟩
                case measure => simp [intOf]; omega
              | false =>
                have hcf := (Bts.unhide HUc).symm.trans hcon
                have HD := Bts.hide (Bts.unhide HN hcf)
                obtain ⟨ht, hTm⟩ := Bts.unhide HT hcf
                have hmT : m < T.size := by rw [Bts.unhide HM]; exact ht
                have hTm2 : T[m] = S[k] := by
                  rw [← hTm]
                  congr 1
                have hne : ((T[m].toNat : Int) != (S[k].toNat : Int)) = false := by rw [hTm2]; simp
                have HL : Hid ((Wd.uq [] (S.data.toList.take (k + 1))).length = m + 1) := by rw [Hid, Bts.unhide HD, List.length_append, ← Bts.unhide HM]; rfl
                clear hcon HUc HA HN HT hcf HD hTm hTm2 ht hUl
                go_wp2
                go_round
                case rel => exact ⟨k + 1, by omega, by go_num, by rw [Bts.unhide HL]; rfl⟩
                case measure => simp [intOf]; omega
        · have hE := Bts.unhide HUe (by omega)
          rw [hE]
          have hk1 : ¬ (k : Int) < (G.size : Int) + 1 := by omega
          clear HUt HUe hE hUl
          go_wp2
          go_ret
          exact ⟨by first | rfl | simp, Bts.unhide HB⟩

set_option maxRecDepth 100000 in
theorem contract (H : Type) (enc : TypeId × Value → H) (W : World) (base : Nat) (args : Array Value) (ds gs : List (DataW H)) (before : List MemPlace)
    (hval : ∀ (j : Nat) t v, Try.f5.params[j]? = some t → args[j]? = some v → Value.okWide Try.prog W .any base t v)
    (hW : DataW.Whole enc Try.prog Try.f5.params.toList Rows.wordsOnceSpec.vars false W args.toList ds gs before)
    (hsz : (DataW.weightsEach Try.prog (Try.f5.params.toList ++ Rows.wordsOnceSpec.plain.varTypes Try.prog) (ds ++ gs)).all (· ≤ reachBytes) = true) :
    Calls Try.prog 5 args W fun e W' => ∃ v, e = .returned v ∧ Rows.wordsOnceSpec.post enc Try.prog Try.f5 false true false false W args v W' := by
  have hW' := hW
  obtain ⟨p, q, hA0, hV, rfl, hfz, hnd⟩ := hW
  have hA : DataW.TrodAll enc Try.prog W 0 (fun _ => true) true Try.f5.params.toList args.toList ds p := hA0
  rw [Try.params5] at hA hval hsz
  obtain ⟨v0, vs0, d0, ds0, p0, q0, hargs, rfl, rfl, h0, r0⟩ := trodAll_cons hA
  obtain ⟨rfl, rfl, rfl⟩ := trodAll_nil r0
  obtain rfl : args = #[v0] := by cases args; simp_all
  obtain ⟨rfl, rfl⟩ := trodVars_none hV
  obtain ⟨s, rfl, rfl, rfl, hs_s⟩ := open_string Try.underlying9 (hval 0 9 v0 rfl rfl) h0
  clear hA0
  simp only [List.append_nil] at hW'
  refine (walk s W (reach (sized_string hsz (j := 0) (t := 9) rfl rfl))).mono fun e W' ⟨he, bel⟩ => ?_
  subst he
  exact ⟨_, rfl, _, _, _, [], [], [], hW', trodAll_mk1 (shut_bool Try.underlying4 _), (trodAll_cons_mk (shut_string Try.underlying9 hs_s) trodAll_mk0), rfl, bel.frame _, fun h => by cases h⟩

theorem laid_met (os : Os) : laidMet Try.prog Rows.wordsOnceRow.laid ((World.holding Try.prog os ⟨#[], #[], []⟩).forCall (fun _ _ => 0) ⟨#[], #[.string ByteArray.empty], []⟩).memory :=
  laidMet_of_run' 8 (by kernel_rfl) (by kernel_rfl)
theorem reads (os : Os) {H : Type} (enc : TypeId × Value → H) : ∃ places, DataW.whole enc Try.prog ((World.holding Try.prog os ⟨#[], #[], []⟩).forCall (fun _ _ => 0) ⟨#[], #[.string ByteArray.empty], []⟩).memory Try.f5.params.toList Rows.wordsOnceSpec.vars false #[Value.string ByteArray.empty].toList 8 = some ([.lit (.string [])], [], places) :=
  ⟨[], by kernel_rfl⟩

set_option maxRecDepth 100000 in
theorem lifted (os : Os) (started : os.Started) (H : Type) (enc : TypeId × Value → H) (F : Stop.Interp) :
    ReturnsInHanded {} Try.checked os 5 .any ((OpenSpec.ofChange Rows.wordsOnceSpec).preRow enc Try.prog Try.f5 Rows.wordsOnceRow.domain false Rows.wordsOnceRow.laid) (((OpenSpec.ofChange Rows.wordsOnceSpec).at F).post enc Try.prog Try.f5 false true false false) := by
  obtain ⟨places, hx⟩ := reads os enc
  refine returnsInHanded_of_row (C := Try.checked) (s := OpenSpec.ofChange Rows.wordsOnceSpec) own started (by kernel_rfl) Try.func5
    (witness_row_at (enc := enc) (C := Try.checked) false ((World.holding Try.prog os ⟨#[], #[], []⟩)) #[.string ByteArray.empty] rfl (by kernel_rfl) (by kernel_rfl) (by kernel_rfl)
      (OpenSpec.preRow_of_cond 8 hx (by kernel_rfl) (fun k hk => by cases hk) (by kernel_rfl) (laid_met os))) ?_
  intro W base args ds gs before hval hW _ _ hsz _ _ _
  exact contract H enc W base args ds gs before hval hW hsz

theorem said : Rows.WordsOnceSaid :=
  OpenClaim.holds_of_cond 5 Try.f5 rfl rfl rfl rfl rfl rfl rfl ⟨rfl, rfl, rfl, rfl, rfl⟩ rfl rfl rfl rfl rfl (by kernel_rfl) Try.func5 (by kernel_rfl)
    (of_decide_eq_true (by kernel_rfl)) (by unfold Func.isWrapper; first | (rw [if_pos (by decide +kernel)]; kernel_rfl) | (rw [if_neg (by decide +kernel)]; exact ⟨rfl, rfl⟩))
    (fun os started H enc _ F => by rw [OpenClaim.pre_eq_preRow]; exact lifted os started H enc F)

end Go.Proofs.Ytmioplahlbapdab.wordsOnce
namespace Go.Proofs.Ytmioplahlbapdab
theorem wordsOnce_holds : Rows.WordsOnceSaid := wordsOnce.said
end Go.Proofs.Ytmioplahlbapdab
