/- CondLiteral of layer 4 returns true for every two texts: a text of bytes that mean nothing is a pattern of itself. -/
import Derived.Test.YtgaagbjbolfbjabLiM
import Derived.Test.YtgaagbjbolfbjabRows
import Derived.WalkKit
import Derived.ProofKit
import Derived.OpenShut
import Derived.Deep.DeepHandedRow
import Derived.Lib.LaidTab
namespace Go.Proofs.Ytgaagbjbolfbjab.condLiteral
open Go.ChangeShapes Go.WideShapes Go.ChangeAt Go.RowKit
open Go.ChangeMaps (open_string shut_string)

theorem own : ownKnob Try.prog.godebug = none := by kernel_rfl

open Pt Cd
attribute [local go_sem ↓] Pt.load_as
attribute [local go_sem] Pt.ldP_new Pt.ldP_drew
theorem reach {s : ByteArray} (h : s.data.toList.length ≤ reachBytes) : s.size ≤ 140737488355328 := by
  have e : s.data.toList.length = s.size := by simp
  unfold reachBytes at h
  omega
/-- what is read, and asked, of a text of plain bytes -/
theorem facts (L : List UInt8) (t : ByteArray) (h : Plain L) (h0 : L ≠ []) (h1 : L.length ≤ 16) (ht : t.size ≤ 140737488355328) :
    ∃ X : Array Value, Sz65 X ∧ X.all (·.oneCell') = true ∧ (∀ W, Calls Try.prog 7 #[.string (str L)] W fun e w' => e = .returned (.tuple #[.agg X, .int .i64 0]) ∧ Below W.heap.size W w') ∧
      (∀ W, Calls Try.prog 12 #[.agg X] W fun e w' => e = .returned (.int .i64 (str L).size) ∧ Below W.heap.size W w') ∧
      (∀ W, Calls Try.prog 13 #[.agg X, .string (str L ++ t)] W fun e w' => e = .returned (.bool true) ∧ Below W.heap.size W w') ∧
      (∀ W, Calls Try.prog 14 #[.agg X, .string (t ++ str L)] W fun e w' => e = .returned (.bool true) ∧ Below W.heap.size W w') ∧
      (∀ W, Calls Try.prog 13 #[.agg X, .string t] W fun e w' => e = .returned (.bool (decide ((str L).size ≤ t.size) && ((t.extract 0 (str L).size).toList == (str L).toList))) ∧ Below W.heap.size W w') ∧
      (∀ W, Calls Try.prog 14 #[.agg X, .string t] W fun e w' => e = .returned (.bool (decide ((str L).size ≤ t.size) && ((t.extract (t.size - (str L).size) t.size).toList == (str L).toList))) ∧ Below W.heap.size W w') := by
  have hn := str_size L
  have hl : t.data.toList.length = t.size := by simp
  have hlen : (rdP L).length = L.length := by rw [rdP_lit h h0 h1, List.length_map]
  refine ⟨patC (rdP L), sz_pat L, patC_one _, fun W => ?_, fun W => ?_, fun W => ?_, fun W => ?_, fun W => ?_, fun W => ?_⟩
  · have := read_any (str L) W
    rw [str_list, rdV, rd_lit h h0 h1] at this
    rw [rdP, rd_lit h h0 h1]
    exact this
  · have := len_any (rdP L) W
    rw [hlen, ← hn] at this
    exact this
  · have := starts_any (rdP L) (str L ++ t) W (rdP_len L)
    rw [app_list, str_list, starts_app h h0 h1] at this
    exact this
  · have := ends_any (rdP L) (t ++ str L) W (rdP_len L) (by rw [ByteArray.size_append, hn]; unfold maxLen; omega)
    rw [app_list, str_list, ends_app h h0 h1] at this
    exact this
  · have := starts_any (rdP L) t W (rdP_len L)
    have e : startsB (rdP L) t.data.toList = (decide ((str L).size ≤ t.size) && ((t.extract 0 (str L).size).toList == (str L).toList)) := by
      rw [hn]
      by_cases hle : L.length ≤ t.size
      · rw [starts_lit h h0 h1 (by omega), decide_eq_true hle, Bool.true_and, ByteArray.toList_eq, ByteArray.toList_eq, str_list, extract_str, str_list, List.drop_zero, Nat.sub_zero]
      · rw [starts_few h h0 h1 (by omega), decide_eq_false hle, Bool.false_and]
    rw [e] at this
    exact this
  · have := ends_any (rdP L) t W (rdP_len L) (by unfold maxLen; omega)
    have e : endsB (rdP L) t.data.toList = (decide ((str L).size ≤ t.size) && ((t.extract (t.size - (str L).size) t.size).toList == (str L).toList)) := by
      rw [hn]
      by_cases hle : L.length ≤ t.size
      · rw [ends_lit h h0 h1 (by omega), decide_eq_true hle, Bool.true_and, ByteArray.toList_eq, ByteArray.toList_eq, str_list, extract_str, str_list, hl, List.take_of_length_le (by simp)]
      · rw [ends_few h h0 h1 (by omega), decide_eq_false hle, Bool.false_and]
    rw [e] at this
    exact this
set_option maxHeartbeats 2000000 in
set_option maxRecDepth 100000 in
theorem walk (s t : ByteArray) (w : World) (hs : s.size ≤ 140737488355328) (ht : t.size ≤ 140737488355328) :
    Calls Try.prog 5 #[.string s, .string t] w fun e w' => e = .returned (.bool true) ∧ Below w.heap.size w w' := by
  go_enter Try.func5, Try.ntmps5
  go_wp2_with fail
  refine (wakes_any _).mono ?_
  rintro e w1 ⟨rfl, hb1⟩
  have HW := hide hb1
  clear hb1
  go_wp2
  go_loop [5, 6] (fun s5 s6 => ∃ (k : Nat) (L : List UInt8), s5 = .string (str L) ∧ s6 = .int .i64 k ∧ k ≤ s.size ∧ L.length ≤ 16 ∧ Hid (Plain L)) (fun _ i => s.size - (intOf i).toNat)
  case atStart => exact ⟨0, [], rfl, rfl, by omega, by simp, fun c hc => by simp at hc⟩
  case round =>
    obtain ⟨k, L, rfl, rfl, hk, hL16, HPL⟩ := hrel
    have hLs := str_size L
    by_cases hgo : k < s.size ∧ L.length < 16
    · obtain ⟨hlt, hl16⟩ := hgo
      have hltz : (k : Int) < (s.size : Int) := by omega
      have hTz : ((str L).size : Int) < 16 := by omega
      have HSN := hide (str_snoc L s k hlt)
      have hadd : ∀ Wq : World, (Op.stringOp .add (str L) (s.extract k (k + 1))).run Try.prog Wq = .ok (.string (str L ++ s.extract k (k + 1))) Wq := fun Wq => run_string_add_sum _ _ _ (by rw [hLs, ByteArray.size_extract]; omega)
      by_cases h46 : s[k] = 46
      · have hc : ((s[k].toNat : Int) == 46) = true := by rw [h46]; rfl
        clear hLs hadd HSN
        go_wp2
        go_round
        case rel => exact ⟨k + 1, L, rfl, by go_num, by omega, hL16, HPL⟩
        case measure => simp [intOf]; omega
      · have hc : ((s[k].toNat : Int) == 46) = false := by rw [beq_eq_false_iff_ne]; exact ne_int h46
        by_cases h91 : s[k] = 91
        · have hc2 : (s[k].toNat : Int) = 91 := by rw [h91]; rfl
          clear hLs hadd HSN h46 hc h91
          go_wp2
          go_round
          case rel => exact ⟨k + 1, L, rfl, by go_num, by omega, hL16, HPL⟩
          case measure => simp [intOf]; omega
        · have hc2 : ((s[k].toNat : Int) == 91) = false := by rw [beq_eq_false_iff_ne]; exact ne_int h91
          have HP2 := hide (plain_snoc (unhide HPL) h46 h91)
          have hd1 : ((s[k].toNat : Int) != 46) = true := by rw [bne_iff_ne]; exact ne_int h46
          have hd2 : ((s[k].toNat : Int) != 91) = true := by rw [bne_iff_ne]; exact ne_int h91
          clear hc hc2
          clear hLs h46 h91
          go_wp2
          go_round
          case rel => exact ⟨k + 1, L ++ [s[k]], by rw [← unhide HSN], by go_num, by omega, by simp; omega, HP2⟩
          case measure => simp [intOf]; omega
    · by_cases hlt : k < s.size
      · have hltz : (k : Int) < (s.size : Int) := by omega
        have hTz : ¬ ((str L).size : Int) < 16 := by omega
        clear hLs hgo
        by_cases hL0 : L = []
        · have hTe : (str L).toList.isEmpty = true := by rw [hL0]; rw [ByteArray.toList_eq]; rfl
          generalize str L = T at *
          go_wp2
          go_ret
          exact ⟨rfl, unhide HW⟩
        · have hTe := str_ne hL0
          obtain ⟨X, hX, hX1, c1, c2, c3, c4, c5, c6⟩ := facts L t (unhide HPL) hL0 hL16 ht
          have hTn : (str L).size ≤ 16 := by rw [str_size]; exact hL16
          have hstn := fun W => store_new W X hX hX1
          have hz := zero_pat
          have hadd1 : ∀ Wq : World, (Op.stringOp .add (str L) t).run Try.prog Wq = .ok (.string (str L ++ t)) Wq := fun Wq => run_string_add_sum _ _ _ (by omega)
          have hadd2 : ∀ Wq : World, (Op.stringOp .add t (str L)).run Try.prog Wq = .ok (.string (t ++ str L)) Wq := fun Wq => run_string_add_sum _ _ _ (by omega)
          have HC1 := hide c1
          have HC2 := hide c2
          have HC3 := hide c3
          have HC4 := hide c4
          have HC5 := hide c5
          have HC6 := hide c6
          clear c1 c2 c3 c4 c5 c6 hX1 hL0 HPL
          generalize patC [] = Z at *
          generalize str L = T at *
          generalize T ++ t = A1 at *
          generalize t ++ T = A2 at *
          go_wp2_with fail
          refine (unhide HC1 _).mono ?_
          rintro e w2 ⟨rfl, hb2⟩
          have HB2 : Hid (Below w.heap.size w (w2.alloc (.cells X 31))) := hide (by
            have b2 := (unhide HW).trans (hb2.mono (unhide HW).size)
            exact b2.alloc b2.size _)
          clear hb2
          go_wp2_with fail
          refine (unhide HC2 _).mono ?_
          rintro e w3 ⟨rfl, hb3⟩
          have HG3 := hide (keep_pat (heap_alloc_last w2 (.cells X 31)) hb3)
          have HB3 := hide ((unhide HB2).trans (hb3.mono (unhide HB2).size))
          have hld := ldP_row (unhide HG3) hX
          clear hb3 HB2
          go_wp2_with fail
          refine (unhide HC3 _).mono ?_
          rintro e w4 ⟨rfl, hb4⟩
          have HG4 := hide (keep_pat (unhide HG3) hb4)
          have HB4 := hide ((unhide HB3).trans (hb4.mono (unhide HB3).size))
          clear hb4 hld HG3 HB3
          have hld := ldP_row (unhide HG4) hX
          go_wp2_with fail
          refine (unhide HC4 _).mono ?_
          rintro e w5 ⟨rfl, hb5⟩
          have HG5 := hide (keep_pat (unhide HG4) hb5)
          have HB5 := hide ((unhide HB4).trans (hb5.mono (unhide HB4).size))
          clear hb5 hld HG4 HB4
          have hld := ldP_row (unhide HG5) hX
          by_cases hle : T.size ≤ t.size
          · have hlez : (T.size : Int) ≤ (t.size : Int) := by omega
            have hsub : (t.size : Int) - (T.size : Int) = ((t.size - T.size : Nat) : Int) := by omega
            have hw : IntKind.i64.wrap ((t.size : Int) - (T.size : Int)) = ((t.size - T.size : Nat) : Int) := by rw [hsub]; simp [IntKind.wrap, IntKind.signed, IntKind.bits]; omega
            have hmz : ((t.size - T.size : Nat) : Int) ≤ (t.size : Int) := by omega
            rw [decide_eq_true hle] at HC5 HC6
            simp only [Bool.true_and] at HC5 HC6
            generalize t.size - T.size = m at *
            clear hsub
            generalize hq1 : ((t.extract 0 T.size).toList == T.toList) = B1 at *
            generalize hq2 : ((t.extract m t.size).toList == T.toList) = B2 at *
            go_wp2_with fail
            refine (unhide HC5 _).mono ?_
            rintro e w6 ⟨rfl, hb6⟩
            have HG6 := hide (keep_pat (unhide HG5) hb6)
            have HB6 := hide ((unhide HB5).trans (hb6.mono (unhide HB5).size))
            clear hb6 hld
            have hld := ldP_row (unhide HG6) hX
            cases B1
            all_goals
              go_wp2_with fail
              refine (unhide HC6 _).mono ?_
              rintro e w7 ⟨rfl, hb7⟩
              have HB7 := hide ((unhide HB6).trans (hb7.mono (unhide HB6).size))
              clear hb7 hld
              go_wp2
              go_ret
              exact ⟨by simp, unhide HB7⟩
          · have hlez : ¬ (T.size : Int) ≤ (t.size : Int) := by omega
            rw [decide_eq_false hle] at HC5 HC6
            simp only [Bool.false_and] at HC5 HC6
            go_wp2_with fail
            refine (unhide HC5 _).mono ?_
            rintro e w6 ⟨rfl, hb6⟩
            have HG6 := hide (keep_pat (unhide HG5) hb6)
            have HB6 := hide ((unhide HB5).trans (hb6.mono (unhide HB5).size))
            clear hb6 hld
            have hld := ldP_row (unhide HG6) hX
            go_wp2_with fail
            refine (unhide HC6 _).mono ?_
            rintro e w7 ⟨rfl, hb7⟩
            have HB7 := hide ((unhide HB6).trans (hb7.mono (unhide HB6).size))
            clear hb7 hld
            go_wp2
            go_ret
            exact ⟨rfl, unhide HB7⟩
      · have hltz : ¬ (k : Int) < (s.size : Int) := by omega
        clear hLs hgo
        by_cases hL0 : L = []
        · have hTe : (str L).toList.isEmpty = true := by rw [hL0]; rw [ByteArray.toList_eq]; rfl
          generalize str L = T at *
          go_wp2
          go_ret
          exact ⟨rfl, unhide HW⟩
        · have hTe := str_ne hL0
          obtain ⟨X, hX, hX1, c1, c2, c3, c4, c5, c6⟩ := facts L t (unhide HPL) hL0 hL16 ht
          have hTn : (str L).size ≤ 16 := by rw [str_size]; exact hL16
          have hstn := fun W => store_new W X hX hX1
          have hz := zero_pat
          have hadd1 : ∀ Wq : World, (Op.stringOp .add (str L) t).run Try.prog Wq = .ok (.string (str L ++ t)) Wq := fun Wq => run_string_add_sum _ _ _ (by omega)
          have hadd2 : ∀ Wq : World, (Op.stringOp .add t (str L)).run Try.prog Wq = .ok (.string (t ++ str L)) Wq := fun Wq => run_string_add_sum _ _ _ (by omega)
          have HC1 := hide c1
          have HC2 := hide c2
          have HC3 := hide c3
          have HC4 := hide c4
          have HC5 := hide c5
          have HC6 := hide c6
          clear c1 c2 c3 c4 c5 c6 hX1 hL0 HPL
          generalize patC [] = Z at *
          generalize str L = T at *
          generalize T ++ t = A1 at *
          generalize t ++ T = A2 at *
          go_wp2_with fail
          refine (unhide HC1 _).mono ?_
          rintro e w2 ⟨rfl, hb2⟩
          have HB2 : Hid (Below w.heap.size w (w2.alloc (.cells X 31))) := hide (by
            have b2 := (unhide HW).trans (hb2.mono (unhide HW).size)
            exact b2.alloc b2.size _)
          clear hb2
          go_wp2_with fail
          refine (unhide HC2 _).mono ?_
          rintro e w3 ⟨rfl, hb3⟩
          have HG3 := hide (keep_pat (heap_alloc_last w2 (.cells X 31)) hb3)
          have HB3 := hide ((unhide HB2).trans (hb3.mono (unhide HB2).size))
          have hld := ldP_row (unhide HG3) hX
          clear hb3 HB2
          go_wp2_with fail
          refine (unhide HC3 _).mono ?_
          rintro e w4 ⟨rfl, hb4⟩
          have HG4 := hide (keep_pat (unhide HG3) hb4)
          have HB4 := hide ((unhide HB3).trans (hb4.mono (unhide HB3).size))
          clear hb4 hld HG3 HB3
          have hld := ldP_row (unhide HG4) hX
          go_wp2_with fail
          refine (unhide HC4 _).mono ?_
          rintro e w5 ⟨rfl, hb5⟩
          have HG5 := hide (keep_pat (unhide HG4) hb5)
          have HB5 := hide ((unhide HB4).trans (hb5.mono (unhide HB4).size))
          clear hb5 hld HG4 HB4
          have hld := ldP_row (unhide HG5) hX
          by_cases hle : T.size ≤ t.size
          · have hlez : (T.size : Int) ≤ (t.size : Int) := by omega
            have hsub : (t.size : Int) - (T.size : Int) = ((t.size - T.size : Nat) : Int) := by omega
            have hw : IntKind.i64.wrap ((t.size : Int) - (T.size : Int)) = ((t.size - T.size : Nat) : Int) := by rw [hsub]; simp [IntKind.wrap, IntKind.signed, IntKind.bits]; omega
            have hmz : ((t.size - T.size : Nat) : Int) ≤ (t.size : Int) := by omega
            rw [decide_eq_true hle] at HC5 HC6
            simp only [Bool.true_and] at HC5 HC6
            generalize t.size - T.size = m at *
            clear hsub
            generalize hq1 : ((t.extract 0 T.size).toList == T.toList) = B1 at *
            generalize hq2 : ((t.extract m t.size).toList == T.toList) = B2 at *
            go_wp2_with fail
            refine (unhide HC5 _).mono ?_
            rintro e w6 ⟨rfl, hb6⟩
            have HG6 := hide (keep_pat (unhide HG5) hb6)
            have HB6 := hide ((unhide HB5).trans (hb6.mono (unhide HB5).size))
            clear hb6 hld
            have hld := ldP_row (unhide HG6) hX
            cases B1
            all_goals
              go_wp2_with fail
              refine (unhide HC6 _).mono ?_
              rintro e w7 ⟨rfl, hb7⟩
              have HB7 := hide ((unhide HB6).trans (hb7.mono (unhide HB6).size))
              clear hb7 hld
              go_wp2
              go_ret
              exact ⟨by simp, unhide HB7⟩
          · have hlez : ¬ (T.size : Int) ≤ (t.size : Int) := by omega
            rw [decide_eq_false hle] at HC5 HC6
            simp only [Bool.false_and] at HC5 HC6
            go_wp2_with fail
            refine (unhide HC5 _).mono ?_
            rintro e w6 ⟨rfl, hb6⟩
            have HG6 := hide (keep_pat (unhide HG5) hb6)
            have HB6 := hide ((unhide HB5).trans (hb6.mono (unhide HB5).size))
            clear hb6 hld
            have hld := ldP_row (unhide HG6) hX
            go_wp2_with fail
            refine (unhide HC6 _).mono ?_
            rintro e w7 ⟨rfl, hb7⟩
            have HB7 := hide ((unhide HB6).trans (hb7.mono (unhide HB6).size))
            clear hb7 hld
            go_wp2
            go_ret
            exact ⟨rfl, unhide HB7⟩

set_option maxRecDepth 100000 in
theorem contract (H : Type) (enc : TypeId × Value → H) (W : World) (base : Nat) (args : Array Value) (ds gs : List (DataW H)) (before : List MemPlace)
    (hval : ∀ (j : Nat) t v, Try.f5.params[j]? = some t → args[j]? = some v → Value.okWide Try.prog W .any base t v)
    (hW : DataW.Whole enc Try.prog Try.f5.params.toList Rows.condLiteralSpec.vars false W args.toList ds gs before)
    (hsz : (DataW.weightsEach Try.prog (Try.f5.params.toList ++ Rows.condLiteralSpec.plain.varTypes Try.prog) (ds ++ gs)).all (· ≤ reachBytes) = true) :
    Calls Try.prog 5 args W fun e W' => ∃ v, e = .returned v ∧ Rows.condLiteralSpec.post enc Try.prog Try.f5 false true false false W args v W' := by
  have hW' := hW
  obtain ⟨p, q, hA0, hV, rfl, hfz, hnd⟩ := hW
  have hA : DataW.TrodAll enc Try.prog W 0 (fun _ => true) true Try.f5.params.toList args.toList ds p := hA0
  rw [Try.params5] at hA hval hsz
  obtain ⟨v0, vs0, d0, ds0, p0, q0, hargs, rfl, rfl, h0, r0⟩ := trodAll_cons hA
  obtain ⟨v1, vs1, d1, ds1, p1, q1, rfl, rfl, rfl, h1, r1⟩ := trodAll_cons r0
  obtain ⟨rfl, rfl, rfl⟩ := trodAll_nil r1
  obtain rfl : args = #[v0, v1] := by cases args; simp_all
  obtain ⟨rfl, rfl⟩ := trodVars_none hV
  obtain ⟨s, rfl, rfl, rfl, hs_s⟩ := open_string Try.underlying9 (hval 0 9 v0 rfl rfl) h0
  obtain ⟨t, rfl, rfl, rfl, hs_t⟩ := open_string Try.underlying9 (hval 1 9 v1 rfl rfl) h1
  clear hA0
  simp only [List.append_nil] at hW'
  refine (walk s t W (reach (sized_string hsz (j := 0) (t := 9) rfl rfl)) (reach (sized_string hsz (j := 1) (t := 9) rfl rfl))).mono fun e W' ⟨he, bel⟩ => ?_
  subst he
  exact ⟨_, rfl, _, _, _, [], [], [], hW', trodAll_mk1 (shut_bool Try.underlying4 _), (trodAll_cons_mk (shut_string Try.underlying9 hs_s) (trodAll_cons_mk (shut_string Try.underlying9 hs_t) trodAll_mk0)), rfl, bel.frame _, fun h => by cases h⟩

theorem laid_met (os : Os) : laidMet Try.prog Rows.condLiteralRow.laid ((World.holding Try.prog os ⟨#[], #[], []⟩).forCall (fun _ _ => 0) ⟨#[], #[.string ByteArray.empty, .string ByteArray.empty], []⟩).memory :=
  laidMet_of_run' 8 (by kernel_rfl) (by kernel_rfl)
theorem reads (os : Os) {H : Type} (enc : TypeId × Value → H) : ∃ places, DataW.whole enc Try.prog ((World.holding Try.prog os ⟨#[], #[], []⟩).forCall (fun _ _ => 0) ⟨#[], #[.string ByteArray.empty, .string ByteArray.empty], []⟩).memory Try.f5.params.toList Rows.condLiteralSpec.vars false #[Value.string ByteArray.empty, Value.string ByteArray.empty].toList 8 = some ([.lit (.string []), .lit (.string [])], [], places) :=
  ⟨[], by kernel_rfl⟩

set_option maxRecDepth 100000 in
theorem lifted (os : Os) (started : os.Started) (H : Type) (enc : TypeId × Value → H) (F : Stop.Interp) :
    ReturnsInHanded {} Try.checked os 5 .any ((OpenSpec.ofChange Rows.condLiteralSpec).preRow enc Try.prog Try.f5 Rows.condLiteralRow.domain false Rows.condLiteralRow.laid) (((OpenSpec.ofChange Rows.condLiteralSpec).at F).post enc Try.prog Try.f5 false true false false) := by
  obtain ⟨places, hx⟩ := reads os enc
  refine returnsInHanded_of_row (C := Try.checked) (s := OpenSpec.ofChange Rows.condLiteralSpec) own started (by kernel_rfl) Try.func5
    (witness_row_at (enc := enc) (C := Try.checked) false ((World.holding Try.prog os ⟨#[], #[], []⟩)) #[.string ByteArray.empty, .string ByteArray.empty] rfl (by kernel_rfl) (by kernel_rfl) (by kernel_rfl)
      (OpenSpec.preRow_of_cond 8 hx (by kernel_rfl) (fun k hk => by cases hk) (by kernel_rfl) (laid_met os))) ?_
  intro W base args ds gs before hval hW _ _ hsz _ _ _
  exact contract H enc W base args ds gs before hval hW hsz

theorem said : Rows.CondLiteralSaid :=
  OpenClaim.holds_of_cond 5 Try.f5 rfl rfl rfl rfl rfl rfl rfl ⟨rfl, rfl, rfl, rfl, rfl⟩ rfl rfl rfl rfl rfl (by kernel_rfl) Try.func5 (by kernel_rfl)
    (of_decide_eq_true (by kernel_rfl)) (by unfold Func.isWrapper; first | (rw [if_pos (by decide +kernel)]; kernel_rfl) | (rw [if_neg (by decide +kernel)]; exact ⟨rfl, rfl⟩))
    (fun os started H enc _ F => by rw [OpenClaim.pre_eq_preRow]; exact lifted os started H enc F)

end Go.Proofs.Ytgaagbjbolfbjab.condLiteral
namespace Go.Proofs.Ytgaagbjbolfbjab
theorem condLiteral_holds : Rows.CondLiteralSaid := condLiteral.said
end Go.Proofs.Ytgaagbjbolfbjab
