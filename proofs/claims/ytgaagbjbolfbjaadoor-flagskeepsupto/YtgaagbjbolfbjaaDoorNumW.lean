/- Contracts: lines.Number answers the number and the error of the plain definition, for every text and every int, and turns nothing in memory. -/
import Derived.Test.YtgaagbjbolfbjaaDoorChecked
import Derived.Test.YtgaagbjbolfbjaaDoorNum
import Derived.WalkKit
import Derived.WalkSpells
import Derived.WalkLawsBesides
import Derived.Deep.QuietTactic
import Derived.BigQuiet
import Derived.Deep.DeepFit
import Derived.Lib.Strings
namespace Go.Proofs.YtgaagbjbolfbjaaDoor
open Go.RowKit
namespace NumW

theorem hide {p : Prop} (h : p) : Hid p := h
theorem unhide {p : Prop} (h : Hid p) : p := h

theorem empty_iff (s : ByteArray) : s.toList.isEmpty = s.data.toList.isEmpty := by rw [Lib.toList_data]
theorem size_pos (s : ByteArray) (h : s.data.toList.isEmpty = false) : 0 < s.size := by
  have : 0 < s.data.toList.length := by
    cases hh : s.data.toList with
    | nil => rw [hh] at h; cases h
    | cons _ _ => simp
  simpa using this
theorem size_zero (s : ByteArray) (h : s.data.toList.isEmpty = true) : s.size = 0 := by
  have : s.data.toList.length = 0 := by
    cases hh : s.data.toList with
    | nil => rfl
    | cons _ _ => rw [hh] at h; cases h
  simpa using this
theorem lead_true (s : ByteArray) (h0 : 0 < s.size) (h : Num.lead s.data.toList = true) : ((s[0].toNat : Int) == 48) = true ∧ 1 < s.size := by
  have e : s.data.toList.head? = some s[0] := by
    rw [List.head?_eq_getElem?, List.getElem?_eq_getElem (by simpa using h0)]; rfl
  simp only [Num.lead, e, Bool.and_eq_true, decide_eq_true_eq, beq_iff_eq, Option.some.injEq] at h
  refine ⟨by rw [h.1]; rfl, by simpa using h.2⟩
theorem lead_false (s : ByteArray) (h0 : 0 < s.size) (h : Num.lead s.data.toList = false) : ((s[0].toNat : Int) == 48) = false ∨ ((s[0].toNat : Int) == 48) = true ∧ s.size ≤ 1 := by
  have e : s.data.toList.head? = some s[0] := by
    rw [List.head?_eq_getElem?, List.getElem?_eq_getElem (by simpa using h0)]; rfl
  by_cases h48 : s[0] = 48
  · right
    refine ⟨by rw [h48]; rfl, ?_⟩
    simp only [Num.lead, e, h48, Bool.and_eq_false_iff] at h
    rcases h with h | h
    · simp at h
    · simpa using h
  · left
    simp only [beq_eq_false_iff_ne]
    intro h
    apply h48
    apply UInt8.toNat_inj.1
    show s[0].toNat = 48
    omega

set_option maxHeartbeats 400000 in
theorem number_empty (s : ByteArray) (most : Int) (w : World) (h : s.toList.isEmpty = true) (_hz : s.size = 0) :
    Calls Tryd.prog 41 #[.string s, .int .i64 most] w fun e w' => e = .returned (.tuple #[.int .i64 0, .int .i64 13]) ∧ w' = w := by
  go_enter Tryd.func41, Tryd.ntmps41
  go_wp2
  go_ret2
  exact ⟨rfl, rfl⟩
set_option maxHeartbeats 400000 in
theorem number_lead (s : ByteArray) (most : Int) (w : World) (h : s.toList.isEmpty = false) (h0 : 0 < s.size) (hs : s.size ≤ maxLen) (h1 : ((s[0].toNat : Int) == 48) = true) (h2 : 1 < s.size) :
    Calls Tryd.prog 41 #[.string s, .int .i64 most] w fun e w' => e = .returned (.tuple #[.int .i64 0, .int .i64 13]) ∧ w' = w := by
  unfold maxLen at hs
  have h3 : (1 : Int) < (s.size : Int) := by omega
  go_enter Tryd.func41, Tryd.ntmps41
  go_wp2
  go_ret2
  exact ⟨rfl, rfl⟩
theorem ret2 {a b c d : Int} (h1 : a = b) (h2 : c = d) : Ending.returned (.tuple #[.int .i64 a, .int .i64 c]) = .returned (.tuple #[.int .i64 b, .int .i64 d]) := by rw [h1, h2]
set_option maxHeartbeats 1000000 in
theorem number_loop (s : ByteArray) (most : Int) (w : World) (h : s.toList.isEmpty = false) (h0 : 0 < s.size) (hs : s.size ≤ maxLen) (hm1 : -9223372036854775808 ≤ most) (hm2 : most ≤ 9223372036854775807)
    (hl : ((s[0].toNat : Int) == 48) = false ∨ ((s[0].toNat : Int) == 48) = true ∧ s.size ≤ 1) (hL : Hid (Num.lead s.data.toList = false)) (hE : Hid (s.data.toList.isEmpty = false)) :
    Calls Tryd.prog 41 #[.string s, .int .i64 most] w fun e w' => e = .returned (.tuple #[.int .i64 (Num.numN s.data.toList most), .int .i64 (Num.numE s.data.toList most)]) ∧ w' = w := by
  unfold maxLen at hs
  rcases hl with hl | ⟨hl, hl1⟩
  all_goals
    go_enter Tryd.func41, Tryd.ntmps41
    go_wp2
    go_loop [6, 7] (fun n i => ∃ k : Nat, k ≤ s.size ∧ i = .int .i64 k ∧ n = .int .i64 (Num.numVal (s.data.toList.take k) : Nat) ∧ (k = 0 ∨ (Num.numVal (s.data.toList.take k) : Int) ≤ most) ∧ Hid ((s.data.toList.take k).all Num.isDig = true)) (fun _ i => s.size - (intOf i).toNat)
    case atStart => exact ⟨0, Nat.zero_le _, rfl, rfl, .inl rfl, rfl⟩
    case round =>
      obtain ⟨k, hk, rfl, rfl, hle, HD⟩ := hrel
      by_cases hlt : k < s.size
      · have hsn := Num.step s k hlt
        have HS : Hid (Num.numVal (s.data.toList.take (k + 1)) = Num.numVal (s.data.toList.take k) * 10 + (s[k].toNat - 48)) := hsn
        clear hsn
        generalize hv : Num.numVal (s.data.toList.take k) = v at *
        have HV : Hid (Num.numVal (s.data.toList.take k) = v) := hv
        clear hv
        have hfail : Num.good s.data.toList most = false → Ending.returned (.tuple #[.int .i64 0, .int .i64 13]) = Ending.returned (.tuple #[.int .i64 (Num.numN s.data.toList most), .int .i64 (Num.numE s.data.toList most)]) :=
          fun hb => ret2 (Num.numN_bad hb).symm (Num.numE_bad hb).symm
        have HF := hide hfail
        clear hfail
        by_cases hd1 : (s[k].toNat : Int) < 48
        · go_wp2
          go_ret2
          exact ⟨unhide HF (Num.bad_of_digit s most k hlt (Num.isDig_lo _ hd1)), rfl⟩
        by_cases hd2 : 57 < (s[k].toNat : Int)
        · go_wp2
          go_ret2
          exact ⟨unhide HF (Num.bad_of_digit s most k hlt (Num.isDig_hi _ hd2)), rfl⟩
        by_cases ho1 : most < (s[k].toNat : Int) - 48
        · have hov : most < (Num.numVal (s.data.toList.take (k + 1)) : Int) := by rw [HS.out]; omega
          have HO := hide (Num.bad_of_over s.data.toList most (k + 1) hov)
          clear hov
          go_wp2
          go_ret2
          exact ⟨unhide HF (unhide HO), rfl⟩
        by_cases ho2 : (most - ((s[k].toNat : Int) - 48)) / 10 < (v : Int)
        · have hov : most < (Num.numVal (s.data.toList.take (k + 1)) : Int) := by rw [HS.out]; omega
          have HO := hide (Num.bad_of_over s.data.toList most (k + 1) hov)
          clear hov
          go_wp2
          go_ret2
          exact ⟨unhide HF (unhide HO), rfl⟩
        have HA : Hid ((s.data.toList.take (k + 1)).all Num.isDig = true) := by
          show (s.data.toList.take (k + 1)).all Num.isDig = true
          rw [Num.all_take s k hlt, HD.out, Num.isDig_of _ (by omega) (by omega)]; rfl
        have hq : (Num.numVal (s.data.toList.take (k + 1)) : Int) = v * 10 + ((s[k].toNat : Int) - 48) := by rw [HS.out]; omega
        have HQ := hide hq
        have hq2 : (Num.numVal (s.data.toList.take (k + 1)) : Int) ≤ most := by rw [hq]; omega
        have HQ2 := hide hq2
        clear hq hq2
        go_wp2
        go_round
        case rel => exact ⟨k + 1, by omega, by go_num, by rw [unhide HQ], .inr (unhide HQ2), HA⟩
        case measure => simp [intOf]; omega
      · have hfull := Num.full s k (by omega)
        have hall : s.data.toList.all Num.isDig = true := by rw [← hfull]; exact HD.out
        have hle2 : (Num.numVal s.data.toList : Int) ≤ most := by
          rw [← hfull]
          rcases hle with rfl | hle
          · omega
          · exact hle
        have hgd := Num.good_of _ most hE.out hL.out hall hle2
        have HR : Hid (Ending.returned (.tuple #[.int .i64 ((Num.numVal (s.data.toList.take k) : Nat) : Int), .int .i64 0]) = Ending.returned (.tuple #[.int .i64 (Num.numN s.data.toList most), .int .i64 (Num.numE s.data.toList most)])) :=
          ret2 (by rw [Num.numN_good hgd, hfull]) (Num.numE_good hgd).symm
        clear hfull hall hle2 hgd
        go_wp2
        go_ret2
        exact ⟨HR.out, rfl⟩

theorem number_any (s : ByteArray) (most : Int) (w : World) (hs : s.size ≤ maxLen) (hm1 : -9223372036854775808 ≤ most) (hm2 : most ≤ 9223372036854775807) :
    Calls Tryd.prog 41 #[.string s, .int .i64 most] w fun e w' => e = .returned (.tuple #[.int .i64 (Num.numN s.data.toList most), .int .i64 (Num.numE s.data.toList most)]) ∧ w' = w := by
  cases hE : s.data.toList.isEmpty with
  | true =>
    have hb := Num.bad_of_empty s.data.toList most hE
    rw [Num.numN_bad hb, Num.numE_bad hb]
    exact number_empty s most w (by rw [empty_iff, hE]) (size_zero s hE)
  | false =>
    have h0 := size_pos s hE
    cases hL : Num.lead s.data.toList with
    | true =>
      have hb := Num.bad_of_lead s.data.toList most hL
      rw [Num.numN_bad hb, Num.numE_bad hb]
      obtain ⟨h1, h2⟩ := lead_true s h0 hL
      exact number_lead s most w (by rw [empty_iff, hE]) h0 hs h1 h2
    | false => exact number_loop s most w (by rw [empty_iff, hE]) h0 hs hm1 hm2 (lead_false s h0 hL) hL hE
end NumW
end Go.Proofs.YtgaagbjbolfbjaaDoor
