/- Contracts: the document's Number answers the number and the error of the plain definition, for every text and every int, and turns nothing in memory. -/
import Derived.Test.YtaaonaaciomijaaDoorNumW
namespace Go.Proofs.YtaaonaaciomijaaDoor
open Go.RowKit
namespace NumW

set_option maxHeartbeats 400000 in
theorem ref_empty (s : ByteArray) (most : Int) (w : World) (hz : ((s.size : Int) == 0) = true) :
    Calls Tryd.prog 46 #[.string s, .int .i64 most] w fun e w' => e = .returned (.tuple #[.int .i64 0, .int .i64 13]) ∧ w' = w := by
  go_enter Tryd.func46, Tryd.ntmps46
  go_wp2
  go_ret2
  exact ⟨rfl, rfl⟩
set_option maxHeartbeats 400000 in
theorem ref_lead (s : ByteArray) (most : Int) (w : World) (hz : ((s.size : Int) == 0) = false) (h0 : 0 < s.size) (hs : s.size ≤ maxLen) (h1 : ((s[0].toNat : Int) == 48) = true) (h2 : 1 < s.size) :
    Calls Tryd.prog 46 #[.string s, .int .i64 most] w fun e w' => e = .returned (.tuple #[.int .i64 0, .int .i64 13]) ∧ w' = w := by
  unfold maxLen at hs
  have h3 : (1 : Int) < (s.size : Int) := by omega
  go_enter Tryd.func46, Tryd.ntmps46
  go_wp2
  go_ret2
  exact ⟨rfl, rfl⟩

set_option maxHeartbeats 2000000 in
theorem ref_loop (s : ByteArray) (most : Int) (w : World) (hz : ((s.size : Int) == 0) = false) (h0 : 0 < s.size) (hs : s.size ≤ maxLen) (hm1 : -9223372036854775808 ≤ most) (hm2 : most ≤ 9223372036854775807)
    (hl : (1 < (s.size : Int) ∧ ((s[0].toNat : Int) == 48) = false) ∨ (s.size : Int) ≤ 1) (hL : Hid (Num.lead s.data.toList = false)) (hE : Hid (s.data.toList.isEmpty = false)) :
    Calls Tryd.prog 46 #[.string s, .int .i64 most] w fun e w' => e = .returned (.tuple #[.int .i64 (Num.numN s.data.toList most), .int .i64 (Num.numE s.data.toList most)]) ∧ w' = w := by
  unfold maxLen at hs
  have hfail : Num.good s.data.toList most = false → Ending.returned (.tuple #[.int .i64 0, .int .i64 13]) = Ending.returned (.tuple #[.int .i64 (Num.numN s.data.toList most), .int .i64 (Num.numE s.data.toList most)]) :=
    fun hb => ret2 (Num.numN_bad hb).symm (Num.numE_bad hb).symm
  have HF := hide hfail
  clear hfail
  rcases hl with ⟨hl, hl1⟩ | hl
  all_goals
    go_enter Tryd.func46, Tryd.ntmps46
    go_wp2
    go_loop [7] (fun i => ∃ k : Nat, k ≤ s.size ∧ i = .int .i64 k ∧ Hid ((s.data.toList.take k).all Num.isDig = true)) (fun i => s.size - (intOf i).toNat)
    case atStart => exact ⟨0, Nat.zero_le _, rfl, rfl⟩
    case round =>
      obtain ⟨k, hk, rfl, HD⟩ := hrel
      by_cases hlt : k < s.size
      · by_cases hd1 : (s[k].toNat : Int) < 48
        · go_wp2
          go_ret2
          exact ⟨unhide HF (Num.bad_of_digit s most k hlt (Num.isDig_lo _ hd1)), rfl⟩
        by_cases hd2 : 57 < (s[k].toNat : Int)
        · go_wp2
          go_ret2
          exact ⟨unhide HF (Num.bad_of_digit s most k hlt (Num.isDig_hi _ hd2)), rfl⟩
        have HA : Hid ((s.data.toList.take (k + 1)).all Num.isDig = true) := by
          show (s.data.toList.take (k + 1)).all Num.isDig = true
          rw [Num.all_take s k hlt, HD.out, Num.isDig_of _ (by omega) (by omega)]; rfl
        go_wp2
        go_round
        case rel => exact ⟨k + 1, by omega, by go_num, HA⟩
        case measure => simp [intOf]; omega
      · have hall : s.data.toList.all Num.isDig = true := by rw [← Num.full s k (by omega)]; exact HD.out
        have HA := hide hall
        clear hall HD
        go_wp2
        go_loop [6, 8] (fun n i => ∃ k : Nat, k ≤ s.size ∧ i = .int .i64 k ∧ n = .int .i64 (Num.numVal (s.data.toList.take k) : Nat) ∧ (Num.numVal (s.data.toList.take k) : Int) ≤ 9223372036854775807) (fun _ i => s.size - (intOf i).toNat)
        case atStart => exact ⟨0, Nat.zero_le _, rfl, rfl, by simp [Num.numVal]⟩
        case round =>
          clear hk hlt
          obtain ⟨k, hk, rfl, rfl, hle⟩ := hrel
          by_cases hlt : k < s.size
          · have HS : Hid (Num.numVal (s.data.toList.take (k + 1)) = Num.numVal (s.data.toList.take k) * 10 + (s[k].toNat - 48)) := Num.step s k hlt
            have hdg : (48 : Int) ≤ (s[k].toNat : Int) ∧ (s[k].toNat : Int) ≤ 57 := Num.dig_of_all s k hlt HA.out
            obtain ⟨hdg1, hdg2⟩ := hdg
            generalize hv : Num.numVal (s.data.toList.take k) = v at *
            have HV : Hid (Num.numVal (s.data.toList.take k) = v) := hv
            clear hv
            by_cases ho1 : 922337203685477580 < (v : Int)
            · have hov : most < (Num.numVal (s.data.toList.take (k + 1)) : Int) := by rw [HS.out]; omega
              have HO := hide (Num.bad_of_over s.data.toList most (k + 1) hov)
              clear hov
              go_wp2
              go_ret2
              exact ⟨unhide HF (unhide HO), rfl⟩
            cases he : ((v : Int) == 922337203685477580) with
            | true =>
              have hev : (v : Int) = 922337203685477580 := by simpa using he
              have HEV := hide hev
              clear hev
              by_cases ho2 : 7 < (s[k].toNat : Int) - 48
              · have hov : most < (Num.numVal (s.data.toList.take (k + 1)) : Int) := by rw [HS.out]; have := unhide HEV; omega
                have HO := hide (Num.bad_of_over s.data.toList most (k + 1) hov)
                clear hov
                go_wp2
                go_ret2
                exact ⟨unhide HF (unhide HO), rfl⟩
              · have hq : (Num.numVal (s.data.toList.take (k + 1)) : Int) = v * 10 + ((s[k].toNat : Int) - 48) := by rw [HS.out]; omega
                have HQ := hide hq
                have hq2 : (Num.numVal (s.data.toList.take (k + 1)) : Int) ≤ 9223372036854775807 := by rw [hq]; have := unhide HEV; omega
                have HQ2 := hide hq2
                clear hq hq2
                go_wp2
                go_round
                case rel => exact ⟨k + 1, by omega, by go_num, by rw [unhide HQ], unhide HQ2⟩
                case measure => simp [intOf]; omega
            | false =>
              have hev : ¬ (v : Int) = 922337203685477580 := by simpa using he
              have hv1 : (v : Int) ≤ 922337203685477579 := by omega
              clear hev
              have hq : (Num.numVal (s.data.toList.take (k + 1)) : Int) = v * 10 + ((s[k].toNat : Int) - 48) := by rw [HS.out]; omega
              have HQ := hide hq
              have hq2 : (Num.numVal (s.data.toList.take (k + 1)) : Int) ≤ 9223372036854775807 := by rw [hq]; omega
              have HQ2 := hide hq2
              clear hq hq2
              go_wp2
              go_round
              case rel => exact ⟨k + 1, by omega, by go_num, by rw [unhide HQ], unhide HQ2⟩
              case measure => simp [intOf]; omega
          · have hfull := Num.full s k (by omega)
            by_cases hgt : most < (Num.numVal (s.data.toList.take k) : Int)
            · have HO := hide (Num.bad_of_over s.data.toList most k hgt)
              clear hfull
              go_wp2
              go_ret2
              exact ⟨unhide HF (unhide HO), rfl⟩
            · have hle2 : (Num.numVal s.data.toList : Int) ≤ most := by rw [← hfull]; omega
              have hgd := Num.good_of _ most hE.out hL.out HA.out hle2
              have HR : Hid (Ending.returned (.tuple #[.int .i64 ((Num.numVal (s.data.toList.take k) : Nat) : Int), .int .i64 0]) = Ending.returned (.tuple #[.int .i64 (Num.numN s.data.toList most), .int .i64 (Num.numE s.data.toList most)])) :=
                ret2 (by rw [Num.numN_good hgd, hfull]) (Num.numE_good hgd).symm
              clear hfull hle2 hgd
              go_wp2
              go_ret2
              exact ⟨HR.out, rfl⟩

theorem ref_any (s : ByteArray) (most : Int) (w : World) (hs : s.size ≤ maxLen) (hm1 : -9223372036854775808 ≤ most) (hm2 : most ≤ 9223372036854775807) :
    Calls Tryd.prog 46 #[.string s, .int .i64 most] w fun e w' => e = .returned (.tuple #[.int .i64 (Num.numN s.data.toList most), .int .i64 (Num.numE s.data.toList most)]) ∧ w' = w := by
  cases hE : s.data.toList.isEmpty with
  | true =>
    have hb := Num.bad_of_empty s.data.toList most hE
    rw [Num.numN_bad hb, Num.numE_bad hb]
    exact ref_empty s most w (by rw [size_zero s hE]; rfl)
  | false =>
    have h0 := size_pos s hE
    have hz : ((s.size : Int) == 0) = false := by simp only [beq_eq_false_iff_ne]; omega
    cases hL : Num.lead s.data.toList with
    | true =>
      have hb := Num.bad_of_lead s.data.toList most hL
      rw [Num.numN_bad hb, Num.numE_bad hb]
      obtain ⟨h1, h2⟩ := lead_true s h0 hL
      exact ref_lead s most w hz h0 hs h1 h2
    | false =>
      refine ref_loop s most w hz h0 hs hm1 hm2 ?_ hL hE
      rcases lead_false s h0 hL with h | ⟨_, h⟩
      · by_cases h1 : 1 < s.size
        · exact .inl ⟨by omega, h⟩
        · exact .inr (by omega)
      · exact .inr (by omega)
end NumW
end Go.Proofs.YtaaonaaciomijaaDoor
