/- Layer 6: ReadUint, the program's. -/
import Derived.Test.YtdcffkahijpcbabDoorUw
import Derived.Laws.Bits64b
import Derived.Laws.BitsAllLaws
namespace Go.Proofs.YtdcffkahijpcbabDoor
open Go.RowKit
namespace Um

/-- what ReadUint answers of the bytes from the place a on -/
def ruT (T : List UInt8) (a : Int) : Int × Int × Int := (((rdN T).1 : Int), if (rdN T).2.2 = 0 then a + ((rdN T).2.1 : Int) else 0, ((rdN T).2.2 : Int))
theorem rdN_form {T : List UInt8} {k : Nat} {b : UInt8} (hk : ahd T = k) (hb : T[k]? = some b) (h9 : k < 10) (h : bad k b.toNat = true) : rdN T = (0, 0, 61) := by
  unfold rdN
  rw [hk, if_neg (fun e => by rw [e] at hb; simp at hb), if_neg (by omega), hb]
  simp only
  rw [if_pos h]
theorem rdN_good {T : List UInt8} {k : Nat} {b : UInt8} (hk : ahd T = k) (hb : T[k]? = some b) (h9 : k < 10) (h : bad k b.toNat = false) : rdN T = (vL (T.take (k + 1)), k + 1, 0) := by
  unfold rdN
  rw [hk, if_neg (fun e => by rw [e] at hb; simp at hb), if_neg (by omega), hb]
  simp only
  rw [if_neg (by simp [h])]
theorem rdN_short {T : List UInt8} (h0 : 0 < T.length) (hk : ahd T = T.length) (h9 : T.length < 10) : rdN T = (0, 0, 60) := by
  unfold rdN
  rw [hk, if_neg (fun e => by rw [e] at h0; simp at h0), if_neg (by omega), List.getElem?_eq_none (Nat.le_refl _)]
theorem rdN_long {T : List UInt8} (hk : 10 ≤ ahd T) : rdN T = (0, 0, 61) := by
  unfold rdN
  rw [if_neg (fun e => by subst e; simp [ahd] at hk), if_pos hk]
theorem rdN_err {T : List UInt8} (h : (rdN T).2.2 ≠ 0) : (rdN T).1 = 0 ∧ (rdN T).2.1 = 0 := by
  unfold rdN at h ⊢
  by_cases h0 : T = []
  · rw [if_pos h0]; exact ⟨rfl, rfl⟩
  rw [if_neg h0] at h ⊢
  by_cases h1 : 10 ≤ ahd T
  · rw [if_pos h1]; exact ⟨rfl, rfl⟩
  rw [if_neg h1] at h ⊢
  cases hb : T[ahd T]? with
  | none => exact ⟨rfl, rfl⟩
  | some b =>
    rw [hb] at h
    simp only at h ⊢
    by_cases h2 : bad (ahd T) b.toNat = true
    · rw [if_pos h2]; exact ⟨rfl, rfl⟩
    · rw [if_neg h2] at h; exact absurd rfl h
theorem u8_127 {c : Nat} (h : c < 256) : bits .and .u8 (c : Int) 127 = ((c % 128 : Nat) : Int) := by
  have h1 := u8_and_nat c 127 h (by decide)
  have h2 : c &&& 127 = c % 128 := Nat.and_two_pow_sub_one_eq_mod c 7
  rw [h2] at h1
  exact h1
theorem or_shift {i v d : Nat} (hv : v < 128 ^ i) (hi : i ≤ 9) (hd : d < 128) : ∃ r : Nat, bits .or .u64 (v : Int) (IntKind.u64.wrap ((d : Int) * 2 ^ (7 * i))) = (r : Int) ∧ r < 18446744073709551616 ∧ ((i < 9 ∨ d ≤ 1) → r = v + 128 ^ i * d) := by
  have hp : (128 : Nat) ^ i = 2 ^ (7 * i) := by rw [Nat.pow_mul]
  have hle : (128 : Nat) ^ i ≤ 128 ^ 9 := Nat.pow_le_pow_right (by decide) hi
  have h9 : (128 : Nat) ^ 9 = 9223372036854775808 := by decide
  obtain ⟨q, hq⟩ : ∃ q, q = d * 2 ^ (7 * i) := ⟨_, rfl⟩
  have hqz : (d : Int) * 2 ^ (7 * i) = (q : Int) := by rw [hq]; simp
  have hw : IntKind.u64.wrap (q : Int) = ((q % 18446744073709551616 : Nat) : Int) := by rw [IntKind.wrap_u64]; omega
  rw [hqz, hw, bits_or_u64_nat v (q % 18446744073709551616) (by omega) (Nat.mod_lt _ (by decide))]
  refine ⟨v ||| q % 18446744073709551616, rfl, ?_, fun h => ?_⟩
  · exact Nat.or_lt_two_pow (n := 64) (by omega) (Nat.mod_lt _ (by decide))
  · have hql : q < 18446744073709551616 := by
      rcases h with h | h
      · have h8 : (128 : Nat) ^ i ≤ 128 ^ 8 := Nat.pow_le_pow_right (by decide) (by omega)
        have e8 : (128 : Nat) ^ 8 = 72057594037927936 := by decide
        rw [hq, ← hp]
        have := Nat.mul_le_mul (show d ≤ 127 by omega) h8
        omega
      · rw [hq, ← hp]
        have := Nat.mul_le_mul h hle
        omega
    rw [Nat.mod_eq_of_lt hql, hq, ← Nat.shiftLeft_eq, Nat.or_comm, ← Nat.shiftLeft_add_eq_or_of_lt (by omega), Nat.shiftLeft_eq, hp]
    rw [Nat.mul_comm d]
    omega
theorem lst_drop (s : ByteArray) (a : Nat) : lst (s.extract a s.size) = (lst s).drop a := by
  unfold lst
  rw [extract_str, str_list, List.take_of_length_le]
  rw [List.length_drop, list_size]
  exact Nat.le_refl _
theorem lst_get {t : ByteArray} {i : Nat} (h : i < t.size) : (lst t)[i]? = some t[i] := by
  unfold lst
  rw [List.getElem?_eq_getElem (by rw [list_size]; exact h)]
  rfl
/-- one byte further -/
theorem vL_step {T : List UInt8} {i : Nat} {b : UInt8} (hb : T[i]? = some b) : vL (T.take (i + 1)) = vL (T.take i) + 128 ^ i * (b.toNat % 128) := by
  have hl := (List.getElem?_eq_some_iff.1 hb).1
  rw [take_snoc hb, vL_app, List.length_take, Nat.min_eq_left (by omega)]
  simp [vL]
theorem vL_take_lt (T : List UInt8) (i : Nat) (h : i ≤ T.length) : vL (T.take i) < 128 ^ i := by
  have := vL_lt (T.take i)
  rw [List.length_take, Nat.min_eq_left h] at this
  exact this
set_option maxHeartbeats 1000000 in
set_option maxRecDepth 100000 in
theorem read_off (s : ByteArray) (at' : Int) (w : World) (h : at' < 0 ∨ (s.size : Int) ≤ at') :
    Calls Tryd.prog 63 #[.string s, .int .i64 at'] w fun e w' => e = .returned (.tuple #[.int .u64 0, .int .i64 0, .int .i64 60]) ∧ w' = w := by
  by_cases h0 : at' < 0
  · clear h
    go_enter Tryd.func63, Tryd.ntmps63
    go_wp2
    go_ret3
    exact ⟨rfl, rfl⟩
  · have h1 : (s.size : Int) ≤ at' := by omega
    clear h
    go_enter Tryd.func63, Tryd.ntmps63
    go_wp2
    go_ret3
    exact ⟨rfl, rfl⟩
set_option maxHeartbeats 1000000 in
set_option maxRecDepth 100000 in
theorem read_few (s t : ByteArray) (a n : Nat) (w : World) (hs : s.size ≤ maxLen) (h : a < s.size) (ht : s.extract a s.size = t) (hn : s.size - a = n) (hts : t.size = n) (hm : (n : Int) ≤ 10) (N X E : Int) (HR : Hid (ruT (lst t) a = (N, X, E))) :
    Calls Tryd.prog 63 #[.string s, .int .i64 a] w fun e w' => e = .returned (.tuple #[.int .u64 N, .int .i64 X, .int .i64 E]) ∧ w' = w := by
  unfold maxLen at hs
  have hz : ¬ (s.size : Int) ≤ (a : Int) := by omega
  have hz2 : (a : Int) ≤ (s.size : Int) := by omega
  have HLL : Hid ((lst t).length = n) := (lst_len t).trans hts
  go_enter Tryd.func63, Tryd.ntmps63
  go_wp2
  go_loopw [4, 23] (fun s4 s23 wr => ∃ i : Nat, s23 = .int .i64 (i : Int) ∧ i ≤ n ∧ (∃ v : Nat, s4 = .int .u64 (v : Int) ∧ (v : Int) ≤ 18446744073709551615 ∧ Hid (i ≤ 9 → v = vL ((lst t).take i))) ∧ Hid (i ≤ ahd (lst t)) ∧ wr = w) (fun _ i _ => 10 - (intOf i).toNat)
  case atStart => exact ⟨0, rfl, by omega, ⟨0, rfl, by omega, fun _ => by simp [vL]⟩, Nat.zero_le _, rfl⟩
  case round =>
    obtain ⟨i, rfl, hi, ⟨v, rfl, hv, HV⟩, HA, rfl⟩ := hrel
    by_cases hlt : i < n
    · have hltz : (i : Int) < (n : Int) := by omega
      have hit : i < t.size := by omega
      have HG := hide (lst_get hit)
      obtain ⟨b, hb⟩ : ∃ b, t[i] = b := ⟨_, rfl⟩
      rw [hb] at HG
      obtain ⟨c, hc⟩ : ∃ c, b.toNat = c := ⟨_, rfl⟩
      have hc1 : c < 256 := by rw [← hc]; exact b.toNat_lt
      have hcz : (c : Int) ≤ 255 := by omega
      have hand := u8_127 hc1
      obtain ⟨d, hd⟩ : ∃ d, c % 128 = d := ⟨_, rfl⟩
      rw [hd] at hand
      have hd1 : d < 128 := by omega
      have hdz : (d : Int) ≤ 127 := by omega
      have HVL := hide (vL_take_lt (lst t) i (by rw [unhide HLL]; omega))
      have hv2 := unhide HV (by omega)
      obtain ⟨r, hor, hr, hrv⟩ := or_shift (i := i) (v := v) (d := d) (by rw [hv2]; exact unhide HVL) (by omega) hd1
      have HRV := hide hrv
      have HST := hide (vL_step (unhide HG))
      have hrz : (r : Int) ≤ 18446744073709551615 := by omega
      clear hrv hv2 HVL hr
      by_cases h128 : 128 ≤ c
      · have h128z : 128 ≤ (c : Int) := by omega
        have HD := hide hd
        clear hd
        go_wp2
        go_roundw
        case rel =>
          refine ⟨i + 1, by go_num, by omega, ⟨r, rfl, by omega, fun h9 => ?_⟩, ?_, (by first | rfl | trivial)⟩
          · rw [unhide HST, unhide HRV (.inl (by omega)), unhide HV (by omega), hc, unhide HD]
          · refine ahd_ge (by rw [unhide HLL]; omega) fun j y hj hy => ?_
            by_cases hji : j < i
            · exact ahd_hi hy (by have := unhide HA; omega)
            · have : j = i := by omega
              subst this
              have := (unhide HG).symm.trans hy
              injection this with this
              rw [← this, hc]
              exact h128
        case measure => simp [intOf]; omega
      · have h128z : ¬ 128 ≤ (c : Int) := by omega
        have hcd : c = d := by omega
        have HEQ := hide (ahd_eq (unhide HA) (unhide HG) (by rw [hc]; omega))
        by_cases hbad : bad i c = true
        · have HX := hide (rdN_form (unhide HEQ) (unhide HG) (by omega) (by rw [hc]; exact hbad))
          have hbad2 : (i = 9 ∧ 1 < c) ∨ (0 < i ∧ c = 0) := by unfold bad at hbad; simpa using hbad
          clear hbad
          subst hcd
          by_cases hp1 : i = 9 ∧ 1 < c
          · have q1 : ((i : Int) == 9) = true := by simp; omega
            have q2 : 1 < (c : Int) := by omega
            clear hbad2 hp1
            go_wp2
            go_ret3
            have h := unhide HR
            unfold ruT at h
            rw [unhide HX] at h
            simp only [Prod.mk.injEq] at h
            obtain ⟨e1, e2, e3⟩ := h
            subst e1 e2 e3
            exact ⟨rfl, rfl⟩
          · have q0 : 0 < i ∧ c = 0 := by omega
            obtain ⟨q1, q2⟩ := q0
            subst q2
            have q3 : 0 < (i : Int) := by omega
            clear hbad2 hp1
            go_wp2
            all_goals
              go_ret3
              have h := unhide HR
              unfold ruT at h
              rw [unhide HX] at h
              simp only [Prod.mk.injEq] at h
              obtain ⟨e1, e2, e3⟩ := h
              subst e1 e2 e3
              exact ⟨rfl, rfl⟩
        · have hbf : bad i c = false := by simpa using hbad
          have HX := hide (rdN_good (unhide HEQ) (unhide HG) (by omega) (by rw [hc]; exact hbf))
          have hb1 : ¬ (i = 9 ∧ 1 < c) ∧ ¬ (0 < i ∧ c = 0) := by
            unfold bad at hbf
            simp at hbf
            constructor
            · rintro ⟨x, y⟩; have := hbf.1 x; omega
            · rintro ⟨x, y⟩; exact hbf.2 x y
          have HFI : Hid (r = vL ((lst t).take (i + 1))) := by
            show r = _
            rw [unhide HST, unhide HRV (by omega), unhide HV (by omega), hc]
            subst hcd
            rw [Nat.mod_eq_of_lt (by omega)]
          clear hbad hbf
          have HC := hide hcd
          clear hcd hd
          have fin : ∀ (Y : Int), Y = (a : Int) + (i : Int) + 1 → ((r : Int), Y, (0 : Int)) = (N, X, E) := by
            intro Y hY
            have h := unhide HR
            unfold ruT at h
            rw [unhide HX] at h
            simp only [if_true] at h
            rw [← h, unhide HFI, hY]
            simp
            omega
          have FIN := hide fin
          clear fin
          by_cases h9 : i = 9
          · have q1 : ((i : Int) == 9) = true := by simp; omega
            have q2 : ¬ 1 < (c : Int) := by omega
            have q3 : ((c : Int) == 0) = false := by simp; omega
            have q4 : 0 < (i : Int) := by omega
            clear hb1 h9
            go_wp2
            go_ret3
            have h := unhide FIN _ rfl
            simp only [Prod.mk.injEq] at h
            obtain ⟨e1, e2, e3⟩ := h
            subst e1 e2 e3
            exact ⟨rfl, rfl⟩
          · have q1 : ((i : Int) == 9) = false := by simp; omega
            by_cases h0 : i = 0
            · have q4 : ¬ 0 < (i : Int) := by omega
              clear hb1 h9 h0
              go_wp2
              go_ret3
              have h := unhide FIN _ rfl
              simp only [Prod.mk.injEq] at h
              obtain ⟨e1, e2, e3⟩ := h
              subst e1 e2 e3
              exact ⟨rfl, rfl⟩
            · have q3 : ((c : Int) == 0) = false := by simp; omega
              have q4 : 0 < (i : Int) := by omega
              clear hb1 h9 h0
              go_wp2
              go_ret3
              have h := unhide FIN _ rfl
              simp only [Prod.mk.injEq] at h
              obtain ⟨e1, e2, e3⟩ := h
              subst e1 e2 e3
              exact ⟨rfl, rfl⟩
    · have hltz : ¬ (i : Int) < (n : Int) := by omega
      have hin : i = n := by omega
      have hle := unhide HA
      have hal := ahd_le (lst t)
      rw [unhide HLL] at hal
      have hae : ahd (lst t) = n := by omega
      by_cases h10 : n < 10
      · have HX := hide (rdN_short (T := lst t) (by rw [unhide HLL]; omega) (by rw [unhide HLL]; exact hae) (by rw [unhide HLL]; exact h10))
        have h10z : (n : Int) < 10 := by omega
        clear hae hle hal hin
        go_wp2
        go_ret3
        have h := unhide HR
        unfold ruT at h
        rw [unhide HX] at h
        simp only [Prod.mk.injEq] at h
        obtain ⟨e1, e2, e3⟩ := h
        subst e1 e2 e3
        exact ⟨rfl, rfl⟩
      · have HX := hide (rdN_long (T := lst t) (by omega))
        have h10z : ¬ (n : Int) < 10 := by omega
        clear hae hle hal hin
        go_wp2
        go_ret3
        have h := unhide HR
        unfold ruT at h
        rw [unhide HX] at h
        simp only [Prod.mk.injEq] at h
        obtain ⟨e1, e2, e3⟩ := h
        subst e1 e2 e3
        exact ⟨rfl, rfl⟩
set_option maxHeartbeats 1000000 in
set_option maxRecDepth 100000 in
theorem read_many (s t : ByteArray) (a n : Nat) (w : World) (hs : s.size ≤ maxLen) (h : a < s.size) (ht : s.extract a s.size = t) (hn : s.size - a = n) (hts : t.size = n) (hm : ¬ (n : Int) ≤ 10) (N X E : Int) (HR : Hid (ruT (lst t) a = (N, X, E))) :
    Calls Tryd.prog 63 #[.string s, .int .i64 a] w fun e w' => e = .returned (.tuple #[.int .u64 N, .int .i64 X, .int .i64 E]) ∧ w' = w := by
  unfold maxLen at hs
  have hz : ¬ (s.size : Int) ≤ (a : Int) := by omega
  have hz2 : (a : Int) ≤ (s.size : Int) := by omega
  have HLL : Hid ((lst t).length = n) := (lst_len t).trans hts
  go_enter Tryd.func63, Tryd.ntmps63
  go_wp2
  go_loopw [4, 23] (fun s4 s23 wr => ∃ i : Nat, s23 = .int .i64 (i : Int) ∧ i ≤ 10 ∧ (∃ v : Nat, s4 = .int .u64 (v : Int) ∧ (v : Int) ≤ 18446744073709551615 ∧ Hid (i ≤ 9 → v = vL ((lst t).take i))) ∧ Hid (i ≤ ahd (lst t)) ∧ wr = w) (fun _ i _ => 10 - (intOf i).toNat)
  case atStart => exact ⟨0, rfl, by omega, ⟨0, rfl, by omega, fun _ => by simp [vL]⟩, Nat.zero_le _, rfl⟩
  case round =>
    obtain ⟨i, rfl, hi, ⟨v, rfl, hv, HV⟩, HA, rfl⟩ := hrel
    by_cases hlt : i < 10
    · have hltz : (i : Int) < 10 := by omega
      have hit : i < t.size := by omega
      have HG := hide (lst_get hit)
      obtain ⟨b, hb⟩ : ∃ b, t[i] = b := ⟨_, rfl⟩
      rw [hb] at HG
      obtain ⟨c, hc⟩ : ∃ c, b.toNat = c := ⟨_, rfl⟩
      have hc1 : c < 256 := by rw [← hc]; exact b.toNat_lt
      have hcz : (c : Int) ≤ 255 := by omega
      have hand := u8_127 hc1
      obtain ⟨d, hd⟩ : ∃ d, c % 128 = d := ⟨_, rfl⟩
      rw [hd] at hand
      have hd1 : d < 128 := by omega
      have hdz : (d : Int) ≤ 127 := by omega
      have HVL := hide (vL_take_lt (lst t) i (by rw [unhide HLL]; omega))
      have hv2 := unhide HV (by omega)
      obtain ⟨r, hor, hr, hrv⟩ := or_shift (i := i) (v := v) (d := d) (by rw [hv2]; exact unhide HVL) (by omega) hd1
      have HRV := hide hrv
      have HST := hide (vL_step (unhide HG))
      have hrz : (r : Int) ≤ 18446744073709551615 := by omega
      clear hrv hv2 HVL hr
      by_cases h128 : 128 ≤ c
      · have h128z : 128 ≤ (c : Int) := by omega
        have HD := hide hd
        clear hd
        go_wp2
        go_roundw
        case rel =>
          refine ⟨i + 1, by go_num, by omega, ⟨r, rfl, by omega, fun h9 => ?_⟩, ?_, (by first | rfl | trivial)⟩
          · rw [unhide HST, unhide HRV (.inl (by omega)), unhide HV (by omega), hc, unhide HD]
          · refine ahd_ge (by rw [unhide HLL]; omega) fun j y hj hy => ?_
            by_cases hji : j < i
            · exact ahd_hi hy (by have := unhide HA; omega)
            · have : j = i := by omega
              subst this
              have := (unhide HG).symm.trans hy
              injection this with this
              rw [← this, hc]
              exact h128
        case measure => simp [intOf]; omega
      · have h128z : ¬ 128 ≤ (c : Int) := by omega
        have hcd : c = d := by omega
        have HEQ := hide (ahd_eq (unhide HA) (unhide HG) (by rw [hc]; omega))
        by_cases hbad : bad i c = true
        · have HX := hide (rdN_form (unhide HEQ) (unhide HG) (by omega) (by rw [hc]; exact hbad))
          have hbad2 : (i = 9 ∧ 1 < c) ∨ (0 < i ∧ c = 0) := by unfold bad at hbad; simpa using hbad
          clear hbad
          subst hcd
          by_cases hp1 : i = 9 ∧ 1 < c
          · have q1 : ((i : Int) == 9) = true := by simp; omega
            have q2 : 1 < (c : Int) := by omega
            clear hbad2 hp1
            go_wp2
            go_ret3
            have h := unhide HR
            unfold ruT at h
            rw [unhide HX] at h
            simp only [Prod.mk.injEq] at h
            obtain ⟨e1, e2, e3⟩ := h
            subst e1 e2 e3
            exact ⟨rfl, rfl⟩
          · have q0 : 0 < i ∧ c = 0 := by omega
            obtain ⟨q1, q2⟩ := q0
            subst q2
            have q3 : 0 < (i : Int) := by omega
            clear hbad2 hp1
            go_wp2
            all_goals
              go_ret3
              have h := unhide HR
              unfold ruT at h
              rw [unhide HX] at h
              simp only [Prod.mk.injEq] at h
              obtain ⟨e1, e2, e3⟩ := h
              subst e1 e2 e3
              exact ⟨rfl, rfl⟩
        · have hbf : bad i c = false := by simpa using hbad
          have HX := hide (rdN_good (unhide HEQ) (unhide HG) (by omega) (by rw [hc]; exact hbf))
          have hb1 : ¬ (i = 9 ∧ 1 < c) ∧ ¬ (0 < i ∧ c = 0) := by
            unfold bad at hbf
            simp at hbf
            constructor
            · rintro ⟨x, y⟩; have := hbf.1 x; omega
            · rintro ⟨x, y⟩; exact hbf.2 x y
          have HFI : Hid (r = vL ((lst t).take (i + 1))) := by
            show r = _
            rw [unhide HST, unhide HRV (by omega), unhide HV (by omega), hc]
            subst hcd
            rw [Nat.mod_eq_of_lt (by omega)]
          clear hbad hbf
          have HC := hide hcd
          clear hcd hd
          have fin : ∀ (Y : Int), Y = (a : Int) + (i : Int) + 1 → ((r : Int), Y, (0 : Int)) = (N, X, E) := by
            intro Y hY
            have h := unhide HR
            unfold ruT at h
            rw [unhide HX] at h
            simp only [if_true] at h
            rw [← h, unhide HFI, hY]
            simp
            omega
          have FIN := hide fin
          clear fin
          by_cases h9 : i = 9
          · have q1 : ((i : Int) == 9) = true := by simp; omega
            have q2 : ¬ 1 < (c : Int) := by omega
            have q3 : ((c : Int) == 0) = false := by simp; omega
            have q4 : 0 < (i : Int) := by omega
            clear hb1 h9
            go_wp2
            go_ret3
            have h := unhide FIN _ rfl
            simp only [Prod.mk.injEq] at h
            obtain ⟨e1, e2, e3⟩ := h
            subst e1 e2 e3
            exact ⟨rfl, rfl⟩
          · have q1 : ((i : Int) == 9) = false := by simp; omega
            by_cases h0 : i = 0
            · have q4 : ¬ 0 < (i : Int) := by omega
              clear hb1 h9 h0
              go_wp2
              go_ret3
              have h := unhide FIN _ rfl
              simp only [Prod.mk.injEq] at h
              obtain ⟨e1, e2, e3⟩ := h
              subst e1 e2 e3
              exact ⟨rfl, rfl⟩
            · have q3 : ((c : Int) == 0) = false := by simp; omega
              have q4 : 0 < (i : Int) := by omega
              clear hb1 h9 h0
              go_wp2
              go_ret3
              have h := unhide FIN _ rfl
              simp only [Prod.mk.injEq] at h
              obtain ⟨e1, e2, e3⟩ := h
              subst e1 e2 e3
              exact ⟨rfl, rfl⟩
    · have hltz : ¬ (i : Int) < 10 := by omega
      have hin : i = 10 := by omega
      have hle := unhide HA
      have hal := ahd_le (lst t)
      rw [unhide HLL] at hal
      have HX := hide (rdN_long (T := lst t) (by omega))
      have h10z : ¬ (n : Int) < 10 := by omega
      clear hle hal hin
      go_wp2
      go_ret3
      have h := unhide HR
      unfold ruT at h
      rw [unhide HX] at h
      simp only [Prod.mk.injEq] at h
      obtain ⟨e1, e2, e3⟩ := h
      subst e1 e2 e3
      exact ⟨rfl, rfl⟩
theorem read_uint (s : ByteArray) (a : Nat) (w : World) (hs : s.size ≤ maxLen) (h : a < s.size) :
    Calls Tryd.prog 63 #[.string s, .int .i64 a] w fun e w' => e = .returned (.tuple #[.int .u64 (ruT ((lst s).drop a) a).1, .int .i64 (ruT ((lst s).drop a) a).2.1, .int .i64 (ruT ((lst s).drop a) a).2.2]) ∧ w' = w := by
  have hts : (s.extract a s.size).size = s.size - a := by rw [ByteArray.size_extract]; omega
  rw [← lst_drop]
  by_cases hm : ((s.size - a : Nat) : Int) ≤ 10
  · exact read_few s _ a _ w hs h rfl rfl hts hm _ _ _ rfl
  · exact read_many s _ a _ w hs h rfl rfl hts hm _ _ _ rfl
end Um
end Go.Proofs.YtdcffkahijpcbabDoor
