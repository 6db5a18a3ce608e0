/- Layer 6: ReadUint, the document's. -/
import Derived.Test.YtohfhkdhccpoaaaGreatDoorGd
namespace Go.Proofs.YtohfhkdhccpoaaaGreatDoor
open Go.RowKit
namespace Um

theorem ref_get {s : ByteArray} {a k : Nat} {T : List UInt8} (hT : (lst s).drop a = T) (h : a + k < s.size) : T[k]? = some s[a + k] := by
  rw [← hT, List.getElem?_drop]
  exact lst_get h
theorem vL_back_step {T : List UInt8} {k i : Nat} {b : UInt8} (hb : T[i]? = some b) (hi : i < k + 1) : vL ((T.take (k + 1)).drop i) = b.toNat % 128 + 128 * vL ((T.take (k + 1)).drop (i + 1)) := by
  have hl := (List.getElem?_eq_some_iff.1 hb).1
  have hlt : i < (T.take (k + 1)).length := by rw [List.length_take]; omega
  have e : (T.take (k + 1))[i] = b := by
    rw [List.getElem_take]
    exact (List.getElem?_eq_some_iff.1 hb).2
  rw [List.drop_eq_getElem_cons hlt, e]
  rfl
theorem vL_drop_le (A : List UInt8) (j : Nat) : vL (A.drop j) ≤ vL A := by
  have h := vL_app (A.take j) (A.drop j)
  rw [List.take_append_drop] at h
  rw [h]
  have : 1 ≤ 128 ^ (A.take j).length := Nat.one_le_pow _ _ (by decide)
  have := Nat.mul_le_mul_right (vL (A.drop j)) this
  omega
set_option maxHeartbeats 1000000 in
set_option maxRecDepth 100000 in
theorem ref_off (s : ByteArray) (at' : Int) (w : World) (h : at' < 0 ∨ (s.size : Int) ≤ at') :
    Calls Tryz.prog 119 #[.string s, .int .i64 at'] w fun e w' => e = .returned (.tuple #[.int .u64 0, .int .i64 0, .int .i64 60]) ∧ w' = w := by
  by_cases h0 : at' < 0
  · clear h
    go_enter Tryz.func119, Tryz.ntmps119
    go_wp2
    go_ret3
    exact ⟨rfl, rfl⟩
  · have h1 : (s.size : Int) ≤ at' := by omega
    clear h
    go_enter Tryz.func119, Tryz.ntmps119
    go_wp2
    go_ret3
    exact ⟨rfl, rfl⟩
set_option maxHeartbeats 2000000 in
set_option maxRecDepth 100000 in
theorem ref_read' (s : ByteArray) (a n : Nat) (T : List UInt8) (w : World) (hs : s.size ≤ maxLen) (h : a < s.size) (HT : Hid ((lst s).drop a = T)) (hn : s.size = a + n) (N X E : Int) (HR : Hid (ruT T a = (N, X, E))) :
    Calls Tryz.prog 119 #[.string s, .int .i64 a] w fun e w' => e = .returned (.tuple #[.int .u64 N, .int .i64 X, .int .i64 E]) ∧ w' = w := by
  unfold maxLen at hs
  have hz : ¬ (s.size : Int) ≤ (a : Int) := by omega
  have hsz : (s.size : Int) - (a : Int) = (n : Int) := by omega
  have HLL : Hid (T.length = n) := by show T.length = n; rw [← unhide HT, List.length_drop, lst_len]; omega
  go_enter Tryz.func119, Tryz.ntmps119
  go_wp2
  go_loopw [7] (fun s7 wr => ∃ k : Nat, s7 = .int .i64 (k : Int) ∧ k ≤ n ∧ k ≤ 10 ∧ Hid (k ≤ ahd T) ∧ wr = w) (fun k _ => 10 - (intOf k).toNat)
  case atStart => exact ⟨0, rfl, by omega, by omega, Nat.zero_le _, rfl⟩
  case round =>
    obtain ⟨k, rfl, hk, hk10, HA, rfl⟩ := hrel
    by_cases h10 : k = 10
    · subst h10
      have HX := hide (rdN_long (unhide HA))
      go_wp2
      go_ret3
      have h := unhide HR
      unfold ruT at h
      rw [unhide HX] at h
      simp only [Prod.mk.injEq] at h
      obtain ⟨e1, e2, e3⟩ := h
      subst e1 e2 e3
      exact ⟨rfl, rfl⟩
    have h10z : (k : Int) < 10 := by omega
    have h10b : ((k : Int) == 10) = false := by simp; omega
    by_cases hkn : k < n
    · have hknz : (k : Int) < (n : Int) := by omega
      have hak : a + k < s.size := by omega
      have HG := hide (ref_get (unhide HT) hak)
      obtain ⟨c, hc⟩ : ∃ c, s[a + k].toNat = c := ⟨_, rfl⟩
      have hcl : c < 256 := by rw [← hc]; exact s[a + k].toNat_lt
      by_cases h128 : 128 ≤ c
      · have h128z : 128 ≤ (c : Int) := by omega
        go_wp2
        go_roundw
        case rel =>
          refine ⟨k + 1, by go_num, by omega, by omega, ?_, (by first | rfl | trivial)⟩
          refine ahd_ge (by rw [unhide HLL]; omega) fun j y hj hy => ?_
          by_cases hji : j < k
          · exact ahd_hi hy (by have := unhide HA; omega)
          · have : j = k := by omega
            subst this
            have := (unhide HG).symm.trans hy
            injection this with this
            rw [← this, hc]
            exact h128
        case measure => simp [intOf]; omega
      · have h128z : ¬ 128 ≤ (c : Int) := by omega
        have HEQ := hide (ahd_eq (unhide HA) (unhide HG) (by rw [hc]; omega))
        by_cases hbad : bad k c = true
        · have HX := hide (rdN_form (unhide HEQ) (unhide HG) (by omega) (by rw [hc]; exact hbad))
          have hbad2 : (k = 9 ∧ 1 < c) ∨ (0 < k ∧ c = 0) := by unfold bad at hbad; simpa using hbad
          clear hbad
          by_cases hp1 : k = 9 ∧ 1 < c
          · have q1 : ((k : Int) == 9) = true := by simp; omega
            have q2 : 1 < (c : Int) := by omega
            clear hbad2 hp1
            go_wp2
            go_ret3
            have h := unhide HR
            unfold ruT at h
            rw [unhide HX] at h
            simp only [Prod.mk.injEq] at h
            obtain ⟨e1, e2, e3⟩ := h
            subst e1 e2 e3
            exact ⟨rfl, rfl⟩
          · have q0 : 0 < k ∧ c = 0 := by omega
            obtain ⟨q1, q2⟩ := q0
            subst q2
            have q3 : 0 < (k : Int) := by omega
            clear hbad2 hp1
            go_wp2
            all_goals
              go_ret3
              have h := unhide HR
              unfold ruT at h
              rw [unhide HX] at h
              simp only [Prod.mk.injEq] at h
              obtain ⟨e1, e2, e3⟩ := h
              subst e1 e2 e3
              exact ⟨rfl, rfl⟩
        · have hbf : bad k c = false := by simpa using hbad
          have HX := hide (rdN_good (unhide HEQ) (unhide HG) (by omega) (by rw [hc]; exact hbf))
          have hb1 : ¬ (k = 9 ∧ 1 < c) ∧ ¬ (0 < k ∧ c = 0) := by
            unfold bad at hbf
            simp at hbf
            constructor
            · rintro ⟨x, y⟩; have := hbf.1 x; omega
            · rintro ⟨x, y⟩; exact hbf.2 x y
          have HMX : Hid (∀ j, vL ((T.take (k + 1)).drop j) ≤ 18446744073709551615) := by
            show ∀ j, _
            intro j
            have h1 := rdN_ok (T := T) (by rw [unhide HX])
            have h2 := h1.2.2.2.2.2
            rw [unhide HX] at h2
            have h3 := vL_drop_le (T.take (k + 1)) j
            simp only at h2
            omega
          have HZ0 : Hid (c = vL ((T.take (k + 1)).drop k)) := by
            show c = _
            rw [vL_back_step (unhide HG) (by omega), List.drop_of_length_le (by rw [List.length_take]; omega), hc]
            simp only [vL]
            omega
          clear hbad hbf
          have fin : ∀ (Y : Int), Y = (a : Int) + (k : Int) + 1 → ((vL (T.take (k + 1)) : Int), Y, (0 : Int)) = (N, X, E) := by
            intro Y hY
            have h := unhide HR
            unfold ruT at h
            rw [unhide HX] at h
            simp only [if_true] at h
            rw [← h, hY]
            simp
            omega
          have FIN := hide fin
          clear fin
          by_cases h9 : k = 9
          · have q1 : ((k : Int) == 9) = true := by simp; omega
            have q2 : ¬ 1 < (c : Int) := by omega
            have q3 : ((c : Int) == 0) = false := by simp; omega
            have q4 : 0 < (k : Int) := by omega
            clear hb1 h9
            obtain ⟨w, rfl⟩ : ∃ x : World, x = wr := ⟨_, rfl⟩
            go_wp2
            go_loopw [9, 10] (fun s9 s10 wr => ∃ (j z : Nat), s10 = .int .i64 ((j : Int) - 1) ∧ j ≤ k ∧ s9 = .int .u64 (z : Int) ∧ (z : Int) ≤ 18446744073709551615 ∧ Hid (z = vL ((T.take (k + 1)).drop j)) ∧ wr = w) (fun _ j _ => (intOf j + 1).toNat)
            case atStart => exact ⟨k, c, rfl, by omega, rfl, by omega, unhide HZ0, rfl⟩
            case round =>
              obtain ⟨j, z, rfl, hj, rfl, hz, HZ, rfl⟩ := hrel
              by_cases hj0 : j = 0
              · subst hj0
                have e0 : ((0 : Nat) : Int) - 1 = -1 := rfl
                rw [e0]
                go_wp2
                go_ret3
                have h := unhide FIN _ rfl
                have hz0 := unhide HZ
                rw [List.drop_zero] at hz0
                rw [← hz0] at h
                simp only [Prod.mk.injEq] at h
                obtain ⟨e1, e2, e3⟩ := h
                subst e1 e2 e3
                exact ⟨rfl, rfl⟩
              · obtain ⟨i, hi⟩ : ∃ i : Nat, j = i + 1 := ⟨j - 1, by omega⟩
                subst hi
                have e1 : ((i + 1 : Nat) : Int) - 1 = (i : Int) := by omega
                rw [e1]
                have hiz : 0 ≤ (i : Int) := by omega
                have hai : a + i < s.size := by omega
                have HGi := hide (ref_get (unhide HT) hai)
                obtain ⟨y, hy⟩ : ∃ y, s[a + i].toNat = y := ⟨_, rfl⟩
                have hyl : y < 256 := by rw [← hy]; exact s[a + i].toNat_lt
                have HYH : Hid (128 ≤ y) := by show 128 ≤ y; rw [← hy]; exact ahd_hi (unhide HGi) (by rw [unhide HEQ]; omega)
                have hyh := unhide HYH
                have hyz : 128 ≤ (y : Int) := by omega
                have hyz2 : (y : Int) ≤ 255 := by omega
                have HST := hide (vL_back_step (T := T) (k := k) (i := i) (unhide HGi) (by omega))
                rw [hy] at HST
                have hcv := unhide HST
                have hmx := unhide HMX i
                have hzz := unhide HZ
                have hle : (z : Int) * 128 + ((y : Int) - 128) ≤ 18446744073709551615 := by
                  rw [← hzz] at hcv
                  have : y % 128 = y - 128 := by omega
                  omega
                have HL := hide hcv
                clear hcv hmx hzz
                go_wp2
                go_roundw
                case rel => exact ⟨i, z * 128 + (y - 128), by go_num, by omega, by rw [show ((z * 128 + (y - 128) : Nat) : Int) = (z : Int) * 128 + ((y : Int) - 128) by omega], by omega, (by show _ = _; rw [unhide HL, ← unhide HZ]; omega), (by first | rfl | trivial)⟩
                case measure => (simp [intOf]; try omega)
          · have q1 : ((k : Int) == 9) = false := by simp; omega
            by_cases h0 : k = 0
            · have q4 : ¬ 0 < (k : Int) := by omega
              clear hb1 h9 h0
              obtain ⟨w, rfl⟩ : ∃ x : World, x = wr := ⟨_, rfl⟩
              go_wp2
              go_loopw [9, 10] (fun s9 s10 wr => ∃ (j z : Nat), s10 = .int .i64 ((j : Int) - 1) ∧ j ≤ k ∧ s9 = .int .u64 (z : Int) ∧ (z : Int) ≤ 18446744073709551615 ∧ Hid (z = vL ((T.take (k + 1)).drop j)) ∧ wr = w) (fun _ j _ => (intOf j + 1).toNat)
              case atStart => exact ⟨k, c, rfl, by omega, rfl, by omega, unhide HZ0, rfl⟩
              case round =>
                obtain ⟨j, z, rfl, hj, rfl, hz, HZ, rfl⟩ := hrel
                by_cases hj0 : j = 0
                · subst hj0
                  have e0 : ((0 : Nat) : Int) - 1 = -1 := rfl
                  rw [e0]
                  go_wp2
                  go_ret3
                  have h := unhide FIN _ rfl
                  have hz0 := unhide HZ
                  rw [List.drop_zero] at hz0
                  rw [← hz0] at h
                  simp only [Prod.mk.injEq] at h
                  obtain ⟨e1, e2, e3⟩ := h
                  subst e1 e2 e3
                  exact ⟨rfl, rfl⟩
                · exfalso; omega
            · have q3 : ((c : Int) == 0) = false := by simp; omega
              have q4 : 0 < (k : Int) := by omega
              clear hb1 h9 h0
              obtain ⟨w, rfl⟩ : ∃ x : World, x = wr := ⟨_, rfl⟩
              go_wp2
              go_loopw [9, 10] (fun s9 s10 wr => ∃ (j z : Nat), s10 = .int .i64 ((j : Int) - 1) ∧ j ≤ k ∧ s9 = .int .u64 (z : Int) ∧ (z : Int) ≤ 18446744073709551615 ∧ Hid (z = vL ((T.take (k + 1)).drop j)) ∧ wr = w) (fun _ j _ => (intOf j + 1).toNat)
              case atStart => exact ⟨k, c, rfl, by omega, rfl, by omega, unhide HZ0, rfl⟩
              case round =>
                obtain ⟨j, z, rfl, hj, rfl, hz, HZ, rfl⟩ := hrel
                by_cases hj0 : j = 0
                · subst hj0
                  have e0 : ((0 : Nat) : Int) - 1 = -1 := rfl
                  rw [e0]
                  go_wp2
                  go_ret3
                  have h := unhide FIN _ rfl
                  have hz0 := unhide HZ
                  rw [List.drop_zero] at hz0
                  rw [← hz0] at h
                  simp only [Prod.mk.injEq] at h
                  obtain ⟨e1, e2, e3⟩ := h
                  subst e1 e2 e3
                  exact ⟨rfl, rfl⟩
                · obtain ⟨i, hi⟩ : ∃ i : Nat, j = i + 1 := ⟨j - 1, by omega⟩
                  subst hi
                  have e1 : ((i + 1 : Nat) : Int) - 1 = (i : Int) := by omega
                  rw [e1]
                  have hiz : 0 ≤ (i : Int) := by omega
                  have hai : a + i < s.size := by omega
                  have HGi := hide (ref_get (unhide HT) hai)
                  obtain ⟨y, hy⟩ : ∃ y, s[a + i].toNat = y := ⟨_, rfl⟩
                  have hyl : y < 256 := by rw [← hy]; exact s[a + i].toNat_lt
                  have HYH : Hid (128 ≤ y) := by show 128 ≤ y; rw [← hy]; exact ahd_hi (unhide HGi) (by rw [unhide HEQ]; omega)
                  have hyh := unhide HYH
                  have hyz : 128 ≤ (y : Int) := by omega
                  have hyz2 : (y : Int) ≤ 255 := by omega
                  have HST := hide (vL_back_step (T := T) (k := k) (i := i) (unhide HGi) (by omega))
                  rw [hy] at HST
                  have hcv := unhide HST
                  have hmx := unhide HMX i
                  have hzz := unhide HZ
                  have hle : (z : Int) * 128 + ((y : Int) - 128) ≤ 18446744073709551615 := by
                    rw [← hzz] at hcv
                    have : y % 128 = y - 128 := by omega
                    omega
                  have HL := hide hcv
                  clear hcv hmx hzz
                  go_wp2
                  go_roundw
                  case rel => exact ⟨i, z * 128 + (y - 128), by go_num, by omega, by rw [show ((z * 128 + (y - 128) : Nat) : Int) = (z : Int) * 128 + ((y : Int) - 128) by omega], by omega, (by show _ = _; rw [unhide HL, ← unhide HZ]; omega), (by first | rfl | trivial)⟩
                  case measure => (simp [intOf]; try omega)
    · have hknz : ¬ (k : Int) < (n : Int) := by omega
      have hle := unhide HA
      have hal := ahd_le T
      rw [unhide HLL] at hal
      have HX := hide (rdN_short (T := T) (by rw [unhide HLL]; omega) (by rw [unhide HLL]; omega) (by rw [unhide HLL]; omega))
      clear hle hal
      go_wp2
      go_ret3
      have h := unhide HR
      unfold ruT at h
      rw [unhide HX] at h
      simp only [Prod.mk.injEq] at h
      obtain ⟨e1, e2, e3⟩ := h
      subst e1 e2 e3
      exact ⟨rfl, rfl⟩
theorem ref_read (s : ByteArray) (a : Nat) (w : World) (hs : s.size ≤ maxLen) (h : a < s.size) :
    Calls Tryz.prog 119 #[.string s, .int .i64 a] w fun e w' => e = .returned (.tuple #[.int .u64 (ruT ((lst s).drop a) a).1, .int .i64 (ruT ((lst s).drop a) a).2.1, .int .i64 (ruT ((lst s).drop a) a).2.2]) ∧ w' = w :=
  ref_read' s a (s.size - a) _ w hs h rfl (by omega) _ _ _ rfl
end Um
end Go.Proofs.YtohfhkdhccpoaaaGreatDoor
