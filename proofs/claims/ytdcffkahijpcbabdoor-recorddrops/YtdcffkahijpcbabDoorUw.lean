/- Layer 6: Uint, the program's and the document's. -/
import Derived.Test.YtdcffkahijpcbabDoorUb
namespace Go.Proofs.YtdcffkahijpcbabDoor
open Go.RowKit
namespace Um

set_option maxHeartbeats 1000000 in
set_option maxRecDepth 100000 in
theorem append_uint (n : Nat) (hn : n < 18446744073709551616) (L : List UInt8) (B : Nat) (v : Value) (w : World) (hL : L.length ≤ 1099511627776) (hO : Own B w v L) (hB : B ≤ w.heap.size) :
    Calls Tryd.prog 48 #[v, .int .u64 n] w fun e w' => ∃ v', e = .returned v' ∧ Own B w' v' (L ++ uL n) ∧ Below B w w' := by
  obtain ⟨i0, hi, hz0, hz1, hz2⟩ := info_parts infoB
  have HO := hide hO
  have HTEN := hide (uL_ten hn)
  clear hO
  go_enter Tryd.func48, Tryd.ntmps48
  go_wp2
  go_loopw [0, 1] (fun s0 s1 wr => ∃ (r : Nat) (u : Value) (D : List UInt8), u = s0 ∧ s1 = .int .u64 (r : Int) ∧ r < 18446744073709551616 ∧ D.length ≤ 10 ∧ Hid (D ++ uL r = uL n) ∧ Hid (Own B wr u (L ++ D)) ∧ Hid (Below B w wr)) (fun _ r _ => (intOf r).toNat)
  case atStart => exact ⟨n, v, [], rfl, rfl, hn, by simp, rfl, by rw [List.append_nil]; exact unhide HO, Below.refl _ _⟩
  case round =>
    obtain ⟨r, u, D, rfl, rfl, hr, hD, HE, HOr, HBr⟩ := hrel
    have hrz : (r : Int) ≤ 18446744073709551615 := by omega
    by_cases hlt : r < 128
    · have hltz : ¬ 128 ≤ (r : Int) := by omega
      have hmod : (r : Int) % 256 = r := by omega
      have hlen : (L ++ D).length = L.length + D.length := List.length_append
      have HW := hide (uL_small hlt)
      go_wp2_with (at_builtin; refine wpList_append_own _ rfl _ _ 99 rfl B 5 i0 (.int .u8 0) 1 1 Tryd.underlying99 hi hz0 hz1 hz2 rfl (by decide) _ _ _ rfl ((unhide HOr).below ((Below.refl _ _).alloc (Nat.le_refl _) _)) ⟨wr.heap.size, 0, none⟩ 1 1 [.int .u8 (r : Int)] rfl rfl (new_cells _ #[.int .u8 (r : Int)] _) (by simp [Value.oneCell']) (by unfold maxLen; omega) (by omega) (by have := (unhide HBr).size; simp; omega) ?_; intro v' w2 hown' hgrow hnil; clear hnil; have HO2 := hide (own_push (c := UInt8.ofNat r) (by rw [ofNat_toNat (by omega)]) hown'); have HB2 := hide (push1 (unhide HOr) (unhide HBr) hB hgrow); clear hown' hgrow)
      go_ret
      refine ⟨_, rfl, ?_, unhide HB2⟩
      have e := unhide HE
      rw [unhide HW] at e
      rw [← e, ← List.append_assoc]
      exact unhide HO2
    · have hltz : 128 ≤ (r : Int) := by omega
      have hlen : (L ++ D).length = L.length + D.length := List.length_append
      have hdiv : (r : Int).tdiv 128 = ((r / 128 : Nat) : Int) := by rw [Int.tdiv_eq_ediv_of_nonneg (by omega)]; omega
      have hdl : ((r / 128 : Nat) : Int) ≤ 144115188075855871 := by omega
      have HW := hide (uL_big hlt)
      go_wp2_with (at_builtin; refine wpList_append_own _ rfl _ _ 99 rfl B 5 i0 (.int .u8 0) 1 1 Tryd.underlying99 hi hz0 hz1 hz2 rfl (by decide) _ _ _ rfl ((unhide HOr).below ((Below.refl _ _).alloc (Nat.le_refl _) _)) ⟨wr.heap.size, 0, none⟩ 1 1 [.int .u8 ((r : Int) % 128 + 128)] rfl rfl (new_cells _ #[.int .u8 ((r : Int) % 128 + 128)] _) (by simp [Value.oneCell']) (by unfold maxLen; omega) (by omega) (by have := (unhide HBr).size; simp; omega) ?_; intro v' w2 hown' hgrow hnil; clear hnil; have HO2 := hide (own_push (c := UInt8.ofNat (r % 128 + 128)) (by rw [ofNat_toNat (by omega)]; omega) hown'); have HB2 := hide (push1 (unhide HOr) (unhide HBr) hB hgrow); clear hown' hgrow)
      go_roundw
      case rel =>
        have e := unhide HE
        rw [unhide HW] at e
        refine ⟨r / 128, v', D ++ [UInt8.ofNat (r % 128 + 128)], rfl, rfl, by omega, ?_, by rw [List.append_assoc]; exact e, by rw [← List.append_assoc]; exact unhide HO2, unhide HB2⟩
        have h1 := congrArg List.length e
        have h2 := unhide HTEN
        have h3 := uL_pos (r / 128)
        simp only [List.length_append, List.length_cons, List.length_nil] at h1 ⊢
        omega
      case measure => simp [intOf]; omega
set_option maxHeartbeats 1000000 in
set_option maxRecDepth 100000 in
theorem uint_any (n : Nat) (hn : n < 18446744073709551616) (w : World) :
    Calls Tryd.prog 28 #[.int .u64 n] w fun e w' => e = .returned (.string (str (uL n))) ∧ Below w.heap.size w w' := by
  have HA := hide (append_uint n hn [] w.heap.size (.slice none 0 0) w (by simp) (own_nil _ _) (Nat.le_refl _))
  go_enter Tryd.func28, Tryd.ntmps28
  go_wp2_with (go_at_call 48; refine (unhide HA).mono ?_; rintro e w1 ⟨v', rfl, hO, hB⟩; have hc := conv_own hO; obtain ⟨ao, cc, rfl⟩ := own_slice hO; rw [List.nil_append] at hc; have HB := hide hB; clear hO hB)
  go_ret
  exact ⟨rfl, unhide HB⟩
theorem conv_one (c : UInt8) {x : Int} (h : (c.toNat : Int) = x) (W : World) : (convert 99 9 (.slice (some ⟨W.heap.size, 0, none⟩) 1 1)).run Tryd.prog (W.alloc (.cells #[.int .u8 x] 5)) = .ok (.string (str [c])) (W.alloc (.cells #[.int .u8 x] 5)) := by
  subst h
  exact run_convert_bytes_back _ 99 9 5 ⟨W.heap.size, 0, none⟩ 1 [c] Tryd.underlying99 Tryd.underlying5 Tryd.underlying9 (fun j hj => by
    rw [add_off, World.cell?_alloc_at _ _ _ _ rfl]
    have : j = 0 := by simpa using hj
    subst this
    simp)
set_option maxHeartbeats 1000000 in
set_option maxRecDepth 100000 in
theorem ref_uint (n : Nat) : ∀ (_ : n < 18446744073709551616) (w : World),
    Calls Tryd.prog 68 #[.int .u64 n] w fun e w' => e = .returned (.string (str (uL n))) ∧ Below w.heap.size w w' := by
  induction n using Nat.strongRecOn with
  | _ n ih =>
    intro hn w
    have hnz : (n : Int) ≤ 18446744073709551615 := by omega
    by_cases hlt : n < 128
    · have hltz : (n : Int) < 128 := by omega
      have hmod : (n : Int) % 128 = n := by omega
      have hc := fun W => conv_one (UInt8.ofNat n) (x := (n : Int)) (by rw [ofNat_toNat (by omega)]) W
      rw [uL_small hlt]
      clear ih
      go_enter Tryd.func68, Tryd.ntmps68
      go_wp2
      go_ret
      exact ⟨rfl, (Below.refl _ w).alloc (Nat.le_refl _) _⟩
    · have hltz : ¬ (n : Int) < 128 := by omega
      have hdiv : (n : Int).tdiv 128 = ((n / 128 : Nat) : Int) := by rw [Int.tdiv_eq_ediv_of_nonneg (by omega)]; omega
      have hdl : ((n / 128 : Nat) : Int) ≤ 144115188075855871 := by omega
      have hc := fun W => conv_one (UInt8.ofNat (n % 128 + 128)) (x := (n : Int) % 128 + 128) (by rw [ofNat_toNat (by omega)]; omega) W
      have HI := hide (ih (n / 128) (by omega) (by omega))
      have hsz : ¬ 9223372036854775807 < (str [UInt8.ofNat (n % 128 + 128)]).size + (str (uL (n / 128))).size := by
        have := uL_ten (n := n / 128) (by omega)
        rw [str_size, str_size]
        simp
        omega
      have hsum : str [UInt8.ofNat (n % 128 + 128)] ++ str (uL (n / 128)) = str (uL n) := by rw [uL_big hlt, str_app]; rfl
      generalize str [UInt8.ofNat (n % 128 + 128)] = c1 at *
      generalize str (uL (n / 128)) = c2 at *
      generalize str (uL n) = R at *
      clear ih
      go_enter Tryd.func68, Tryd.ntmps68
      go_wp2_with (go_at_call 68; refine (unhide HI _).mono ?_; rintro e w1 ⟨rfl, hB⟩; have HB := hide hB; clear hB)
      go_ret
      exact ⟨rfl, (unhide HB).alloc (unhide HB).size _⟩
end Um
end Go.Proofs.YtdcffkahijpcbabDoor
