/- Layer 9: the laws' own has and set. -/
import Derived.Laws.Cover1
import Derived.Test.YtigffjbefbndnaaDoorFp
namespace Go.Proofs.YtigffjbefbndnaaDoor
open Go.RowKit
namespace Rs
open Sm (Tx ofS)
theorem tl_eq {a b : Tx} (h : (a.toList == b.toList) = true) : a = b := by
  have e : a.toList = b.toList := by simpa using h
  rw [Lib.toList_data, Lib.toList_data] at e
  exact Sm.tx_ext e
set_option maxRecDepth 100000 in
theorem has_yes {w : World} {v : Value} {L : List Tx} {x : Tx} (hT : Um.Txs w v L) (hn : L.length ≤ 9223372036854775806) (hx : x ∈ L) :
    Calls Tryd.prog 28 #[v, .string x] w fun e w' => e = .returned (.bool true) ∧ w' = w := by
  obtain ⟨ao, cap, rfl, hcap, hnn, hat⟩ := hT
  have HAT := hide hat
  have HX := hide hx
  generalize hN : L.length = N at *
  have HN := hide hN
  clear hat hN hx hnn
  go_enter Tryd.func28, Tryd.ntmps28
  go_wp2
  go_loop [9] (fun i => ∃ k : Nat, i = .int .i64 k ∧ k ≤ N ∧ Hid (¬ x ∈ L.take k)) (fun i => N - (intOf i).toNat)
  case atStart => exact ⟨0, rfl, Nat.zero_le _, by simp [Hid]⟩
  case round =>
    obtain ⟨k, rfl, hk, HT⟩ := hrel
    by_cases hlt : k < N
    · have hltz : (k : Int) < (N : Int) := by omega
      have hk0 : 0 ≤ (k : Int) := by omega
      have hlL : k < L.length := by rw [unhide HN]; exact hlt
      obtain ⟨y, hy⟩ : ∃ y, L[k]? = some y := ⟨_, List.getElem?_eq_getElem hlL⟩
      obtain ⟨g, off, rfl, hg, hc⟩ := unhide HAT (by omega)
      have hcx := hc k y hy
      cases he : (y.toList == x.toList) with
      | true =>
        clear hc hy
        go_wp2
        go_ret
        exact ⟨rfl, rfl⟩
      | false =>
        have HT2 : Hid (¬ x ∈ L.take (k + 1)) := fun hm => by
          rw [List.take_succ_eq_append_getElem hlL, List.mem_append] at hm
          rcases hm with hm | hm
          · exact unhide HT hm
          · rw [List.mem_singleton, (List.getElem?_eq_some_iff.1 hy).2] at hm
            rw [hm] at he
            simp at he
        clear hc hy
        go_wp2
        go_round
        case rel => exact ⟨k + 1, by go_num, by omega, HT2⟩
        case measure => simp [intOf]; omega
    · exfalso
      have := unhide HT
      rw [List.take_of_length_le (by rw [unhide HN]; omega)] at this
      exact this (unhide HX)
set_option maxRecDepth 100000 in
set_option maxHeartbeats 2000000 in
theorem set_any {w : World} {v u : Value} {R P : List Tx} (hv : Um.Txs w v R) (hu : Um.Txs w u P) (hR : Sm.Rs R) (hm : ∀ x, x ∈ R ↔ x ∈ P) (hn : R.length ≤ 9223372036854775806) (hp : P.length ≤ 9223372036854775806) :
    Calls Tryd.prog 15 #[v, u] w fun e w' => e = .returned (.bool true) ∧ w' = w := by
  have HH1 : Hid (∀ x, x ∈ R → Calls Tryd.prog 28 #[u, .string x] w fun e w' => e = .returned (.bool true) ∧ w' = w) := fun x hx => has_yes hu hp ((hm x).1 hx)
  have HH2 : Hid (∀ x, x ∈ P → Calls Tryd.prog 28 #[v, .string x] w fun e w' => e = .returned (.bool true) ∧ w' = w) := fun x hx => has_yes hv hn ((hm x).2 hx)
  obtain ⟨ao, cap, rfl, hcap, hnn, hat⟩ := hv
  obtain ⟨bo, cap2, rfl, hcap2, hnn2, hat2⟩ := hu
  have HAT := hide hat
  have HAT2 := hide hat2
  have HRS := hide hR
  generalize hN : R.length = N at *
  generalize hM : P.length = M at *
  have HN := hide hN
  have HM := hide hM
  clear hat hat2 hN hM hnn hnn2 hm hR
  go_enter Tryd.func15, Tryd.ntmps15
  go_wp2
  go_loop [11] (fun i => ∃ k : Nat, i = .int .i64 k ∧ k ≤ N) (fun i => N - (intOf i).toNat)
  case atStart => exact ⟨0, rfl, Nat.zero_le _⟩
  case round =>
    obtain ⟨k, rfl, hk⟩ := hrel
    by_cases hlt : k < N
    · have hltz : (k : Int) < (N : Int) := by omega
      have hk0 : 0 ≤ (k : Int) := by omega
      have hlL : k < R.length := by rw [unhide HN]; exact hlt
      obtain ⟨x, hx⟩ : ∃ x, R[k]? = some x := ⟨_, List.getElem?_eq_getElem hlL⟩
      obtain ⟨g, off, rfl, hg, hc⟩ := unhide HAT (by omega)
      have hcx := hc k x hx
      have HH := hide (unhide HH1 x (List.mem_of_getElem? hx))
      have hprev : ∀ j, k = j + 1 → ∃ y, w.cell? ⟨g, off + j, none⟩ = some (.string y) ∧ Op.bytesLess y.toList x.toList = true := fun j hj => by
        have hjl : j < R.length := by omega
        have hy := List.getElem?_eq_getElem hjl
        refine ⟨_, hc j _ hy, ?_⟩
        have := List.pairwise_iff_getElem.1 (unhide HRS) j k hjl hlL (by omega)
        rw [List.getElem?_eq_getElem hlL] at hx
        injection hx with hx
        rw [hx] at this
        exact this
      have HP := hide hprev
      clear hc hx hprev hlL
      rcases k with _ | j
      · rw [Nat.add_zero] at hcx
        go_wp2_with (go_at_call 28; refine (unhide HH).mono ?_; rintro e w1 ⟨rfl, hw1⟩; obtain rfl := hw1.symm)
        go_round
        case rel => exact ⟨1, by go_num, by omega⟩
        case measure => simp [intOf]; omega
      · obtain ⟨y, c2, hlt2⟩ := unhide HP j rfl
        have hj0 : 0 ≤ ((j : Int)) := by omega
        have hjN : (j : Int) < (N : Int) := by omega
        go_wp2_with (go_at_call 28; refine (unhide HH).mono ?_; rintro e w1 ⟨rfl, hw1⟩; obtain rfl := hw1.symm)
        go_round
        case rel => exact ⟨j + 1 + 1, by go_num, by omega⟩
        case measure => simp [intOf]; omega
    · have hltz : ¬ (k : Int) < (N : Int) := by omega
      go_wp2
      go_loop [36] (fun i => ∃ k : Nat, i = .int .i64 k ∧ k ≤ M) (fun i => M - (intOf i).toNat)
      case atStart => exact ⟨0, rfl, Nat.zero_le _⟩
      case round =>
        obtain ⟨q, rfl, hq⟩ := hrel
        by_cases hlq : q < M
        · have hlqz : (q : Int) < (M : Int) := by omega
          have hq0 : 0 ≤ (q : Int) := by omega
          obtain ⟨x, hx⟩ : ∃ x, P[q]? = some x := ⟨_, List.getElem?_eq_getElem (by rw [unhide HM]; exact hlq)⟩
          obtain ⟨g, off, rfl, hg, hc⟩ := unhide HAT2 (by omega)
          have hcx := hc q x hx
          have HH := hide (unhide HH2 x (List.mem_of_getElem? hx))
          clear hc hx
          go_wp2_with (go_at_call 28; refine (unhide HH).mono ?_; rintro e w1 ⟨rfl, hw1⟩; obtain rfl := hw1.symm)
          go_round
          case rel => exact ⟨q + 1, by go_num, by omega⟩
          case measure => simp [intOf]; omega
        · have hlqz : ¬ (q : Int) < (M : Int) := by omega
          go_wp2
          go_ret
          exact ⟨rfl, rfl⟩
end Rs
end Go.Proofs.YtigffjbefbndnaaDoor
