/- Layer 5: answers that are alike are told so. -/
import Derived.Test.YtdlmpogmoepkjaaDoorRy
namespace Go.Proofs.YtdlmpogmoepkjaaDoor
open Go.RowKit
namespace Rs
def Ints (w : World) (v : Value) (K : List Int) : Prop :=
  ∃ ao cap, v = .slice ao K.length cap ∧ K.length ≤ 16777216 ∧ (0 < K.length → ∃ g off, ao = some ⟨g, off, none⟩ ∧ g < w.heap.size ∧ ∀ (j : Nat) x, K[j]? = some x → w.cell? ⟨g, off + j, none⟩ = some (.int .i64 x))
theorem Ints.below {w w' : World} {v : Value} {K : List Int} (h : Ints w v K) (hb : Below w.heap.size w w') : Ints w' v K := by
  obtain ⟨ao, cap, e, hl, h2⟩ := h
  refine ⟨ao, cap, e, hl, fun h0 => ?_⟩
  obtain ⟨g, off, e1, hg, hc⟩ := h2 h0
  exact ⟨g, off, e1, Nat.lt_of_lt_of_le hg hb.size, fun j x hx => (hb.cell (p := ⟨g, off + j, none⟩) hg).trans (hc j x hx)⟩
theorem ints_nil (w : World) : Ints w (.slice none 0 0) [] := ⟨none, 0, rfl, by simp, fun h => absurd h (by simp)⟩
theorem ints_own {w : World} {B : Nat} {v : Value} {K : List Int} (h : w.ownsRow B 3 1 v K.length (K.map (Value.int .i64))) (hl : K.length ≤ 16777216) : Ints w v K := by
  obtain ⟨_, ⟨e, e2⟩ | ⟨g, cap, cur, e, _, hg, hn, _, hcs, hx⟩⟩ := h
  · exact ⟨none, 0, by rw [e, e2], hl, fun h0 => absurd e2 (by omega)⟩
  · refine ⟨_, cap, e, hl, fun _ => ⟨g, 0, rfl, (Array.getElem?_eq_some_iff.1 hg).1, fun j x hj => ?_⟩⟩
    have hjl := (List.getElem?_eq_some_iff.1 hj).1
    have h1 : cur.toList[j]? = (K.map (Value.int .i64))[j]? := by rw [← hx, List.getElem?_take, if_pos (by omega)]
    rw [Array.getElem?_toList, List.getElem?_map, hj] at h1
    simp [World.cell?, hg, h1]
set_option maxHeartbeats 1000000 in
theorem list_eq {w : World} {u v : Value} {K : List Int} (h1 : Ints w u K) (h2 : Ints w v K) : Calls Tryd.prog 12 #[u, v] w fun e w' => e = .returned (.bool true) ∧ Below w.heap.size w w' := by
  obtain ⟨ao, c1, rfl, hn, hc1⟩ := h1
  obtain ⟨bo, c2, rfl, -, hc2⟩ := h2
  have H1 := hide hc1
  have H2 := hide hc2
  obtain ⟨N, hN⟩ : ∃ N, N = K.length := ⟨_, rfl⟩
  rw [← hN] at hn ⊢
  have HN := hide hN
  clear hc1 hc2 hN
  go_enter Tryd.func12, Tryd.ntmps12
  go_wp2
  go_loopw [13] (fun i wr => ∃ k : Nat, k ≤ N ∧ i = .int .i64 k ∧ Hid (Below w.heap.size w wr)) (fun i _ => N - (intOf i).toNat)
  case atStart => exact ⟨0, Nat.zero_le _, rfl, Below.refl _ _⟩
  case round =>
    obtain ⟨k, hk, rfl, HB⟩ := hrel
    by_cases hlt : k < N
    · obtain ⟨x, hx⟩ : ∃ x, K[k]? = some x := ⟨_, List.getElem?_eq_getElem (by rw [← unhide HN]; exact hlt)⟩
      obtain ⟨g, off, rfl, hg, hc⟩ := unhide H1 (by rw [← unhide HN]; omega)
      obtain ⟨g2, off2, rfl, hg2, hc2⟩ := unhide H2 (by rw [← unhide HN]; omega)
      have q1 : wr.cell? ⟨g, off + k, none⟩ = some (.int .i64 x) := ((unhide HB).cell (p := ⟨g, off + k, none⟩) hg).trans (hc k x hx)
      have q2 : wr.cell? ⟨g2, off2 + k, none⟩ = some (.int .i64 x) := ((unhide HB).cell (p := ⟨g2, off2 + k, none⟩) hg2).trans (hc2 k x hx)
      have hltz : (k : Int) < (N : Int) := by omega
      have hk0 : 0 ≤ (k : Int) := by omega
      clear hc hc2 hx
      go_wp2
      go_region
      all_goals
        go_wp2
        go_roundw
        case rel => exact ⟨k + 1, by omega, by go_num, (unhide HB).drew⟩
        case measure => simp [intOf]; omega
    · have hltz : ¬ (k : Int) < (N : Int) := by omega
      go_wp2
      go_ret
      exact ⟨rfl, unhide HB⟩
set_option maxHeartbeats 1000000 in
theorem same_eq {w : World} (n c : Int) (t : ByteArray) {u v : Value} {K : List Int} (h1 : Ints w u K) (h2 : Ints w v K) : Calls Tryd.prog 10 #[.agg #[.int .i64 n, .int .i64 c, .string t, u], .agg #[.int .i64 n, .int .i64 c, .string t, v]] w fun e w' => e = .returned (.bool true) ∧ Below w.heap.size w w' := by
  have HL : Hid (∀ W, Below w.heap.size w W → Calls Tryd.prog 12 #[u, v] W fun e w' => e = .returned (.bool true) ∧ Below W.heap.size W w') := fun W hb => list_eq (h1.below hb) (h2.below hb)
  obtain ⟨ao, c1, rfl, -, -⟩ := h1
  obtain ⟨bo, c2, rfl, -, -⟩ := h2
  go_enter Tryd.func10, Tryd.ntmps10
  go_wp2_with (go_at_call 12; refine (unhide HL _ (by (repeat (first | exact Below.refl _ _ | refine Below.drew ?_ | refine Below.alloc ?_ (by first | (simp; done) | (simp; omega)) _ | refine Below.setCell ?_ (by first | (simp; done) | (simp; omega)) _)))).mono ?_; rintro e w1 ⟨rfl, hb⟩; have HB := hide hb; clear hb)
  go_ret
  exact ⟨rfl, ((((Below.refl _ w).alloc (Nat.le_refl _) _).alloc (by simp) _)).trans ((unhide HB).mono (by simp; omega))⟩
end Rs
end Go.Proofs.YtdlmpogmoepkjaaDoor
