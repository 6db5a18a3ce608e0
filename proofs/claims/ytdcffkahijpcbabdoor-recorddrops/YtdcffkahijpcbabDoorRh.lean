/- Layer 5: hasRoom. -/
import Derived.Test.YtdcffkahijpcbabDoorRo
namespace Go.Proofs.YtdcffkahijpcbabDoor
open Go.RowKit
namespace Rs
def sz : List ByteArray → Nat
  | [] => 0
  | x :: t => x.size + sz t
theorem sz_app (a b : List ByteArray) : sz (a ++ b) = sz a + sz b := by
  induction a with
  | nil => simp [sz]
  | cons x t ih => simp [sz, ih]; omega
theorem sz_take {L : List ByteArray} {k : Nat} {x : ByteArray} (h : L[k]? = some x) : sz (L.take (k + 1)) = sz (L.take k) + x.size := by
  have hk := (List.getElem?_eq_some_iff.1 h).1
  rw [List.take_succ_eq_append_getElem hk, (List.getElem?_eq_some_iff.1 h).2, sz_app]
  simp [sz]
theorem sz_le (L : List ByteArray) (k : Nat) : sz (L.take k) ≤ sz L := by
  have := sz_app (L.take k) (L.drop k)
  rw [List.take_append_drop] at this
  omega
def Strs (w : World) (v : Value) (L : List ByteArray) : Prop :=
  ∃ ao cap, v = .slice ao L.length cap ∧ L.length ≤ 9223372036854775807 ∧ (0 < L.length → ∃ g off, ao = some ⟨g, off, none⟩ ∧ g < w.heap.size ∧ ∀ (j : Nat) x, L[j]? = some x → w.cell? ⟨g, off + j, none⟩ = some (.string x))
theorem Strs.below {w w' : World} {v : Value} {L : List ByteArray} (h : Strs w v L) (hb : Below w.heap.size w w') : Strs w' v L := by
  obtain ⟨ao, cap, e, hl, h2⟩ := h
  refine ⟨ao, cap, e, hl, fun h0 => ?_⟩
  obtain ⟨g, off, e1, hg, hc⟩ := h2 h0
  exact ⟨g, off, e1, Nat.lt_of_lt_of_le hg hb.size, fun j x hx => (hb.cell (p := ⟨g, off + j, none⟩) hg).trans (hc j x hx)⟩
set_option maxHeartbeats 1000000 in
theorem room_any {w : World} {sb : Nat} {m : Sto} {F : Nat → Prop} {v : Value} {L : List ByteArray} (h : At w sb m F) (hL : Strs w v L) :
    Calls Tryd.prog 62 #[.pointer (some ⟨sb, 0, none⟩), v] w fun e w' => e = .returned (.bool (decide (tot m.runs + sz L ≤ m.cap))) ∧ Below w.heap.size w w' := by
  have ok := h.ok
  have k1 := ok.cap
  have k2 := ok.used
  obtain ⟨mv, hs, _⟩ := h.map
  obtain ⟨c0, _, _, c3, _, _, fz⟩ := cells_sto hs
  obtain ⟨ao, cap, rfl, hn, hcc⟩ := hL
  have HC := hide hcc
  have HSL := hide (sz_le L)
  have HTK := hide (fun k x => @sz_take L k x)
  obtain ⟨R, hR⟩ : ∃ R : Nat, m.cap = tot m.runs + R := ⟨m.cap - tot m.runs, by omega⟩
  have HD : Hid (decide (tot m.runs + sz L ≤ m.cap) = decide (sz L ≤ R)) := hide (by rw [decide_eq_decide]; omega)
  obtain ⟨N, hN⟩ : ∃ N, N = L.length := ⟨_, rfl⟩
  rw [← hN] at hn ⊢
  have HN := hide hN
  rw [unhide HD]
  rw [show ((m.cap : Nat) : Int) = (tot m.runs : Int) + R by omega] at c0
  have hR2 : R ≤ 67108864 := by omega
  have hU2 : tot m.runs ≤ 67108864 := by omega
  generalize tot m.runs = U at *
  clear h hs hcc ok k1 k2 hN hR HD
  go_enter Tryd.func62, Tryd.ntmps62
  go_wp2
  go_region
  all_goals
    go_wp2
    go_loopw [5, 19] (fun r i wr => ∃ k : Nat, k ≤ N ∧ i = .int .i64 k ∧ r = .int .i64 ((R : Int) - (sz (L.take k) : Nat)) ∧ sz (L.take k) ≤ R ∧ Hid (Below w.heap.size w wr)) (fun _ i _ => N - (intOf i).toNat)
    case atStart => exact ⟨0, Nat.zero_le _, rfl, by simp [sz]; omega, by simp [sz], ((Below.refl _ _).drew)⟩
    case round =>
      obtain ⟨k, hk, rfl, rfl, hle, HB⟩ := hrel
      by_cases hlt : k < N
      · obtain ⟨x, hx⟩ : ∃ x, L[k]? = some x := ⟨_, List.getElem?_eq_getElem (by rw [← unhide HN]; exact hlt)⟩
        obtain ⟨g, off, rfl, hg, hc⟩ := unhide HC (by rw [← unhide HN]; omega)
        have hcx : wr.cell? ⟨g, off + k, none⟩ = some (.string x) := ((unhide HB).cell (p := ⟨g, off + k, none⟩) hg).trans (hc k x hx)
        have HS := hide (unhide HTK k x hx)
        have HS2 := hide (unhide HSL (k + 1))
        generalize sz (L.take k) = S at *
        have hltz : (k : Int) < (N : Int) := by omega
        clear hc hx
        by_cases hbig : (x.size : Int) > (R : Int) - (S : Int)
        · go_wp2
          go_ret
          rw [decide_eq_false (by have := unhide HS; have := unhide HS2; omega)]
          exact ⟨rfl, unhide HB⟩
        · go_wp2
          go_roundw
          case rel => exact ⟨k + 1, by omega, by go_num, by rw [unhide HS]; go_num, by rw [unhide HS]; omega, HB⟩
          case measure => simp [intOf]; omega
      · have e : k = N := by omega
        have HL : Hid (sz L = sz (L.take k)) := hide (by rw [e, unhide HN, List.take_length])
        have hltz : ¬ (k : Int) < (N : Int) := by omega
        clear e
        go_wp2
        go_ret
        rw [decide_eq_true (by rw [unhide HL]; exact hle)]
        exact ⟨rfl, unhide HB⟩
end Rs
end Go.Proofs.YtdcffkahijpcbabDoor
