/- Contract: the laws' comparison of two lists of texts answers true where both lists hold the same texts; nothing in memory turns. -/
import Derived.Test.YtaaonaaciomijabDoorFldW
namespace Go.Proofs.YtaaonaaciomijabDoor
open Go.RowKit
namespace Same
open FldW

/-- The slice value v reads as the texts L. -/
def IsStrs (w : World) (v : Value) (L : List ByteArray) : Prop :=
  ∃ ao cap, v = .slice ao L.length cap ∧ L.length ≤ maxLen ∧ (L = [] ∨ ∃ g off, ao = some ⟨g, off, none⟩ ∧ ∀ j x, L[j]? = some x → w.cell? ⟨g, off + j, none⟩ = some (.string x))
theorem isStrs_of_owns {w : World} {B : Nat} {v : Value} {L : List (List UInt8)} (h : w.ownsRow B 9 1 v L.length (vals L)) : IsStrs w v (L.map Fld.str) := by
  have hc := h
  obtain ⟨hl, ⟨rfl, h0⟩ | ⟨g, cap, cur, rfl, hg, hh, hc1, hm, hsz, htk⟩⟩ := h
  · have : L = [] := List.eq_nil_of_length_eq_zero h0
    subst this
    exact ⟨none, 0, rfl, by simp, .inl rfl⟩
  · refine ⟨some ⟨g, 0, none⟩, cap, by simp, by simp; omega, ?_⟩
    right
    refine ⟨g, 0, rfl, fun j x hj => ?_⟩
    have := hc.cells (g := g) rfl j (.string x) (by
      simp only [List.getElem?_map, Option.map_eq_some_iff] at hj
      obtain ⟨f, hf, rfl⟩ := hj
      simp [vals, hf])
    have e : (⟨g, 0, none⟩ : Addr).add j = ⟨g, 0 + j, none⟩ := by
      unfold Addr.add
      split
      · rename_i h; subst h; rfl
      · rfl
    rw [e] at this
    exact this

theorem owns_below {w w' : World} {base : Nat} {e : TypeId} {size : Nat} {v : Value} {n : Nat} {xs : List Value} (h : w.ownsRow base e size v n xs) (hB : Below w.heap.size w w') : w'.ownsRow base e size v n xs := by
  obtain ⟨hl, h | ⟨g, cap, cur, rfl, hg, hh, hr⟩⟩ := h
  · exact ⟨hl, .inl h⟩
  · refine ⟨hl, .inr ⟨g, cap, cur, rfl, hg, ?_, hr⟩⟩
    rw [hB.block g (Array.getElem?_eq_some_iff.1 hh).1]
    exact hh

set_option maxHeartbeats 1000000 in
theorem same_true (w : World) (v1 v2 : Value) (L : List ByteArray) (h1 : IsStrs w v1 L) (h2 : IsStrs w v2 L) :
    Calls Tryd.prog 23 #[v1, v2] w fun e w' => e = .returned (.bool true) ∧ ∃ n, w' = w.drewN n := by
  obtain ⟨a1, c1, rfl, hm, h1⟩ := h1
  obtain ⟨a2, c2, rfl, _, h2⟩ := h2
  unfold maxLen at hm
  generalize hn : L.length = n at *
  have HN := hide hn
  clear hn
  have H1 := hide h1
  have H2 := hide h2
  clear h1 h2
  go_enter Tryd.func23, Tryd.ntmps23
  go_wp2
  go_loopw [13] (fun i wr => ∃ k q : Nat, k ≤ n ∧ i = .int .i64 k ∧ wr = w.drewN q) (fun i _ => n - (intOf i).toNat)
  case atStart => exact ⟨0, 0, Nat.zero_le _, rfl, rfl⟩
  case round =>
    obtain ⟨k, q, hk, rfl, rfl⟩ := hrel
    by_cases hlt : k < n
    · obtain ⟨x, hx⟩ : ∃ x, L[k]? = some x := ⟨_, List.getElem?_eq_getElem (by rw [unhide HN]; exact hlt)⟩
      have e1 : ∃ g off, a1 = some ⟨g, off, none⟩ ∧ w.cell? ⟨g, off + k, none⟩ = some (.string x) := by
        rcases unhide H1 with h1 | ⟨g, off, e, hc⟩
        · subst h1; simp at hx
        · exact ⟨g, off, e, hc k x hx⟩
      have e2 : ∃ g off, a2 = some ⟨g, off, none⟩ ∧ w.cell? ⟨g, off + k, none⟩ = some (.string x) := by
        rcases unhide H2 with h2 | ⟨g, off, e, hc⟩
        · subst h2; simp at hx
        · exact ⟨g, off, e, hc k x hx⟩
      obtain ⟨g1, o1, rfl, hc1⟩ := e1
      obtain ⟨g2, o2, rfl, hc2⟩ := e2
      clear hx
      have hk1 : (k : Int) < (n : Int) := by omega
      go_wp2
      go_quiet (fail)
      go_wp2
      go_roundw
      case rel => exact ⟨k + 1, _, by omega, by go_num, rfl⟩
      case measure => simp [intOf]; omega
    · have hnl : ¬ ((k : Int) < (n : Int)) := by omega
      go_wp2
      go_ret
      exact ⟨rfl, _, rfl⟩
end Same
end Go.Proofs.YtaaonaaciomijabDoor
