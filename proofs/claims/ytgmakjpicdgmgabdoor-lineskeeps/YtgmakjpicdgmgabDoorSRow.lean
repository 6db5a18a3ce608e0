/- Contract: the laws' comparison of two lists of rows answers true where both hold the same rows; nothing in memory turns. -/
import Derived.Test.YtgmakjpicdgmgabDoorSame
import Derived.Test.YtgmakjpicdgmgabDoorRowB
namespace Go.Proofs.YtgmakjpicdgmgabDoor
open Go.RowKit
namespace SRow
open FldW RowB

theorem rows_cells {n₀ : Nat} {eR : TypeId} {W : World} {v : Value} {R : List (Nat × List (List UInt8))} (h : RowsAre n₀ eR W v R) :
    ∃ a c, v = .slice a R.length c ∧ R.length ≤ c ∧ R.length ≤ maxLen ∧ (0 < R.length → ∃ g, a = some ⟨g, 0, none⟩ ∧ ∀ (j : Nat) r, R[j]? = some r → ∃ fv, W.cell? ⟨g, 2 * j, none⟩ = some (.int .i64 (r.1 : Int)) ∧ W.cell? ⟨g, 2 * j + 1, none⟩ = some fv ∧ Same.IsStrs W fv (r.2.map Fld.str)) := by
  obtain ⟨E, hF, hO, _⟩ := h
  have hl := hF.length
  have hO' := hO
  obtain ⟨_, ⟨rfl, h0⟩ | ⟨g, cap, cur, rfl, hg, hh, hc, hm, hsz, htk⟩⟩ := hO
  · exact ⟨none, 0, by rw [← hl, h0], by omega, by omega, fun h => by omega⟩
  · refine ⟨_, cap, by rw [hl], by omega, by omega, fun _ => ⟨g, rfl, fun j r hr => ?_⟩⟩
    have hj : j < E.length := by rw [hl]; exact (List.getElem?_eq_some_iff.1 hr).1
    have he : E[j]? = some E[j] := List.getElem?_eq_getElem hj
    obtain ⟨r2, hr2, e1, hs⟩ := hF.get j _ he
    rw [hr] at hr2
    cases hr2
    obtain ⟨c1, c2⟩ := cellsE_get E j _ he
    have a0 : ∀ j, (⟨g, 0, none⟩ : Addr).add j = ⟨g, j, none⟩ := fun j => by
      unfold Addr.add
      split
      · rename_i h; subst h; rfl
      · simp
    have k1 := hO'.cells (g := g) rfl _ _ c1
    have k2 := hO'.cells (g := g) rfl _ _ c2
    rw [a0] at k1 k2
    exact ⟨_, by rw [← e1]; exact k1, k2, isStrs_of_row hs⟩

set_option maxHeartbeats 1000000 in
theorem same_true (w : World) (v1 v2 : Value) (n1 n2 : Nat) (R : List (Nat × List (List UInt8))) (h1 : RowsAre n1 40 w v1 R) (h2 : RowsAre n2 57 w v2 R) :
    Calls Tryd.prog 24 #[v1, v2] w fun e w' => e = .returned (.bool true) ∧ ∃ n, w' = w.drewN n := by
  obtain ⟨a1, c1, rfl, hl1, hm, h1⟩ := rows_cells h1
  obtain ⟨a2, c2, rfl, hl2, _, h2⟩ := rows_cells h2
  unfold maxLen at hm
  generalize hn : R.length = n at *
  have HN := hide hn
  clear hn
  have H1 := hide h1
  have H2 := hide h2
  clear h1 h2
  go_enter Tryd.func24, Tryd.ntmps24
  go_wp2
  go_loopw [13] (fun i wr => ∃ k q : Nat, k ≤ n ∧ i = .int .i64 k ∧ wr = w.drewN q) (fun i _ => n - (intOf i).toNat)
  case atStart => exact ⟨0, 0, Nat.zero_le _, rfl, rfl⟩
  case round =>
    obtain ⟨k, q, hk, rfl, rfl⟩ := hrel
    by_cases hlt : k < n
    · obtain ⟨r, hr⟩ : ∃ r, R[k]? = some r := ⟨_, List.getElem?_eq_getElem (by rw [unhide HN]; exact hlt)⟩
      obtain ⟨g1, rfl, hx1⟩ := unhide H1 (by omega)
      obtain ⟨g2, rfl, hx2⟩ := unhide H2 (by omega)
      obtain ⟨f1, hc1, hd1, hi1⟩ := hx1 k r hr
      obtain ⟨f2, hc2, hd2, hi2⟩ := hx2 k r hr
      rw [Nat.mul_comm 2 k] at hc1 hd1 hc2 hd2
      generalize (r.1 : Int) = ln at *
      have hi1' : Same.IsStrs (w.drewN q) f1 (r.2.map Fld.str) := hi1
      have hi2' : Same.IsStrs (w.drewN q) f2 (r.2.map Fld.str) := hi2
      have hc1' : (w.drewN q).cell? ⟨g1, k * 2, none⟩ = some (.int .i64 ln) := hc1
      have hd1' : (w.drewN q).cell? ⟨g1, k * 2 + 1, none⟩ = some f1 := hd1
      have hc2' : (w.drewN q).cell? ⟨g2, k * 2, none⟩ = some (.int .i64 ln) := hc2
      have hd2' : (w.drewN q).cell? ⟨g2, k * 2 + 1, none⟩ = some f2 := hd2
      clear hi1 hi2 hc1 hd1 hc2 hd2 hx1 hx2 hr
      have HW : Hid (∀ m, ∃ q', (w.drewN q).drewN m = w.drewN q') := fun m => ⟨q + m, by rw [World.drewN_drewN]⟩
      generalize w.drewN q = W at *
      have HS := hide (fun m : Nat => Same.same_true (W.drewN m) f1 f2 (r.2.map Fld.str) hi1' hi2')
      clear hi1' hi2'
      have hk1 : (k : Int) < (n : Int) := by omega
      go_wp2
      go_quiet ((go_at_call 17; exact Calls.quiet_of (unhide HS _)))
      go_wp2
      go_roundw
      case rel =>
        obtain ⟨q', hq'⟩ := unhide HW nq
        exact ⟨k + 1, q', by omega, by go_num, hq'⟩
      case measure => simp [intOf]; omega
    · have hnl : ¬ ((k : Int) < (n : Int)) := by omega
      go_wp2
      go_ret
      exact ⟨rfl, _, rfl⟩
end SRow
end Go.Proofs.YtgmakjpicdgmgabDoor
