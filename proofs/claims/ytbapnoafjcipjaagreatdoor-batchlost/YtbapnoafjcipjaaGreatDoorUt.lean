/- Layer 6: the laws' twin and list; unframeOne and Unframe, the program's. -/
import Derived.Test.YtbapnoafjcipjaaGreatDoorGb
import Derived.Laws.AppendOwn
import Derived.Laws.AppendOwnNone
import Derived.BigQuiet
import Derived.WalkSmall
namespace Go.Proofs.YtbapnoafjcipjaaGreatDoor
open Go.RowKit
namespace Um

theorem below_none {W w' : World} (hg : W.grownBy w' none) : Below W.heap.size W w' := (Below.refl _ W).grown hg (Nat.le_refl _) (fun k e => by cases e)
set_option maxRecDepth 100000 in
set_option maxHeartbeats 1000000 in
theorem twin_any (v : Value) (L : List ByteArray) (w : World) (hA : Txs w v L) (hn : L.length ≤ 1073741824) :
    Calls Tryz.prog 16 #[v] w fun e w' => ∃ u, e = .returned u ∧ OwnT w.heap.size w' u L ∧ Below w.heap.size w w' := by
  obtain ⟨i0, hi, hz0, hz1, hz2⟩ := info_parts infoT
  obtain ⟨ao, cap, rfl, h1, h2, h3⟩ := hA
  cases ao with
  | none =>
    obtain rfl : cap = 0 := h2 rfl
    have : L = [] := List.eq_nil_of_length_eq_zero (by omega)
    subst this
    simp only [List.length_nil]
    go_enter Tryz.func16, Tryz.ntmps16
    go_wp2_with (at_builtin; refine wpList_append_own_none rfl _ _ 33 rfl w.heap.size 9 i0 1 Tryz.underlying33 hi _ _ _ rfl (ownT_nil _ _) rfl ?_)
    go_ret
    exact ⟨_, rfl, ownT_nil w.heap.size w, Below.refl _ _⟩
  | some ad =>
    have HC : Hid (∀ j u, (texts L)[j]? = some u → w.cell? (ad.add j) = some u) := fun j u hu => by
      unfold texts at hu
      rw [List.getElem?_map] at hu
      cases hx : L[j]? with
      | none => rw [hx] at hu; cases hu
      | some x =>
        rw [hx] at hu
        obtain ⟨g, off, e, hg, hc⟩ := h3 (by have := (List.getElem?_eq_some_iff.1 hx).1; omega)
        injection e with e
        subst e
        have := hc j x hx
        rw [Go.WideShapes.add_plain]
        injection hu with hu
        rw [← hu]
        exact this
    have HL : Hid ((texts L).length = L.length * 1) := by show _ = _; unfold texts; rw [List.length_map, Nat.mul_one]
    have HO := hide (texts_one L)
    have HF : Hid (∀ W u, W.ownsRow w.heap.size 9 1 u (0 + L.length) ([] ++ texts L) → OwnT w.heap.size W u L) := fun W u h => by
      rw [Nat.zero_add, List.nil_append] at h
      exact h
    clear h3 h2
    generalize texts L = news at *
    obtain ⟨n, hnn⟩ : ∃ n, L.length = n := ⟨_, rfl⟩
    rw [hnn] at hn h1 HL HF ⊢
    clear hnn
    go_enter Tryz.func16, Tryz.ntmps16
    go_wp2_with (at_builtin; refine wpList_append_own _ rfl _ _ 33 rfl w.heap.size 9 i0 (.string ByteArray.empty) 1 16 Tryz.underlying33 hi hz0 hz1 hz2 rfl (by decide) _ _ _ rfl (ownT_nil _ _) ad n cap news rfl (unhide HL) (unhide HC) (unhide HO) (by unfold maxLen; simp; omega) (by simp; omega) (Nat.le_refl _) ?_; intro v1 w1 hown1 hgrow1 hnil1; clear hnil1; have HOW := hide hown1; have HGR := hide (below_none hgrow1); clear hown1 hgrow1)
    go_ret
    exact ⟨_, rfl, unhide HF _ _ (unhide HOW), unhide HGR⟩
end Um
end Go.Proofs.YtbapnoafjcipjaaGreatDoor
