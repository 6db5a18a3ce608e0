/- Things in memory that lie apart from each other. No walk. -/
import Derived.Test.YtbapnoafjcipjaaGreatDoorGa
namespace Go.Proofs.YtbapnoafjcipjaaGreatDoor
open Go.RowKit
namespace Rs
/-- something that lies in the blocks F -/
structure Thing where
  P : World → (Nat → Prop) → Prop
  lt : ∀ {w : World} {F : Nat → Prop}, P w F → ∀ b, F b → b < w.heap.size
  kept : ∀ {w w' : World} {F G : Nat → Prop}, P w F → (∀ b, F b → w'.heap[b]? = w.heap[b]?) → (∀ b, F b → G b) → (∀ b, G b → b < w'.heap.size) → P w' G
def stoT (sb : Nat) (m : Sto) : Thing := ⟨fun w F => At w sb m F, fun h => h.lt, fun h a b c => h.kept a b c⟩
def updN (D : Nat → Nat) (i x j : Nat) : Nat := if j = i then x else D j
theorem updN_ne (D : Nat → Nat) {i j : Nat} (x : Nat) (h : j ≠ i) : updN D i x j = D j := if_neg h
theorem updN_same (D : Nat → Nat) (i x : Nat) : updN D i x i = x := if_pos rfl
/-- the things of L lie apart from each other in wr, newer than w; the i-th below D i -/
def Sep (w : World) (L : List Thing) (D : Nat → Nat) (wr : World) : Prop :=
  ∃ Fs : Nat → Nat → Prop, (∀ (i : Nat) (T : Thing), L[i]? = some T → T.P wr (Fs i)) ∧ (∀ i j b : Nat, i ≠ j → Fs i b → ¬ Fs j b) ∧ (∀ i b : Nat, Fs i b → w.heap.size ≤ b ∧ b < wr.heap.size ∧ b < D i) ∧ Below w.heap.size w wr
theorem Sep.nil (w : World) (D : Nat → Nat) : Sep w [] D w := ⟨fun _ _ => False, fun i T h => by simp at h, fun _ _ _ _ h => h.elim, fun _ _ h => h.elim, Below.refl _ _⟩
theorem Sep.old {w wr : World} {L : List Thing} {D : Nat → Nat} (h : Sep w L D wr) : Below w.heap.size w wr := by
  obtain ⟨_, _, _, _, h⟩ := h
  exact h
theorem Sep.below {w wr W : World} {L : List Thing} {D : Nat → Nat} (h : Sep w L D wr) (hb : Below wr.heap.size wr W) : Sep w L D W := by
  obtain ⟨Fs, h1, h2, h3, h4⟩ := h
  exact ⟨Fs, fun i T hi => T.kept (h1 i T hi) (fun b hb' => hb.block b (h3 i b hb').2.1) (fun _ x => x) (fun b hb' => Nat.lt_of_lt_of_le (h3 i b hb').2.1 hb.size), h2, fun i b hb' => ⟨(h3 i b hb').1, Nat.lt_of_lt_of_le (h3 i b hb').2.1 hb.size, (h3 i b hb').2.2⟩, h4.trans (hb.mono h4.size)⟩
theorem Sep.reset {w wr : World} {L : List Thing} {D : Nat → Nat} (h : Sep w L D wr) : Sep w L (fun _ => wr.heap.size) wr := by
  obtain ⟨Fs, h1, h2, h3, h4⟩ := h
  exact ⟨Fs, h1, h2, fun i b hb => ⟨(h3 i b hb).1, (h3 i b hb).2.1, (h3 i b hb).2.1⟩, h4⟩
/-- a call of the i-th thing, in a frame whose own blocks lie between wr and W -/
theorem Sep.call {w wr W : World} {L : List Thing} {D : Nat → Nat} (h : Sep w L D wr) (hb : Below wr.heap.size wr W) {i : Nat} {T : Thing} (hi : L[i]? = some T) :
    ∃ F, T.P W F ∧ (∀ b, F b → w.heap.size ≤ b ∧ b < wr.heap.size ∧ b < D i) ∧ Below w.heap.size w W ∧
      ∀ (T' : Thing) (w' : World), T'.P w' (Up F W w') → Chg F W w' → ∀ W5, Chg (fun b => wr.heap.size ≤ b ∧ b < W.heap.size) w' W5 → Sep w (L.set i T') (updN D i w'.heap.size) W5 := by
  have hW := h.below hb
  obtain ⟨Fs, h1, h2, h3, h4⟩ := h
  refine ⟨Fs i, T.kept (h1 i T hi) (fun b hb' => hb.block b (h3 i b hb').2.1) (fun _ x => x) (fun b hb' => Nat.lt_of_lt_of_le (h3 i b hb').2.1 hb.size), h3 i, hW.old, fun T' w' hT hc W5 c => ?_⟩
  have l1 := hb.size
  have l2 := hc.size
  have l3 := c.size
  have l4 := h4.size
  refine ⟨fun j => if j = i then Up (Fs i) W w' else Fs j, fun j U hj => ?_, fun j k b hjk hx hy => ?_, fun j b hx => ?_, hW.old.trans ((hc.below hW.old.size (fun k hk => (h3 i k hk).1)).trans (c.below (by omega) (fun k hk => by omega)))⟩
  · by_cases e : j = i
    · subst e
      rw [List.getElem?_set_self (List.getElem?_eq_some_iff.1 hi).1] at hj
      injection hj with hj
      subst hj
      simp only [if_true]
      refine T'.kept hT (fun b hx => c.block b (T'.lt hT b hx) fun e => ?_) (fun _ x => x) (fun b hx => Nat.lt_of_lt_of_le (T'.lt hT b hx) l3)
      rcases hx with hx | hx
      · have := (h3 j b hx).2.1; omega
      · omega
    · rw [List.getElem?_set_ne (fun x => e x.symm)] at hj
      simp only [if_neg e]
      refine U.kept (h1 j U hj) (fun b hx => ?_) (fun _ x => x) (fun b hx => by have := (h3 j b hx).2.1; omega)
      have hbl := (h3 j b hx).2.1
      rw [c.block b (by omega) (fun e2 => by omega), hc.block b (by omega) (fun hF => h2 j i b e hx hF), hb.block b hbl]
  · by_cases e : j = i
    · by_cases e2 : k = i
      · exact hjk (e.trans e2.symm)
      · simp only [if_pos e, if_neg e2] at hx hy
        rcases hx with hx | hx
        · exact h2 i k b (fun x => e2 x.symm) hx hy
        · have := (h3 k b hy).2.1; omega
    · by_cases e2 : k = i
      · simp only [if_neg e, if_pos e2] at hx hy
        rcases hy with hy | hy
        · exact h2 j i b e hx hy
        · have := (h3 j b hx).2.1; omega
      · simp only [if_neg e, if_neg e2] at hx hy
        exact h2 j k b hjk hx hy
  · by_cases e : j = i
    · simp only [if_pos e] at hx
      subst e
      rw [updN_same]
      rcases hx with hx | hx
      · have := h3 j b hx; exact ⟨this.1, by omega, by omega⟩
      · exact ⟨by omega, by omega, hx.2⟩
    · simp only [if_neg e] at hx
      rw [updN_ne _ _ e]
      have := h3 j b hx
      exact ⟨this.1, by omega, this.2.2⟩
/-- a new thing -/
theorem Sep.add {w wr w' : World} {L : List Thing} {D : Nat → Nat} (h : Sep w L D wr) {T : Thing} {G : Nat → Prop} (hT : T.P w' G) (hG : ∀ b, G b → wr.heap.size ≤ b) (hb : Below wr.heap.size wr w') : Sep w (L ++ [T]) (fun _ => w'.heap.size) w' := by
  have hW := h.below hb
  obtain ⟨Fs, h1, h2, h3, h4⟩ := h
  have l1 := hb.size
  have l4 := h4.size
  refine ⟨fun j => if j = L.length then G else Fs j, fun j U hj => ?_, fun j k b hjk hx hy => ?_, fun j b hx => ?_, hW.old⟩
  · by_cases e : j = L.length
    · subst e
      simp at hj
      subst hj
      simp only [if_true]
      exact hT
    · have hl : j < L.length := by have := (List.getElem?_eq_some_iff.1 hj).1; simp at this; omega
      rw [List.getElem?_append_left hl] at hj
      simp only [if_neg e]
      exact U.kept (h1 j U hj) (fun b hx => hb.block b (h3 j b hx).2.1) (fun _ x => x) (fun b hx => by have := (h3 j b hx).2.1; omega)
  · by_cases e : j = L.length
    · by_cases e2 : k = L.length
      · exact hjk (e.trans e2.symm)
      · simp only [if_pos e, if_neg e2] at hx hy
        have := hG b hx; have := (h3 k b hy).2.1; omega
    · by_cases e2 : k = L.length
      · simp only [if_neg e, if_pos e2] at hx hy
        have := hG b hy; have := (h3 j b hx).2.1; omega
      · simp only [if_neg e, if_neg e2] at hx hy
        exact h2 j k b hjk hx hy
  · by_cases e : j = L.length
    · simp only [if_pos e] at hx
      have := T.lt hT b hx
      have := hG b hx
      exact ⟨by omega, by omega, by show b < w'.heap.size; omega⟩
    · simp only [if_neg e] at hx
      have := h3 j b hx
      exact ⟨this.1, by omega, by show b < w'.heap.size; omega⟩
end Rs
end Go.Proofs.YtbapnoafjcipjaaGreatDoor
