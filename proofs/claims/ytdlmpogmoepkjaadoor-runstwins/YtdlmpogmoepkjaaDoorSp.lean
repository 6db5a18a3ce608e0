/- Layer 5: things in memory that lie apart from each other: stores, the document's stores. -/
import Derived.Test.YtdlmpogmoepkjaaDoorDl
import Derived.Test.YtdlmpogmoepkjaaDoorRk
namespace Go.Proofs.YtdlmpogmoepkjaaDoor
open Go.RowKit
namespace Rs
/-- something that lies in the blocks F -/
structure Thing where
  P : World → (Nat → Prop) → Prop
  lt : ∀ {w : World} {F : Nat → Prop}, P w F → ∀ b, F b → b < w.heap.size
  kept : ∀ {w w' : World} {F G : Nat → Prop}, P w F → (∀ b, F b → w'.heap[b]? = w.heap[b]?) → (∀ b, F b → G b) → (∀ b, G b → b < w'.heap.size) → P w' G
def stoT (sb : Nat) (m : Sto) : Thing := ⟨fun w F => At w sb m F, fun h => h.lt, fun h a b c => h.kept a b c⟩
def docT (sb : Nat) (m : Sto) : Thing := ⟨fun w F => DAt w sb m F, fun h => h.lt, fun h a b c => h.kept a b c⟩
def updN (D : Nat → Nat) (i x j : Nat) : Nat := if j = i then x else D j
theorem updN_ne (D : Nat → Nat) {i j : Nat} (x : Nat) (h : j ≠ i) : updN D i x j = D j := if_neg h
theorem updN_same (D : Nat → Nat) (i x : Nat) : updN D i x i = x := if_pos rfl
/-- the things of L lie apart from each other in wr, newer than w; the i-th below D i -/
def Sep (w : World) (L : List Thing) (D : Nat → Nat) (wr : World) : Prop :=
  ∃ Fs : Nat → Nat → Prop, (∀ (i : Nat) (T : Thing), L[i]? = some T → T.P wr (Fs i)) ∧ (∀ i j b : Nat, i ≠ j → Fs i b → ¬ Fs j b) ∧ (∀ i b : Nat, Fs i b → w.heap.size ≤ b ∧ b < wr.heap.size ∧ b < D i) ∧ Below w.heap.size w wr
theorem Sep.nil (w : World) (D : Nat → Nat) : Sep w [] D w := ⟨fun _ _ => False, fun i T h => by simp at h, fun _ _ _ _ h => h.elim, fun _ _ h => h.elim, Below.refl _ _⟩
theorem Sep.old {w wr : World} {L : List Thing} {D : Nat → Nat} (h : Sep w L D wr) : Below w.heap.size w wr := by
  obtain ⟨_, _, _, _, h⟩ := h
  exact h
theorem Sep.below {w wr W : World} {L : List Thing} {D : Nat → Nat} (h : Sep w L D wr) (hb : Below wr.heap.size wr W) : Sep w L D W := by
  obtain ⟨Fs, h1, h2, h3, h4⟩ := h
  exact ⟨Fs, fun i T hi => T.kept (h1 i T hi) (fun b hb' => hb.block b (h3 i b hb').2.1) (fun _ x => x) (fun b hb' => Nat.lt_of_lt_of_le (h3 i b hb').2.1 hb.size), h2, fun i b hb' => ⟨(h3 i b hb').1, Nat.lt_of_lt_of_le (h3 i b hb').2.1 hb.size, (h3 i b hb').2.2⟩, h4.trans (hb.mono h4.size)⟩
theorem Sep.reset {w wr : World} {L : List Thing} {D : Nat → Nat} (h : Sep w L D wr) : Sep w L (fun _ => wr.heap.size) wr := by
  obtain ⟨Fs, h1, h2, h3, h4⟩ := h
  exact ⟨Fs, h1, h2, fun i b hb => ⟨(h3 i b hb).1, (h3 i b hb).2.1, (h3 i b hb).2.1⟩, h4⟩
/-- a call of the i-th thing, in a frame whose own blocks lie between wr and W -/
theorem Sep.call {w wr W : World} {L : List Thing} {D : Nat → Nat} (h : Sep w L D wr) (hb : Below wr.heap.size wr W) {i : Nat} {T : Thing} (hi : L[i]? = some T) :
    ∃ F, T.P W F ∧ (∀ b, F b → w.heap.size ≤ b ∧ b < wr.heap.size ∧ b < D i) ∧ Below w.heap.size w W ∧
      ∀ (T' : Thing) (w' : World), T'.P w' (Up F W w') → Chg F W w' → ∀ W5, Chg (fun b => wr.heap.size ≤ b ∧ b < W.heap.size) w' W5 → Sep w (L.set i T') (updN D i w'.heap.size) W5 := by
  have hW := h.below hb
  obtain ⟨Fs, h1, h2, h3, h4⟩ := h
  refine ⟨Fs i, T.kept (h1 i T hi) (fun b hb' => hb.block b (h3 i b hb').2.1) (fun _ x => x) (fun b hb' => Nat.lt_of_lt_of_le (h3 i b hb').2.1 hb.size), h3 i, hW.old, fun T' w' hT hc W5 c => ?_⟩
  have l1 := hb.size
  have l2 := hc.size
  have l3 := c.size
  have l4 := h4.size
  refine ⟨fun j => if j = i then Up (Fs i) W w' else Fs j, fun j U hj => ?_, fun j k b hjk hx hy => ?_, fun j b hx => ?_, hW.old.trans ((hc.below hW.old.size (fun k hk => (h3 i k hk).1)).trans (c.below (by omega) (fun k hk => by omega)))⟩
  · by_cases e : j = i
    · subst e
      rw [List.getElem?_set_self (List.getElem?_eq_some_iff.1 hi).1] at hj
      injection hj with hj
      subst hj
      simp only [if_true]
      refine T'.kept hT (fun b hx => c.block b (T'.lt hT b hx) fun e => ?_) (fun _ x => x) (fun b hx => Nat.lt_of_lt_of_le (T'.lt hT b hx) l3)
      rcases hx with hx | hx
      · have := (h3 j b hx).2.1; omega
      · omega
    · rw [List.getElem?_set_ne (fun x => e x.symm)] at hj
      simp only [if_neg e]
      refine U.kept (h1 j U hj) (fun b hx => ?_) (fun _ x => x) (fun b hx => by have := (h3 j b hx).2.1; omega)
      have hbl := (h3 j b hx).2.1
      rw [c.block b (by omega) (fun e2 => by omega), hc.block b (by omega) (fun hF => h2 j i b e hx hF), hb.block b hbl]
  · by_cases e : j = i
    · by_cases e2 : k = i
      · exact hjk (e.trans e2.symm)
      · simp only [if_pos e, if_neg e2] at hx hy
        rcases hx with hx | hx
        · exact h2 i k b (fun x => e2 x.symm) hx hy
        · have := (h3 k b hy).2.1; omega
    · by_cases e2 : k = i
      · simp only [if_neg e, if_pos e2] at hx hy
        rcases hy with hy | hy
        · exact h2 j i b e hx hy
        · have := (h3 j b hx).2.1; omega
      · simp only [if_neg e, if_neg e2] at hx hy
        exact h2 j k b hjk hx hy
  · by_cases e : j = i
    · simp only [if_pos e] at hx
      subst e
      rw [updN_same]
      rcases hx with hx | hx
      · have := h3 j b hx; exact ⟨this.1, by omega, by omega⟩
      · exact ⟨by omega, by omega, hx.2⟩
    · simp only [if_neg e] at hx
      rw [updN_ne _ _ e]
      have := h3 j b hx
      exact ⟨this.1, by omega, this.2.2⟩
/-- a new thing -/
theorem Sep.add {w wr w' : World} {L : List Thing} {D : Nat → Nat} (h : Sep w L D wr) {T : Thing} {G : Nat → Prop} (hT : T.P w' G) (hG : ∀ b, G b → wr.heap.size ≤ b) (hb : Below wr.heap.size wr w') : Sep w (L ++ [T]) (fun _ => w'.heap.size) w' := by
  have hW := h.below hb
  obtain ⟨Fs, h1, h2, h3, h4⟩ := h
  have l1 := hb.size
  have l4 := h4.size
  refine ⟨fun j => if j = L.length then G else Fs j, fun j U hj => ?_, fun j k b hjk hx hy => ?_, fun j b hx => ?_, hW.old⟩
  · by_cases e : j = L.length
    · subst e
      simp at hj
      subst hj
      simp only [if_true]
      exact hT
    · have hl : j < L.length := by have := (List.getElem?_eq_some_iff.1 hj).1; simp at this; omega
      rw [List.getElem?_append_left hl] at hj
      simp only [if_neg e]
      exact U.kept (h1 j U hj) (fun b hx => hb.block b (h3 j b hx).2.1) (fun _ x => x) (fun b hx => by have := (h3 j b hx).2.1; omega)
  · by_cases e : j = L.length
    · by_cases e2 : k = L.length
      · exact hjk (e.trans e2.symm)
      · simp only [if_pos e, if_neg e2] at hx hy
        have := hG b hx; have := (h3 k b hy).2.1; omega
    · by_cases e2 : k = L.length
      · simp only [if_neg e, if_pos e2] at hx hy
        have := hG b hy; have := (h3 j b hx).2.1; omega
      · simp only [if_neg e, if_neg e2] at hx hy
        exact h2 j k b hjk hx hy
  · by_cases e : j = L.length
    · simp only [if_pos e] at hx
      have := T.lt hT b hx
      have := hG b hx
      exact ⟨by omega, by omega, by show b < w'.heap.size; omega⟩
    · simp only [if_neg e] at hx
      have := h3 j b hx
      exact ⟨this.1, by omega, by show b < w'.heap.size; omega⟩
theorem sep_new {w wr : World} {L : List Thing} {D : Nat → Nat} (h : Sep w L D wr) (c : Int) (h1 : -9223372036854775808 ≤ c) (h2 : c ≤ 9223372036854775807) :
    Calls Tryd.prog 6 #[.int .i64 c] wr fun e w' => e = .returned (.pointer (some ⟨wr.heap.size, 0, none⟩)) ∧ Sep w (L ++ [stoT wr.heap.size (newS c)]) (fun _ => w'.heap.size) w' := by
  refine (new_any c wr h1 h2).mono ?_
  rintro e w' ⟨rfl, h3, h4, h5⟩
  exact ⟨rfl, h.add (T := stoT wr.heap.size (newS c)) h3 (fun b hb => by rw [hb]; exact Nat.le_refl _) h4⟩
theorem sep_dnew {w wr : World} {L : List Thing} {D : Nat → Nat} (h : Sep w L D wr) (c : Int) (h1 : -9223372036854775808 ≤ c) (h2 : c ≤ 9223372036854775807) :
    Calls Tryd.prog 7 #[.int .i64 c] wr fun e w' => e = .returned (.pointer (some ⟨wr.heap.size, 0, none⟩)) ∧ Sep w (L ++ [docT wr.heap.size (newS c)]) (fun _ => w'.heap.size) w' := by
  refine (dnew_any c wr h1 h2).mono ?_
  rintro e w' ⟨rfl, h3, h4, h5⟩
  exact ⟨rfl, h.add (T := docT wr.heap.size (newS c)) ⟨_, _, h3⟩ (fun b hb => by rw [hb]; exact Nat.le_refl _) h4⟩
/-- a call of a script by the program's store -/
theorem sep_play {w wr W : World} {E : Nat → Addr} {L : List Thing} {D : Nat → Nat} {i sb : Nat} {m : Sto} {p : Op5 × Value} (V : Env w E w.heap.size) (h : Sep w L D wr) (hb : Below wr.heap.size wr W) (hi : L[i]? = some (stoT sb m)) (hin : OpIn w p) :
    Calls Tryd.prog 9 #[.pointer (some ⟨sb, 0, none⟩), opV p.1 p.2] W fun e w' => ∃ lv, e = .returned (ansV (ply m p.1).1 lv) ∧ (∀ W5, Chg (fun b => wr.heap.size ≤ b ∧ b < W.heap.size) w' W5 → Sep w (L.set i (stoT sb (ply m p.1).2)) (updN D i w'.heap.size) W5) ∧ IntsN W.heap.size w' lv (ply m p.1).1.l ∧ W.heap.size ≤ w'.heap.size ∧ ∀ b, D i ≤ b → b < W.heap.size → w'.heap[b]? = W.heap[b]? := by
  obtain ⟨F, h1, h2, h3, h4⟩ := h.call hb hi
  refine (plays_any h1 (V.below h3) (fun b hF => (h2 b hF).1) h3.size hin.ok (hin.st.below h3)).mono ?_
  rintro e w' ⟨lv, rfl, r, k⟩
  exact ⟨lv, rfl, fun W5 c => h4 (stoT sb (ply m p.1).2) w' r.1 r.2 W5 c, k, r.2.size, fun b h8 h9 => r.2.block b h9 fun hF => by have := (h2 b hF).2.2; omega⟩
theorem parts_of {w W : World} {p : Op5 × Value} {F : Nat → Prop} (hin : OpIn w p) (hb : Below w.heap.size w W) (hF : ∀ b, F b → w.heap.size ≤ b) : Parts W p.2 p.1.L F := by
  obtain ⟨ao, cap, e, hl, h2⟩ := hin.st
  refine ⟨ao, cap, e, by omega, fun h0 => ?_⟩
  obtain ⟨g, off, e1, hg, hc⟩ := h2 h0
  exact ⟨g, off, e1, Nat.lt_of_lt_of_le hg hb.size, fun hf => by have := hF g hf; omega, fun j x hx => (hb.cell (p := ⟨g, off + j, none⟩) hg).trans (hc j x hx)⟩
/-- a call of a script by the document's store -/
theorem sep_says {w wr W : World} {L : List Thing} {D : Nat → Nat} {i sb : Nat} {m : Sto} {p : Op5 × Value} (h : Sep w L D wr) (hb : Below wr.heap.size wr W) (hi : L[i]? = some (docT sb m)) (hin : OpIn w p) :
    Calls Tryd.prog 11 #[.pointer (some ⟨sb, 0, none⟩), opV p.1 p.2] W fun e w' => ∃ lv, e = .returned (ansV (ply m p.1).1 lv) ∧ (∀ W5, Chg (fun b => wr.heap.size ≤ b ∧ b < W.heap.size) w' W5 → Sep w (L.set i (docT sb (ply m p.1).2)) (updN D i w'.heap.size) W5) ∧ IntsN W.heap.size w' lv (ply m p.1).1.l ∧ W.heap.size ≤ w'.heap.size ∧ ∀ b, D i ≤ b → b < W.heap.size → w'.heap[b]? = W.heap[b]? := by
  obtain ⟨F, h1, h2, h3, h4⟩ := h.call hb hi
  refine (says_any h1 hin.ok (parts_of hin h3 fun b hF => (h2 b hF).1)).mono ?_
  rintro e w' ⟨lv, rfl, r, k⟩
  exact ⟨lv, rfl, fun W5 c => h4 (docT sb (ply m p.1).2) w' r.1 r.2 W5 c, k, r.2.size, fun b h8 h9 => r.2.block b h9 fun hF => by have := (h2 b hF).2.2; omega⟩
theorem sep_wakes {w wr : World} {E : Nat → Addr} {L : List Thing} {D : Nat → Nat} (V : Env w E w.heap.size) (h : Sep w L D wr) :
    Calls Tryd.prog 8 #[] wr fun e w' => e = .returned (.bool true) ∧ Sep w L (fun _ => w'.heap.size) w' := by
  refine (wakes_any wr (V.below h.old).g).mono ?_
  rintro e w' ⟨rfl, hb⟩
  exact ⟨rfl, (h.below hb).reset⟩
end Rs
end Go.Proofs.YtdlmpogmoepkjaaDoor
