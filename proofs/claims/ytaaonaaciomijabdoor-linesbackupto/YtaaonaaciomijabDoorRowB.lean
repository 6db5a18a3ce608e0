/- What it is that a list of rows lies in memory, and that it stays so; no walk. -/
import Derived.Test.YtaaonaaciomijabDoorSame
import Derived.Test.YtaaonaaciomijabDoorRowM
import Derived.RangeFuncBox
namespace Go.Proofs.YtaaonaaciomijabDoor
open Go.RowKit
namespace RowB
open FldW

/-- v is a list of texts in a block of its own, from block n₀ on. -/
def StrRow (n₀ : Nat) (W : World) (v : Value) (L : List ByteArray) : Prop :=
  ∃ g cap cur, v = .slice (some ⟨g, 0, none⟩) L.length cap ∧ n₀ ≤ g ∧ W.heap[g]? = some (.cells cur 9 (0, 0)) ∧ L.length ≤ cap ∧ cap ≤ maxLen ∧ cap ≤ cur.size ∧ cur.toList.take L.length = L.map Value.string
def Keep9 (W W' : World) : Prop := ∀ (g : Nat) (cur : Array Value), W.heap[g]? = some (.cells cur 9 (0, 0)) → W'.heap[g]? = some (.cells cur 9 (0, 0))
theorem StrRow.kept {n₀ : Nat} {W W' : World} {v : Value} {L : List ByteArray} (h : StrRow n₀ W v L) (k : Keep9 W W') : StrRow n₀ W' v L := by
  obtain ⟨g, cap, cur, e, hg, hh, r⟩ := h
  exact ⟨g, cap, cur, e, hg, k g cur hh, r⟩
theorem StrRow.mono {n₀ n₁ : Nat} {W : World} {v : Value} {L : List ByteArray} (h : StrRow n₀ W v L) (k : n₁ ≤ n₀) : StrRow n₁ W v L := by
  obtain ⟨g, cap, cur, e, hg, r⟩ := h
  exact ⟨g, cap, cur, e, Nat.le_trans k hg, r⟩
theorem Keep9.refl (W : World) : Keep9 W W := fun _ _ h => h
theorem Keep9.trans {A B C : World} (h : Keep9 A B) (k : Keep9 B C) : Keep9 A C := fun g cur x => k g cur (h g cur x)
theorem Keep9.below {W W' : World} (h : Below W.heap.size W W') : Keep9 W W' := fun g _ x => (h.block g (Array.getElem?_eq_some_iff.1 x).1).trans x
theorem Keep9.alloc (W : World) (o : Obj) : Keep9 W (W.alloc o) := Keep9.below ((Below.refl _ _).alloc (Nat.le_refl _) _)
theorem Keep9.drewN (W : World) (n : Nat) : Keep9 W (W.drewN n) := fun _ _ h => h
theorem Keep9.grown {W W' : World} {row : Option Nat} (hg : W.grownBy W' row) (hr : ∀ r, row = some r → ∀ cur, W.heap[r]? ≠ some (.cells cur 9 (0, 0))) : Keep9 W W' := fun g cur x =>
  (hg.block g (Array.getElem?_eq_some_iff.1 x).1 (fun e => hr g e.symm cur x)).trans x
theorem Keep9.grown_own {W W' : World} {n₀ : Nat} {e : TypeId} {z : Nat} {v : Value} {n : Nat} {xs : List Value} (h : W.ownsRow n₀ e z v n xs) (he : e ≠ 9) (hg : W.grownBy W' v.ownBlock) : Keep9 W W' := by
  refine Keep9.grown hg ?_
  intro r hr cur hx
  obtain ⟨_, ⟨rfl, _⟩ | ⟨g, cap, c, rfl, _, hh, _⟩⟩ := h
  · cases hr
  · obtain rfl : g = r := by simpa [Value.ownBlock] using hr
    rw [hh] at hx
    have := Option.some.inj hx
    injection this with _ h2 _
    exact he h2
theorem Keep9.box {W : World} {B : Nat} {t : TypeId} {v : Value} (h : Boxed W B t v) (ht : t ≠ 9) (u : Value) : Keep9 W (W.setCell ⟨B, 0, none⟩ u) := by
  refine Keep9.grown (grownBy_setCell' W B u) ?_
  intro r hr cur hx
  obtain rfl : B = r := by simpa using hr
  rw [show W.heap[B]? = _ from h] at hx
  have := Option.some.inj hx
  injection this with _ h2 _
  exact ht h2
theorem strRow_of_owns {W : World} {n₀ : Nat} {v : Value} {L : List (List UInt8)} (h : W.ownsRow n₀ 9 1 v L.length (vals L)) (h0 : L ≠ []) : StrRow n₀ W v (L.map Fld.str) := by
  obtain ⟨hl, ⟨rfl, h1⟩ | ⟨g, cap, cur, rfl, hg, hh, hc1, hm, hsz, htk⟩⟩ := h
  · exact absurd (List.eq_nil_of_length_eq_zero h1) h0
  · refine ⟨g, cap, cur, by simp, hg, hh, by simpa using hc1, hm, by omega, ?_⟩
    rw [List.length_map, List.map_map]
    rw [Nat.mul_one] at htk
    exact htk
theorem isStrs_of_row {W : World} {n₀ : Nat} {v : Value} {L : List ByteArray} (h : StrRow n₀ W v L) : Same.IsStrs W v L := by
  obtain ⟨g, cap, cur, rfl, hg, hh, hc, hm, hz, ht⟩ := h
  refine ⟨_, cap, rfl, by omega, .inr ⟨g, 0, rfl, fun j x hj => ?_⟩⟩
  have h1 : (cur.toList.take L.length)[j]? = some (.string x) := by rw [ht]; simp [hj]
  have hjl : j < L.length := (List.getElem?_eq_some_iff.1 hj).1
  rw [List.getElem?_take, if_pos hjl] at h1
  simp only [World.cell?, hh, Nat.zero_add]
  simpa using h1

def Fits (n₀ : Nat) (W : World) : List (Nat × Value) → List (Nat × List (List UInt8)) → Prop
  | [], [] => True
  | e :: E, r :: R => (e.1 = r.1 ∧ StrRow n₀ W e.2 (r.2.map Fld.str)) ∧ Fits n₀ W E R
  | _, _ => False
theorem Fits.kept {n₀ : Nat} {W W' : World} (k : Keep9 W W') : ∀ {E : List (Nat × Value)} {R : List (Nat × List (List UInt8))}, Fits n₀ W E R → Fits n₀ W' E R
  | [], [], _ => trivial
  | _ :: _, _ :: _, ⟨⟨h1, h2⟩, h3⟩ => ⟨⟨h1, h2.kept k⟩, Fits.kept k h3⟩
theorem Fits.snoc {n₀ : Nat} {W : World} {e : Nat × Value} {r : Nat × List (List UInt8)} (h1 : e.1 = r.1) (h2 : StrRow n₀ W e.2 (r.2.map Fld.str)) : ∀ {E : List (Nat × Value)} {R : List (Nat × List (List UInt8))}, Fits n₀ W E R → Fits n₀ W (E ++ [e]) (R ++ [r])
  | [], [], _ => ⟨⟨h1, h2⟩, trivial⟩
  | _ :: _, _ :: _, ⟨h3, h4⟩ => ⟨h3, Fits.snoc h1 h2 h4⟩
theorem Fits.length {n₀ : Nat} {W : World} : ∀ {E : List (Nat × Value)} {R : List (Nat × List (List UInt8))}, Fits n₀ W E R → E.length = R.length
  | [], [], _ => rfl
  | _ :: _, _ :: _, ⟨_, h4⟩ => by simp [Fits.length h4]
theorem Fits.get {n₀ : Nat} {W : World} : ∀ {E : List (Nat × Value)} {R : List (Nat × List (List UInt8))}, Fits n₀ W E R → ∀ (j : Nat) e, E[j]? = some e → ∃ r, R[j]? = some r ∧ e.1 = r.1 ∧ StrRow n₀ W e.2 (r.2.map Fld.str)
  | [], [], _, j, e, h => by simp at h
  | _ :: _, r :: _, ⟨h3, h4⟩, j, e, h => by
    cases j with
    | zero => simp at h; subst h; exact ⟨r, by simp, h3⟩
    | succ j => simpa using Fits.get h4 j e (by simpa using h)
theorem Fits.blocks {n₀ : Nat} {W : World} {E : List (Nat × Value)} {R : List (Nat × List (List UInt8))} (h : Fits n₀ W E R) : ∀ b ∈ E.map (fun e => e.2.ownBlock), ∃ g, b = some g ∧ n₀ ≤ g ∧ g < W.heap.size := by
  intro b hb
  obtain ⟨e, he, rfl⟩ := List.mem_map.1 hb
  obtain ⟨j, hj, hje⟩ := List.getElem_of_mem he
  obtain ⟨r, _, _, g, cap, cur, e2, hg, hh, _⟩ := h.get j e (by rw [List.getElem?_eq_getElem hj, hje])
  rw [e2]
  exact ⟨g, rfl, hg, (Array.getElem?_eq_some_iff.1 hh).1⟩
theorem Fits.low {n₀ n₁ : Nat} {W : World} (k : n₁ ≤ n₀) : ∀ {E : List (Nat × Value)} {R : List (Nat × List (List UInt8))}, Fits n₀ W E R → Fits n₁ W E R
  | [], [], _ => trivial
  | _ :: _, _ :: _, ⟨⟨h1, h2⟩, h3⟩ => ⟨⟨h1, h2.mono k⟩, Fits.low k h3⟩
theorem owns_low {w : World} {n₀ n₁ : Nat} {e : TypeId} {size : Nat} {v : Value} {n : Nat} {xs : List Value} (h : w.ownsRow n₀ e size v n xs) (k : n₁ ≤ n₀) : w.ownsRow n₁ e size v n xs := by
  obtain ⟨hl, h | ⟨g, cap, cur, rfl, hg, r⟩⟩ := h
  · exact ⟨hl, .inl h⟩
  · exact ⟨hl, .inr ⟨g, cap, cur, rfl, Nat.le_trans k hg, r⟩⟩
def cellsE (E : List (Nat × Value)) : List Value := E.flatMap fun p => [.int .i64 (p.1 : Int), p.2]
theorem cellsE_snoc (E : List (Nat × Value)) (e : Nat × Value) : cellsE (E ++ [e]) = cellsE E ++ [.int .i64 (e.1 : Int), e.2] := by simp [cellsE]
theorem cellsE_length (E : List (Nat × Value)) : (cellsE E).length = E.length * 2 := by
  induction E with
  | nil => rfl
  | cons e E ih => simp [cellsE] at ih ⊢; omega
theorem cellsE_get (E : List (Nat × Value)) : ∀ (j : Nat) e, E[j]? = some e → (cellsE E)[2 * j]? = some (.int .i64 (e.1 : Int)) ∧ (cellsE E)[2 * j + 1]? = some e.2 := by
  induction E with
  | nil => intro j e h; simp at h
  | cons x E ih =>
    intro j e h
    have ec : cellsE (x :: E) = .int .i64 (x.1 : Int) :: x.2 :: cellsE E := rfl
    rw [ec]
    cases j with
    | zero => simp at h; subst h; exact ⟨rfl, rfl⟩
    | succ j =>
      have := ih j e (by simpa using h)
      rw [show 2 * (j + 1) = 2 * j + 1 + 1 from by omega]
      simpa using this

/-- the program's own rows have no room behind their fields -/
def Exact (eR : TypeId) (E : List (Nat × Value)) : Prop := eR = 53 → ∀ e ∈ E, ∃ g n, e.2 = .slice (some ⟨g, 0, none⟩) n n
theorem Exact.nil (eR : TypeId) : Exact eR [] := fun _ e h => by cases h
theorem Exact.snoc {eR : TypeId} {E : List (Nat × Value)} {e : Nat × Value} (h : Exact eR E) (k : eR = 53 → ∃ g n, e.2 = .slice (some ⟨g, 0, none⟩) n n) : Exact eR (E ++ [e]) := fun he x hx => by
  rcases List.mem_append.1 hx with hx | hx
  · exact h he x hx
  · simp at hx; subst hx; exact k he
/-- v is a list of the rows R, each with a list of its own. -/
def RowsAre (n₀ : Nat) (eR : TypeId) (W : World) (v : Value) (R : List (Nat × List (List UInt8))) : Prop :=
  ∃ E : List (Nat × Value), Fits n₀ W E R ∧ W.ownsRow n₀ eR 2 v E.length (cellsE E) ∧ (E.map fun e => e.2.ownBlock).Nodup ∧ Exact eR E
theorem RowsAre.below {n₀ : Nat} {eR : TypeId} {W W' : World} {v : Value} {R : List (Nat × List (List UInt8))} (h : RowsAre n₀ eR W v R) (hB : Below W.heap.size W W') : RowsAre n₀ eR W' v R := by
  obtain ⟨E, h1, h2, h3⟩ := h
  exact ⟨E, h1.kept (Keep9.below hB), Same.owns_below h2 hB, h3⟩
theorem nodup_snoc {α : Type} {l : List α} {a : α} (h : l.Nodup) (ha : a ∉ l) : (l ++ [a]).Nodup := by
  rw [List.nodup_append]
  exact ⟨h, by simp, fun x hx y hy e => by simp at hy; subst hy; subst e; exact ha hx⟩
end RowB
end Go.Proofs.YtaaonaaciomijabDoor
