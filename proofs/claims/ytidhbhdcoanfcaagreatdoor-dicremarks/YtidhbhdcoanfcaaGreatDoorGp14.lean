import Derived.Shelf.SlicesE.Index
import Derived.Test.YtidhbhdcoanfcaaGreatDoorGp13
import Derived.Laws.AppendOwnNone
namespace Go.Proofs
open Go.Shelf
end Go.Proofs
namespace Go.Proofs.YtidhbhdcoanfcaaGreatDoor
open Go.Sort Go.RowKit
namespace So

theorem FArg.cases {W : World} {v : Value} {l : List Int} (h : FArg W v l) : (v = .slice none 0 0 ∧ l = []) ∨ ∃ ad c, v = .slice (some ad) l.length c ∧ l.length ≤ c ∧ c ≤ maxLen ∧ ∀ W', Go.RowKit.Below W.heap.size W W' → ∀ j u, (l.map encF)[j]? = some u → W'.cell? (ad.add j) = some u := by
 obtain ⟨ao, cap, rfl, h1, h2, h3, h4⟩ := h
 cases ao with
 | none =>
  have hc := h3 rfl
  have : l = [] := List.eq_nil_of_length_eq_zero (by omega)
  subst this
  left
  exact ⟨by simp [hc], rfl⟩
 | some ad =>
  right
  refine ⟨ad, cap, rfl, h1, h2, fun W' hB j u hu => ?_⟩
  simp only [List.getElem?_map, Option.map_eq_some_iff] at hu
  obtain ⟨x, hx, rfl⟩ := hu
  have hj : j < l.length := (List.getElem?_eq_some_iff.1 hx).1
  obtain ⟨g, off, e, hg, hc⟩ := h4 (by omega)
  cases e
  rw [Go.WideShapes.add_plain]
  exact (hB.cell (p := ⟨g, off + j, none⟩) hg).trans (hc j x hx)

def hasB (l : List Int) (x : Int) : Bool := l.any fun y => decide (x = y)

def encI (x : Int) : Value := .int .i64 x
def IRow (n₀ : Nat) (W : World) (v : Value) (l : List Int) : Prop := W.ownsRow n₀ 3 1 v l.length (l.map encI)
theorem infoI : (Tryz.prog.info? 3).map (fun i => (i.zero, i.size, i.bytes)) = some (some (.int .i64 0), 1, 8) := by kernel_rfl
theorem IRow.nil (n₀ : Nat) (W : World) : IRow n₀ W (.slice none 0 0) [] := ⟨rfl, .inl ⟨rfl, rfl⟩⟩
theorem IRow.low {n₀ n₁ : Nat} {W : World} {v : Value} {l : List Int} (h : IRow n₀ W v l) (k : n₁ ≤ n₀) : IRow n₁ W v l := by
 obtain ⟨h1, h2 | ⟨g, cap, cur, e, hg, r⟩⟩ := h
 ·exact ⟨h1, .inl h2⟩
 ·exact ⟨h1, .inr ⟨g, cap, cur, e, Nat.le_trans k hg, r⟩⟩
theorem IRow.below {n₀ : Nat} {W W' : World} {v : Value} {l : List Int} (h : IRow n₀ W v l) (hB : Go.RowKit.Below W.heap.size W W') : IRow n₀ W' v l := by
 obtain ⟨h1, h2 | ⟨g, cap, cur, e, hg, hh, r⟩⟩ := h
 ·exact ⟨h1, .inl h2⟩
 ·exact ⟨h1, .inr ⟨g, cap, cur, e, hg, by rw [hB.block g (Array.getElem?_eq_some_iff.1 hh).1]; exact hh, r⟩⟩
theorem IRow.form {n₀ : Nat} {W : World} {v : Value} {l : List Int} (h : IRow n₀ W v l) : ∃ ao cap, v = .slice ao l.length cap ∧ l.length ≤ maxLen ∧ ∀ (k : Nat) x, l[k]? = some x → ∃ g, ao = some ⟨g, 0, none⟩ ∧ g < W.heap.size ∧ W.cell? ⟨g, k, none⟩ = some (.int .i64 x) := by
 obtain ⟨_, ⟨rfl, h0⟩ | ⟨g, cap, cur, e, hg, hh, h1, h2, h3, h4⟩⟩ := h
 ·have : l = [] := List.eq_nil_of_length_eq_zero h0
  subst this
  exact ⟨none, 0, rfl, Nat.zero_le _, fun k x hx => by simp at hx⟩
 ·refine ⟨_, cap, e, by omega, fun k x hx => ⟨g, rfl, (Array.getElem?_eq_some_iff.1 hh).1, ?_⟩⟩
  have hk : k < l.length := (List.getElem?_eq_some_iff.1 hx).1
  rw [Nat.mul_one] at h4
  have hv : (cur.toList.take l.length)[k]? = some (encI x) := by rw [h4]; simp [hx]
  rw [List.getElem?_take, if_pos hk] at hv
  simp only [World.cell?, hh]
  simpa [encI] using hv
theorem irow_push {w wr w1 : World} {e : TypeId} {v : Value} {n : Nat} {xs : List Value} {o : Obj} (hown : wr.ownsRow w.heap.size e 1 v n xs) (hB : Go.RowKit.Below w.heap.size w wr) (hg : (wr.alloc o).grownBy w1 v.ownBlock) : Go.RowKit.Below w.heap.size w w1 :=
 (hB.alloc hB.size o).grown hg (by have := hB.size; simp; omega) (fun k e => (hown.lt k e).1)
theorem take_snoc {L : List Int} {k : Nat} {x : Int} (hx : L[k]? = some x) : L.take (k + 1) = L.take k ++ [x] := by
 have hk : k < L.length := (List.getElem?_eq_some_iff.1 hx).1
 rw [List.take_succ_eq_append_getElem hk, (List.getElem?_eq_some_iff.1 hx).2]




def kept (F : List Int) (S : List Int) : List Int := S.filter fun x => !hasB F x
theorem kept_snoc {F S : List Int} {k : Nat} {x : Int} (hx : S[k]? = some x) : kept F (S.take (k + 1)) = kept F (S.take k) ++ (if hasB F x then [] else [x]) := by
 have hk : k < S.length := (List.getElem?_eq_some_iff.1 hx).1
 rw [List.take_succ_eq_append_getElem hk, (List.getElem?_eq_some_iff.1 hx).2]
 unfold kept
 rw [List.filter_append]
 cases h : hasB F x
 ·simp [h]
 ·simp [h]
structure Del (F S : List Int) (i j : Nat) (dk : Array Int) : Prop where
 size : dk.size = S.length
 len : (kept F (S.take j)).length = i
 front : dk.toList.take i = kept F (S.take j)
 rest : ∀ t, j ≤ t → dk[t]! = S[t]!
 ij : i < j
theorem Del.skip {F S : List Int} {i j : Nat} {dk : Array Int} (h : Del F S i j dk) {x : Int} (hx : S[j]? = some x) (hb : hasB F x = true) : Del F S i (j + 1) dk := by
 have e := kept_snoc (F := F) hx
 rw [hb] at e
 simp at e
 exact ⟨h.size, by rw [e]; exact h.len, by rw [e]; exact h.front, fun t ht => h.rest t (by omega), by have := h.ij; omega⟩
theorem Del.keep {F S : List Int} {i j : Nat} {dk : Array Int} (h : Del F S i j dk) {x : Int} (hx : S[j]? = some x) (hb : hasB F x = false) : Del F S (i + 1) (j + 1) (dk.setIfInBounds i x) := by
 have e := kept_snoc (F := F) hx
 rw [hb] at e
 simp at e
 have hj : j < S.length := (List.getElem?_eq_some_iff.1 hx).1
 have hij := h.ij
 have hs := h.size
 refine ⟨by simpa using hs, by rw [e]; simp [h.len], ?_, fun t ht => ?_, by omega⟩
 ·rw [e, ← h.front]
  have hi : i < dk.size := by omega
  rw [List.take_succ_eq_append_getElem (by simpa using hi)]
  congr 1
  ·simp [List.take_set_of_le]
  ·simp
 ·rw [getElem!_set_other dk i t x (by omega)]
  exact h.rest t (by omega)

end So
end Go.Proofs.YtidhbhdcoanfcaaGreatDoor
