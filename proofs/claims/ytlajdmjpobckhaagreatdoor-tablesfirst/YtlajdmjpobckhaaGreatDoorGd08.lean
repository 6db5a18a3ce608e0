/- Contracts: the document's own Value and One: the flag that a text writes; nothing in memory turns. -/
import Derived.Test.YtlajdmjpobckhaaGreatDoorGd06
import Derived.Test.YtlajdmjpobckhaaGreatDoorGd07
import Derived.Lib.SliceRun
import Derived.Deep.LoopGhost
import Derived.Shelf.SlicesE.Equal
import Derived.Shelf.SlicesE.Compact
import Derived.Test.YtlajdmjpobckhaaGreatDoorProg
namespace Go.Proofs.YtlajdmjpobckhaaGreatDoor
open Go.RowKit
namespace One

end One
end Go.Proofs.YtlajdmjpobckhaaGreatDoor
/- Contract: the document's Has. -/
namespace Go.Proofs.YtlajdmjpobckhaaGreatDoor
open Go.Sort Go.RowKit
namespace So

theorem hasB_take {l : List Int} {x y : Int} {k : Nat} (hy : l[k]? = some y) (h : x ≠ y) (hn : ∀ z ∈ l.take k, x ≠ z) : ∀ z ∈ l.take (k + 1), x ≠ z := fun z hz => by
  rw [take_snoc hy] at hz
  rcases List.mem_append.1 hz with h1 | h1
  · exact hn z h1
  · simp at h1; subst h1; exact h
end So
end Go.Proofs.YtlajdmjpobckhaaGreatDoor
/- Contracts: slices.IndexFunc and slices.DeleteFunc with a set's own question, and Without of a set of flags. -/
namespace Go.Proofs.YtlajdmjpobckhaaGreatDoor
open Go.Sort Go.RowKit
namespace So

/-- what is kept -/
def kept (F : List Int) (S : List Int) : List Int := S.filter fun x => !hasB F x
theorem kept_snoc {F S : List Int} {k : Nat} {x : Int} (hx : S[k]? = some x) : kept F (S.take (k + 1)) = kept F (S.take k) ++ (if hasB F x then [] else [x]) := by
  have hk : k < S.length := (List.getElem?_eq_some_iff.1 hx).1
  rw [List.take_succ_eq_append_getElem hk, (List.getElem?_eq_some_iff.1 hx).2]
  unfold kept
  rw [List.filter_append]
  cases h : hasB F x
  · simp [h]
  · simp [h]
/-- the row under way: what is kept of the first j stands in front, the rest is as it was -/
structure Del (F S : List Int) (i j : Nat) (dk : Array Int) : Prop where
  size : dk.size = S.length
  len : (kept F (S.take j)).length = i
  front : dk.toList.take i = kept F (S.take j)
  rest : ∀ t, j ≤ t → dk[t]! = S[t]!
  ij : i < j
theorem Del.skip {F S : List Int} {i j : Nat} {dk : Array Int} (h : Del F S i j dk) {x : Int} (hx : S[j]? = some x) (hb : hasB F x = true) : Del F S i (j + 1) dk := by
  have e := kept_snoc (F := F) hx
  rw [hb] at e
  simp at e
  exact ⟨h.size, by rw [e]; exact h.len, by rw [e]; exact h.front, fun t ht => h.rest t (by omega), by have := h.ij; omega⟩
theorem Del.keep {F S : List Int} {i j : Nat} {dk : Array Int} (h : Del F S i j dk) {x : Int} (hx : S[j]? = some x) (hb : hasB F x = false) : Del F S (i + 1) (j + 1) (dk.setIfInBounds i x) := by
  have e := kept_snoc (F := F) hx
  rw [hb] at e
  simp at e
  have hj : j < S.length := (List.getElem?_eq_some_iff.1 hx).1
  have hij := h.ij
  have hs := h.size
  refine ⟨by simpa using hs, by rw [e]; simp [h.len], ?_, fun t ht => ?_, by omega⟩
  · rw [e, ← h.front]
    have hi : i < dk.size := by omega
    rw [List.take_succ_eq_append_getElem (by simpa using hi)]
    congr 1
    · simp [List.take_set_of_le]
    · simp
  · rw [getElem!_set_other dk i t x (by omega)]
    exact h.rest t (by omega)
theorem at_set {w wr : World} {g i : Nat} {dk d : Array Int} (h : At encF w g 0 dk wr) (hH : Holds encF w g 0 d) (hs : dk.size = d.size) (hb : g < w.heap.size) (hi : i < dk.size) (x : Int) : At encF w g 0 (dk.setIfInBounds i x) (wr.setCell ⟨g, i, none⟩ (encF x)) := by
  have hh := (h.holds hH hs hb).1
  refine h.step hb (by simp) ⟨0, ?_⟩
  rw [ahead_zero]
  have := putRow_set encF wr g 0 dk i x hi
  rw [putRow_self encF wr g 0 dk hh, Nat.zero_add] at this
  exact this
theorem size_lay : ∀ (xs : List Int) (d : Array Int) (k : Nat), (Lib.lay d k xs).size = d.size
  | [], _, _ => rfl
  | x :: r, d, k => by rw [Lib.lay, size_lay r]; simp
theorem at_lay {w wr : World} {g i : Nat} {dk d : Array Int} (h : At encF w g 0 dk wr) (hH : Holds encF w g 0 d) (hs : dk.size = d.size) (hb : g < w.heap.size) (xs : List Int) (hi : i + xs.length ≤ dk.size) : At encF w g 0 (Lib.lay dk i xs) (wr.setCells g i (xs.map encF)) := by
  have hh := (h.holds hH hs hb).1
  refine h.step hb (size_lay xs dk i) ⟨0, ?_⟩
  rw [ahead_zero]
  have := Lib.putRow_setCells encF wr g 0 xs dk i hi
  rw [putRow_self encF wr g 0 dk hh, Nat.zero_add] at this
  exact this
theorem lay_front {dk : Array Int} {i : Nat} (xs : List Int) (h : i + xs.length ≤ dk.size) : (Lib.lay dk i xs).toList.take i = dk.toList.take i := by
  apply List.ext_getElem?
  intro t
  rw [List.getElem?_take, List.getElem?_take]
  by_cases ht : t < i
  · rw [if_pos ht, if_pos ht]
    have := Lib.lay_get? xs dk i t h
    rw [if_neg (by omega)] at this
    simpa using this
  · rw [if_neg ht, if_neg ht]

end So
end Go.Proofs.YtlajdmjpobckhaaGreatDoor
/- Contracts: the document's With, Without and Equal. -/
namespace Go.Proofs.YtlajdmjpobckhaaGreatDoor
open Go.Sort Go.RowKit
namespace So

theorem set_bounds {L : List Int} {P : Int → Prop} (h : ∀ x ∈ L, P x) : ∀ x ∈ setOf L, P x := fun x hx => h x (mem_setOf.1 hx)
theorem kept_snoc2 {F Z : List Int} {k : Nat} {x : Int} (hx : Z[k]? = some x) : kept F (Z.take (k + 1)) = if hasB F x then kept F (Z.take k) else kept F (Z.take k) ++ [x] := by
  rw [take_snoc hx]
  unfold kept
  rw [List.filter_append]
  cases h : hasB F x
  · simp [h]
  · simp [h]
theorem kept_take (F Z : List Int) (k : Nat) : (kept F (Z.take k)).length ≤ k := by
  refine Nat.le_trans (List.length_filter_le _ _) ?_
  simp
  omega
theorem eq_snoc {Z Y : List Int} {k : Nat} {x y : Int} (hx : Z[k]? = some x) (hy : Y[k]? = some y) (h : Z.take k = Y.take k) (e : x = y) : Z.take (k + 1) = Y.take (k + 1) := by rw [take_snoc hx, take_snoc hy, h, e]
end So
end Go.Proofs.YtlajdmjpobckhaaGreatDoor
/- Contract of slices.Equal at flags, of the shelf, laid at this program: no walk of ours. -/
namespace Go.Proofs
open Go.Shelf
end Go.Proofs
/- Contract: Equal of two sets of flags. -/
namespace Go.Proofs.YtlajdmjpobckhaaGreatDoor
open Go.Sort Go.RowKit
namespace So

theorem allEq_dec : ∀ (xs ys : List Int), Lib.allEq (fun x y => decide (x = y)) xs ys = decide (xs = ys)
  | [], [] => rfl
  | [], _ :: _ => rfl
  | _ :: _, [] => rfl
  | x :: xs, y :: ys => by
    have ih := allEq_dec xs ys
    show (decide (x = y) && Lib.allEq (fun x y => decide (x = y)) xs ys) = _
    rw [ih]
    by_cases h1 : x = y
    · by_cases h2 : xs = ys
      · simp [h1, h2]
      · simp [h1, h2]
    · simp [h1]
theorem drew_below (W : World) (q n : Nat) : Go.RowKit.Below n W (W.drewN q) := ⟨rfl, rfl, rfl, Nat.le_refl _, fun _ _ => rfl⟩
theorem holds_list {W : World} {g : Nat} {l : List Int} (h : Holds encF W g 0 l.toArray) : ∀ j, j < l.length → W.cell? ⟨g, 0 + j, none⟩ = some (.int .u16 l[j]!) := fun j hj => by
  have := (h j (by simpa using hj)).1
  rw [this]
  congr 2
  rw [getElem!_pos l.toArray j (by simpa using hj), getElem!_pos l j hj]
  simp
end So
end Go.Proofs.YtlajdmjpobckhaaGreatDoor
