/- Contracts: the document's Of, With, Without and Equal. -/
import Derived.Test.YtlmahoogkogpdaaGreatDoorGf07
import Derived.Test.YtlmahoogkogpdaaGreatDoorGf08
import Derived.Lib.SliceRun
import Derived.Deep.LoopGhost
namespace Go.Proofs.YtlmahoogkogpdaaGreatDoor
open Go.Sort Go.RowKit
namespace So

/-- n is the least of l above last, or -1 -/
def Nx (last : Int) (l : List Int) (n : Int) : Prop := (n = -1 ∧ ∀ x ∈ l, ¬ last < x) ∨ (n ∈ l ∧ last < n ∧ 0 ≤ n ∧ ∀ x ∈ l, last < x → n ≤ x)
theorem nx_nil (last : Int) : Nx last [] (-1) := .inl ⟨rfl, fun x hx => by cases hx⟩
theorem nx_keep {last n x : Int} {l : List Int} (h : Nx last l n) (hx : ¬ last < x ∨ (¬ n < 0 ∧ ¬ x < n)) : Nx last (l ++ [x]) n := by
  rcases h with ⟨h1, h2⟩ | ⟨h1, h2, h3, h4⟩
  · refine .inl ⟨h1, fun y hy => ?_⟩
    rcases List.mem_append.1 hy with hy | hy
    · exact h2 y hy
    · simp at hy; subst hy
      rcases hx with hx | hx
      · exact hx
      · omega
  · refine .inr ⟨List.mem_append.2 (.inl h1), h2, h3, fun y hy hl => ?_⟩
    rcases List.mem_append.1 hy with hy | hy
    · exact h4 y hy hl
    · simp at hy; subst hy
      rcases hx with hx | hx
      · exact absurd hl hx
      · omega
theorem nx_take {last n x : Int} {l : List Int} (h : Nx last l n) (hx0 : 0 ≤ x) (hx : last < x) (hn : n < 0 ∨ x < n) : Nx last (l ++ [x]) x := by
  refine .inr ⟨by simp, hx, hx0, fun y hy hl => ?_⟩
  rcases List.mem_append.1 hy with hy | hy
  · rcases h with ⟨h1, h2⟩ | ⟨h1, h2, h3, h4⟩
    · exact absurd hl (h2 y hy)
    · have := h4 y hy hl; omega
  · simp at hy; omega
/-- last is what comes ahead of place j -/
def Last (Z : List Int) (j : Nat) (last : Int) : Prop := j ≤ Z.length ∧ (j = 0 → last = -1) ∧ (0 < j → Z[j - 1]? = some last)
theorem last_split {Z : List Int} (hZ : Z.Pairwise (· < ·)) (h0 : ∀ x ∈ Z, 0 ≤ x) {j : Nat} {last : Int} (h : Last Z j last) : ∀ (i : Nat) (x : Int), Z[i]? = some x → (last < x ↔ j ≤ i) := by
  intro i x hx
  obtain ⟨hj, h1, h2⟩ := h
  have hi : i < Z.length := (List.getElem?_eq_some_iff.1 hx).1
  have hix : Z[i] = x := (List.getElem?_eq_some_iff.1 hx).2
  by_cases hz : j = 0
  · have := h1 hz
    have := h0 x (List.mem_of_getElem? hx)
    omega
  · have hl := h2 (by omega)
    have hjl : j - 1 < Z.length := (List.getElem?_eq_some_iff.1 hl).1
    have hlx : Z[j - 1] = last := (List.getElem?_eq_some_iff.1 hl).2
    have hp := List.pairwise_iff_getElem.1 hZ
    constructor
    · intro hlt
      rcases Nat.lt_trichotomy i (j - 1) with h | h | h
      · have := hp i (j - 1) hi hjl h
        omega
      · subst h; omega
      · omega
    · intro hle
      have := hp (j - 1) i hjl hi (by omega)
      omega
theorem nx_end {L : List Int} {j : Nat} {last n : Int} (h0 : ∀ x ∈ L, 0 ≤ x) (hl : Last (setOf L) j last) (h : Nx last L n) : (n = -1 ∧ (setOf L).take j = setOf L) ∨ (0 ≤ n ∧ (setOf L)[j]? = some n ∧ Last (setOf L) (j + 1) n) := by
  have hZ := (setOf_set L).1
  have hs := last_split hZ (fun x hx => h0 x (mem_setOf.1 hx)) hl
  rcases h with ⟨h1, h2⟩ | ⟨h1, h2, h3, h4⟩
  · left
    refine ⟨h1, List.take_of_length_le ?_⟩
    rcases Nat.lt_or_ge j (setOf L).length with hlt | hge
    · have e := List.getElem?_eq_getElem hlt
      have := (hs j _ e).2 (Nat.le_refl _)
      exact absurd this (h2 _ (mem_setOf.1 (List.mem_of_getElem? e)))
    · exact hge
  · right
    obtain ⟨i, hi, hin⟩ := List.getElem_of_mem (mem_setOf.2 h1)
    have e : (setOf L)[i]? = some n := by rw [List.getElem?_eq_getElem hi, hin]
    have hji := (hs i n e).1 h2
    have hij : i = j := by
      rcases Nat.lt_or_ge j i with hlt | hge
      · have hjl : j < (setOf L).length := by omega
        have ej := List.getElem?_eq_getElem hjl
        have h5 := (hs j _ ej).2 (Nat.le_refl _)
        have h6 := h4 _ (mem_setOf.1 (List.mem_of_getElem? ej)) h5
        have h7 := List.pairwise_iff_getElem.1 hZ j i hjl hi hlt
        omega
      · omega
    subst hij
    exact ⟨h3, e, by omega, fun h => by omega, fun _ => by simpa using e⟩
theorem last_zero (Z : List Int) : Last Z 0 (-1) := ⟨Nat.zero_le _, fun _ => rfl, fun h => absurd h (by omega)⟩

end So
end Go.Proofs.YtlmahoogkogpdaaGreatDoor
/- Contracts: the document's Number answers the number and the error of the plain definition, for every text and every int, and turns nothing in memory. -/
namespace Go.Proofs.YtlmahoogkogpdaaGreatDoor
open Go.RowKit
namespace NumW

end NumW
end Go.Proofs.YtlmahoogkogpdaaGreatDoor
/- Contracts: the document's own Value and One: the flag that a text writes; nothing in memory turns. -/
namespace Go.Proofs.YtlmahoogkogpdaaGreatDoor
open Go.RowKit
namespace One

end One
end Go.Proofs.YtlmahoogkogpdaaGreatDoor
/- Contract: the document's Has. -/
namespace Go.Proofs.YtlmahoogkogpdaaGreatDoor
open Go.Sort Go.RowKit
namespace So

theorem hasB_take {l : List Int} {x y : Int} {k : Nat} (hy : l[k]? = some y) (h : x ≠ y) (hn : ∀ z ∈ l.take k, x ≠ z) : ∀ z ∈ l.take (k + 1), x ≠ z := fun z hz => by
  rw [take_snoc hy] at hz
  rcases List.mem_append.1 hz with h1 | h1
  · exact hn z h1
  · simp at h1; subst h1; exact h
end So
end Go.Proofs.YtlmahoogkogpdaaGreatDoor
/- Contracts: slices.IndexFunc and slices.DeleteFunc with a set's own question, and Without of a set of flags. -/
namespace Go.Proofs.YtlmahoogkogpdaaGreatDoor
open Go.Sort Go.RowKit
namespace So

/-- what is kept -/
def kept (F : List Int) (S : List Int) : List Int := S.filter fun x => !hasB F x
theorem kept_snoc {F S : List Int} {k : Nat} {x : Int} (hx : S[k]? = some x) : kept F (S.take (k + 1)) = kept F (S.take k) ++ (if hasB F x then [] else [x]) := by
  have hk : k < S.length := (List.getElem?_eq_some_iff.1 hx).1
  rw [List.take_succ_eq_append_getElem hk, (List.getElem?_eq_some_iff.1 hx).2]
  unfold kept
  rw [List.filter_append]
  cases h : hasB F x
  · simp [h]
  · simp [h]
/-- the row under way: what is kept of the first j stands in front, the rest is as it was -/
structure Del (F S : List Int) (i j : Nat) (dk : Array Int) : Prop where
  size : dk.size = S.length
  len : (kept F (S.take j)).length = i
  front : dk.toList.take i = kept F (S.take j)
  rest : ∀ t, j ≤ t → dk[t]! = S[t]!
  ij : i < j
theorem Del.skip {F S : List Int} {i j : Nat} {dk : Array Int} (h : Del F S i j dk) {x : Int} (hx : S[j]? = some x) (hb : hasB F x = true) : Del F S i (j + 1) dk := by
  have e := kept_snoc (F := F) hx
  rw [hb] at e
  simp at e
  exact ⟨h.size, by rw [e]; exact h.len, by rw [e]; exact h.front, fun t ht => h.rest t (by omega), by have := h.ij; omega⟩
theorem Del.keep {F S : List Int} {i j : Nat} {dk : Array Int} (h : Del F S i j dk) {x : Int} (hx : S[j]? = some x) (hb : hasB F x = false) : Del F S (i + 1) (j + 1) (dk.setIfInBounds i x) := by
  have e := kept_snoc (F := F) hx
  rw [hb] at e
  simp at e
  have hj : j < S.length := (List.getElem?_eq_some_iff.1 hx).1
  have hij := h.ij
  have hs := h.size
  refine ⟨by simpa using hs, by rw [e]; simp [h.len], ?_, fun t ht => ?_, by omega⟩
  · rw [e, ← h.front]
    have hi : i < dk.size := by omega
    rw [List.take_succ_eq_append_getElem (by simpa using hi)]
    congr 1
    · simp [List.take_set_of_le]
    · simp
  · rw [getElem!_set_other dk i t x (by omega)]
    exact h.rest t (by omega)
theorem at_set {w wr : World} {g i : Nat} {dk d : Array Int} (h : At encF w g 0 dk wr) (hH : Holds encF w g 0 d) (hs : dk.size = d.size) (hb : g < w.heap.size) (hi : i < dk.size) (x : Int) : At encF w g 0 (dk.setIfInBounds i x) (wr.setCell ⟨g, i, none⟩ (encF x)) := by
  have hh := (h.holds hH hs hb).1
  refine h.step hb (by simp) ⟨0, ?_⟩
  rw [ahead_zero]
  have := putRow_set encF wr g 0 dk i x hi
  rw [putRow_self encF wr g 0 dk hh, Nat.zero_add] at this
  exact this
theorem size_lay : ∀ (xs : List Int) (d : Array Int) (k : Nat), (Lib.lay d k xs).size = d.size
  | [], _, _ => rfl
  | x :: r, d, k => by rw [Lib.lay, size_lay r]; simp
theorem at_lay {w wr : World} {g i : Nat} {dk d : Array Int} (h : At encF w g 0 dk wr) (hH : Holds encF w g 0 d) (hs : dk.size = d.size) (hb : g < w.heap.size) (xs : List Int) (hi : i + xs.length ≤ dk.size) : At encF w g 0 (Lib.lay dk i xs) (wr.setCells g i (xs.map encF)) := by
  have hh := (h.holds hH hs hb).1
  refine h.step hb (size_lay xs dk i) ⟨0, ?_⟩
  rw [ahead_zero]
  have := Lib.putRow_setCells encF wr g 0 xs dk i hi
  rw [putRow_self encF wr g 0 dk hh, Nat.zero_add] at this
  exact this
theorem lay_front {dk : Array Int} {i : Nat} (xs : List Int) (h : i + xs.length ≤ dk.size) : (Lib.lay dk i xs).toList.take i = dk.toList.take i := by
  apply List.ext_getElem?
  intro t
  rw [List.getElem?_take, List.getElem?_take]
  by_cases ht : t < i
  · rw [if_pos ht, if_pos ht]
    have := Lib.lay_get? xs dk i t h
    rw [if_neg (by omega)] at this
    simpa using this
  · rw [if_neg ht, if_neg ht]

end So
end Go.Proofs.YtlmahoogkogpdaaGreatDoor
