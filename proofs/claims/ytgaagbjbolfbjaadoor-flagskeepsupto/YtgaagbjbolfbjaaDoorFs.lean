/- Plain mathematics of sets of flags: rising lists; what it is that flags lie in memory; no walk. -/
import Derived.Test.YtgaagbjbolfbjaaDoorSoA
import Derived.Lib.SlicesCompact
import Derived.Laws.CopyOwn
namespace Go.Proofs.YtgaagbjbolfbjaaDoor
open Go.Sort Go.RowKit
namespace So

/-- l is the set of what stands in L: rising, each once -/
def IsSet (l L : List Int) : Prop := l.Pairwise (· < ·) ∧ ∀ x, x ∈ l ↔ x ∈ L
theorem rising_unique : ∀ {l m : List Int}, l.Pairwise (· < ·) → m.Pairwise (· < ·) → (∀ x, x ∈ l ↔ x ∈ m) → l = m
  | [], [], _, _, _ => rfl
  | [], y :: m, _, _, h => absurd ((h y).2 (by simp)) (by simp)
  | x :: l, [], _, _, h => absurd ((h x).1 (by simp)) (by simp)
  | x :: l, y :: m, h1, h2, h => by
    rw [List.pairwise_cons] at h1 h2
    have e : x = y := by
      have hx := (h x).1 (by simp)
      have hy := (h y).2 (by simp)
      rcases List.mem_cons.1 hx with e | hx
      · exact e
      · rcases List.mem_cons.1 hy with e | hy
        · exact e.symm
        · have := h1.1 y hy
          have := h2.1 x hx
          omega
    subst e
    rw [rising_unique h1.2 h2.2 fun z => ?_]
    constructor
    · intro hz
      rcases List.mem_cons.1 ((h z).1 (by simp [hz])) with e | hz2
      · have := h1.1 z hz; omega
      · exact hz2
    · intro hz
      rcases List.mem_cons.1 ((h z).2 (by simp [hz])) with e | hz2
      · have := h2.1 z hz; omega
      · exact hz2
theorem IsSet.unique {l m L : List Int} (h1 : IsSet l L) (h2 : IsSet m L) : l = m := rising_unique h1.1 h2.1 fun x => (h1.2 x).trans (h2.2 x).symm
theorem IsSet.congr {l L M : List Int} (h : IsSet l L) (e : ∀ x, x ∈ L ↔ x ∈ M) : IsSet l M := ⟨h.1, fun x => (h.2 x).trans (e x)⟩
theorem sub_len : ∀ {l L : List Int}, l.Pairwise (· < ·) → (∀ x ∈ l, x ∈ L) → l.length ≤ L.length
  | [], _, _, _ => Nat.zero_le _
  | x :: t, L, h, hs => by
    rw [List.pairwise_cons] at h
    have hx := hs x (by simp)
    have ih := sub_len (l := t) (L := L.erase x) h.2 fun y hy => by
      have : x < y := h.1 y hy
      exact (List.mem_erase_of_ne (by omega)).2 (hs y (by simp [hy]))
    rw [List.length_erase_of_mem hx] at ih
    have : 0 < L.length := List.length_pos_of_mem hx
    rw [List.length_cons]
    omega
theorem IsSet.len {l L : List Int} (h : IsSet l L) : l.length ≤ L.length := sub_len h.1 fun x hx => (h.2 x).1 hx
/-- a sorted array without its repeats -/
theorem compact_set {d : Array Int} (hs : ∀ i j, i < j → j < d.size → d[i]! ≤ d[j]!) : IsSet (Lib.compactUpTo d d.size) d.toList := by
  constructor
  · unfold Lib.compactUpTo
    rw [List.pairwise_map]
    have hr : (List.range d.size).Pairwise (· < ·) := List.pairwise_lt_range
    have hf := hr.filter (Lib.keeps d)
    refine List.Pairwise.imp_of_mem ?_ hf
    intro i j hi hj hij
    obtain ⟨_, hk⟩ := List.mem_filter.1 hj
    have hjs : j < d.size := List.mem_range.1 (List.mem_filter.1 hj).1
    have hne : d[j]! ≠ d[j - 1]! := by
      unfold Lib.keeps at hk
      have h0 : ¬ j = 0 := by omega
      simpa [h0] using hk
    have h1 : d[j - 1]! ≤ d[j]! := hs (j - 1) j (by omega) hjs
    by_cases e : i = j - 1
    · subst e; omega
    · have := hs i (j - 1) (by omega) (by omega); omega
  · intro x
    unfold Lib.compactUpTo
    constructor
    · intro h
      obtain ⟨i, hi, rfl⟩ := List.mem_map.1 h
      have : i < d.size := List.mem_range.1 (List.mem_filter.1 hi).1
      rw [getElem!_pos d i this]
      simp
    · intro h
      obtain ⟨j, hj, rfl⟩ := List.getElem_of_mem h
      have hj : j < d.size := by simpa using hj
      have key : ∀ n (_ : n < d.size), ∃ i, i ≤ n ∧ Lib.keeps d i = true ∧ d[i]! = d[n]! := by
        intro n
        induction n with
        | zero => intro _; exact ⟨0, Nat.le_refl _, by simp [Lib.keeps], rfl⟩
        | succ n ih =>
          intro hn
          by_cases hk : Lib.keeps d (n + 1) = true
          · exact ⟨n + 1, Nat.le_refl _, hk, rfl⟩
          · obtain ⟨i, h1, h2, h3⟩ := ih (by omega)
            refine ⟨i, by omega, h2, ?_⟩
            rw [h3]
            unfold Lib.keeps at hk
            simp at hk
            exact hk.symm
      obtain ⟨i, h1, h2, h3⟩ := key j hj
      refine List.mem_map.2 ⟨i, List.mem_filter.2 ⟨List.mem_range.2 (by omega), h2⟩, ?_⟩
      rw [h3, getElem!_pos d j hj]
      simp

/-- the set of a list, reckoned -/
def ins (x : Int) : List Int → List Int
  | [] => [x]
  | y :: t => if x < y then x :: y :: t else if x = y then y :: t else y :: ins x t
def setOf (L : List Int) : List Int := L.foldr ins []
theorem ins_mem (x : Int) : ∀ (l : List Int) (z : Int), z ∈ ins x l ↔ z = x ∨ z ∈ l
  | [], z => by simp [ins]
  | y :: t, z => by
    unfold ins
    split
    · simp
    · split
      · rename_i h; subst h; simp
      · rw [List.mem_cons, ins_mem x t z, List.mem_cons]
        constructor
        · rintro (h | h | h)
          · exact .inr (.inl h)
          · exact .inl h
          · exact .inr (.inr h)
        · rintro (h | h | h)
          · exact .inr (.inl h)
          · exact .inl h
          · exact .inr (.inr h)
theorem ins_rising (x : Int) : ∀ {l : List Int}, l.Pairwise (· < ·) → (ins x l).Pairwise (· < ·)
  | [], _ => by simp [ins]
  | y :: t, h => by
    rw [List.pairwise_cons] at h
    unfold ins
    split
    · rename_i hxy
      rw [List.pairwise_cons]
      refine ⟨fun z hz => ?_, List.pairwise_cons.2 h⟩
      rcases List.mem_cons.1 hz with e | hz
      · omega
      · have := h.1 z hz; omega
    · split
      · exact List.pairwise_cons.2 h
      · rw [List.pairwise_cons]
        refine ⟨fun z hz => ?_, ins_rising x h.2⟩
        rcases (ins_mem x t z).1 hz with e | hz
        · omega
        · exact h.1 z hz
theorem setOf_set : ∀ (L : List Int), IsSet (setOf L) L
  | [] => ⟨by simp [setOf], fun x => by simp [setOf]⟩
  | x :: t => by
    have ih := setOf_set t
    refine ⟨ins_rising x ih.1, fun z => ?_⟩
    show z ∈ ins x (setOf t) ↔ _
    rw [ins_mem, ih.2, List.mem_cons]
theorem IsSet.eq {l L : List Int} (h : IsSet l L) : l = setOf L := h.unique (setOf_set L)
theorem setOf_congr {L M : List Int} (h : ∀ x, x ∈ L ↔ x ∈ M) : setOf L = setOf M := ((setOf_set L).congr h).eq
theorem mem_setOf {L : List Int} {x : Int} : x ∈ setOf L ↔ x ∈ L := (setOf_set L).2 x

/-! flags in a block of their own -/
def FRow (n₀ : Nat) (W : World) (v : Value) (l : List Int) : Prop :=
  ∃ g cap cur, v = .slice (some ⟨g, 0, none⟩) l.length cap ∧ n₀ ≤ g ∧ W.heap[g]? = some (.cells cur 25 (0, 0)) ∧ l.length ≤ cap ∧ cap ≤ maxLen ∧ cap = cur.size ∧ cur.toList.take l.length = l.map encF
/-- a list of flags, wherever it lies -/
def FArg (W : World) (v : Value) (l : List Int) : Prop :=
  ∃ ao cap, v = .slice ao l.length cap ∧ l.length ≤ cap ∧ cap ≤ maxLen ∧ (ao = none → cap = 0) ∧ (0 < l.length → ∃ g off, ao = some ⟨g, off, none⟩ ∧ g < W.heap.size ∧ ∀ (j : Nat) x, l[j]? = some x → W.cell? ⟨g, off + j, none⟩ = some (encF x))
theorem FArg.below {W W' : World} {v : Value} {l : List Int} (h : FArg W v l) (hB : Go.RowKit.Below W.heap.size W W') : FArg W' v l := by
  obtain ⟨ao, cap, e, h1, h2, h2', h3⟩ := h
  refine ⟨ao, cap, e, h1, h2, h2', fun h0 => ?_⟩
  obtain ⟨g, off, e2, hg, hc⟩ := h3 h0
  exact ⟨g, off, e2, Nat.lt_of_lt_of_le hg hB.size, fun j x hx => (hB.cell (p := ⟨g, off + j, none⟩) hg).trans (hc j x hx)⟩
theorem FRow.cells {n₀ : Nat} {W : World} {v : Value} {l : List Int} (h : FRow n₀ W v l) : ∃ g cap, v = .slice (some ⟨g, 0, none⟩) l.length cap ∧ n₀ ≤ g ∧ g < W.heap.size ∧ l.length ≤ cap ∧ cap ≤ maxLen ∧ Holds encF W g 0 l.toArray := by
  obtain ⟨g, cap, cur, e, hg, hh, h1, h2, h3, h4⟩ := h
  refine ⟨g, cap, e, hg, (Array.getElem?_eq_some_iff.1 hh).1, h1, h2, fun j hj => ?_⟩
  have hj : j < l.length := by simpa using hj
  have hv : (cur.toList.take l.length)[j]? = some (encF l[j]) := by rw [h4]; simp [hj]
  rw [List.getElem?_take, if_pos hj] at hv
  have e2 : (l.toArray)[j]! = l[j] := by rw [getElem!_pos l.toArray j (by simpa using hj)]; simp
  rw [e2]
  constructor
  · simp only [World.cell?, hh, Nat.zero_add]
    simpa using hv
  · simp [World.frozen?, hh]
theorem FRow.arg {n₀ : Nat} {W : World} {v : Value} {l : List Int} (h : FRow n₀ W v l) : FArg W v l := by
  obtain ⟨g, cap, e, hg, hgs, h1, h2, hH⟩ := h.cells
  refine ⟨_, cap, e, h1, h2, (fun h => by cases h), fun _ => ⟨g, 0, rfl, hgs, fun j x hx => ?_⟩⟩
  have hj : j < l.length := (List.getElem?_eq_some_iff.1 hx).1
  have := (hH j (by simpa using hj)).1
  rw [this]
  congr 2
  rw [getElem!_pos l.toArray j (by simpa using hj)]
  have := List.getElem?_eq_some_iff.1 hx
  obtain ⟨_, e⟩ := this
  simp [e]
theorem FRow.below {n₀ : Nat} {W W' : World} {v : Value} {l : List Int} (h : FRow n₀ W v l) (hB : Go.RowKit.Below W.heap.size W W') : FRow n₀ W' v l := by
  obtain ⟨g, cap, cur, e, hg, hh, r⟩ := h
  exact ⟨g, cap, cur, e, hg, by rw [hB.block g (Array.getElem?_eq_some_iff.1 hh).1]; exact hh, r⟩
theorem FRow.low {n₀ n₁ : Nat} {W : World} {v : Value} {l : List Int} (h : FRow n₀ W v l) (k : n₁ ≤ n₀) : FRow n₁ W v l := by
  obtain ⟨g, cap, cur, e, hg, r⟩ := h
  exact ⟨g, cap, cur, e, Nat.le_trans k hg, r⟩
theorem at_below {n₀ g off : Nat} {W W' : World} {d : Array Int} (h : At encF W g off d W') (hg : n₀ ≤ g) (hn : n₀ ≤ W.heap.size) : Go.RowKit.Below n₀ W W' := by
  obtain ⟨n, os, rfl⟩ := h
  refine ⟨rfl, rfl, rfl, ?_, fun k hk => ?_⟩
  · simp
  · rw [heap_grow_old _ _ (by simp; omega)]
    show (W.heap.modify g _)[k]? = _
    rw [Array.getElem?_modify, if_neg (by omega)]
/-- a row turned in its place -/
theorem FRow.at {n₀ g cap : Nat} {W W' : World} {l : List Int} {d : Array Int} (h : FRow n₀ W (.slice (some ⟨g, 0, none⟩) l.length cap) l) (ha : At encF W g 0 d W') (hd : d.size = l.length) : FRow n₀ W' (.slice (some ⟨g, 0, none⟩) l.length cap) d.toList := by
  obtain ⟨g2, cap2, cur, e, hg, hh, h1, h2, h3, h4⟩ := h
  injection e with e1 _ e3
  injection e1 with e1
  injection e1 with e1 _ _
  subst e1; subst e3
  obtain ⟨n, os, rfl⟩ := ha
  have hgs : g < W.heap.size := (Array.getElem?_eq_some_iff.1 hh).1
  refine ⟨g, cap, putCells encF 0 d cur, by simp [hd], hg, ?_, by simpa [hd] using h1, h2, by simpa [putCells] using h3, ?_⟩
  · rw [heap_grow_old _ _ (by simp; exact hgs)]
    show (W.heap.modify g _)[g]? = _
    rw [Array.getElem?_modify, if_pos rfl, hh]
    rfl
  · apply List.ext_getElem?
    intro k
    rw [List.getElem?_take]
    by_cases hk : k < d.toList.length
    · have hk2 : k < d.size := by simpa using hk
      rw [if_pos hk]
      have hc : k < cur.size := by omega
      simp [putCells, hc, hk2]
    · rw [if_neg hk]
      rw [List.getElem?_eq_none (by simpa using hk)]
theorem FRow.take {n₀ g cap : Nat} {W : World} {l : List Int} (h : FRow n₀ W (.slice (some ⟨g, 0, none⟩) l.length cap) l) {m : List Int} (hm : m <+: l) : FRow n₀ W (.slice (some ⟨g, 0, none⟩) m.length cap) m := by
  obtain ⟨g2, cap2, cur, e, hg, hh, h1, h2, h3, h4⟩ := h
  injection e with e1 _ e3
  injection e1 with e1
  injection e1 with e1 _ _
  subst e1; subst e3
  obtain ⟨t, rfl⟩ := hm
  refine ⟨g, cap, cur, rfl, hg, hh, by simp at h1; omega, h2, h3, ?_⟩
  have := congrArg (List.take m.length) h4
  rw [List.take_take] at this
  simpa using this
theorem FRow.owns {n₀ : Nat} {W : World} {v : Value} {l : List Int} (h : FRow n₀ W v l) : W.ownsRow n₀ 25 1 v l.length (l.map encF) := by
  obtain ⟨g, cap, cur, e, hg, hh, h1, h2, h3, h4⟩ := h
  exact ⟨by simp, .inr ⟨g, cap, cur, e, hg, hh, h1, h2, by omega, by rw [Nat.mul_one]; exact h4⟩⟩
/-- what an append leaves: nil, or a row -/
theorem farg_of_owns {n₀ : Nat} {W : World} {v : Value} {l : List Int} (h : W.ownsRow n₀ 25 1 v l.length (l.map encF)) : FArg W v l ∧ ((v = .slice none 0 0 ∧ l = []) ∨ FRow n₀ W v l) := by
  obtain ⟨_, ⟨rfl, h0⟩ | ⟨g, cap, cur, e, hg, hh, h1, h2, h3, h4⟩⟩ := h
  · have : l = [] := List.eq_nil_of_length_eq_zero h0
    subst this
    exact ⟨⟨none, 0, rfl, Nat.le_refl _, Nat.zero_le _, fun _ => rfl, fun h => absurd h (by simp)⟩, .inl ⟨rfl, rfl⟩⟩
  · rw [Nat.mul_one] at h4
    have hF : FRow n₀ W v l := ⟨g, cap, cur, e, hg, hh, h1, h2, by omega, h4⟩
    exact ⟨hF.arg, .inr hF⟩
end So
end Go.Proofs.YtgaagbjbolfbjaaDoor
