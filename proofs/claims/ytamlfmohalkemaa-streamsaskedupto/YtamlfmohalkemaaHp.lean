/- Layer 7, the plain part: the order of a heap's nodes, the heap's shape through one swap, and what is least of a list in the order of its coming in. No walk. -/
import Derived.Test.YtamlfmohalkemaaChecked
import Derived.WalkKit
namespace Go.Proofs.Ytamlfmohalkemaa
open Go.RowKit
namespace Hp

def Hid (p : Prop) : Prop := p
theorem hide {p : Prop} (h : p) : Hid p := h
theorem unhide {p : Prop} (h : Hid p) : p := h

section
variable {α : Type} {lt : α → α → Bool}
structure Ord (lt : α → α → Bool) : Prop where
  asym : ∀ a b, lt a b = true → lt b a = false
  cot : ∀ a b c, lt a b = true → lt a c = true ∨ lt c b = true
theorem Ord.irr (o : Ord lt) (a : α) : lt a a = false := by
  cases h : lt a a with
  | false => rfl
  | true => rw [← h]; exact o.asym a a h
theorem Ord.tr (o : Ord lt) {a b c : α} (h : lt a b = true) (k : lt b c = true) : lt a c = true := by
  rcases o.cot a b c h with x | x
  · exact x
  · rw [o.asym b c k] at x; cases x
/-- does a node come out ahead of another? -/
def ahd (lt : α → α → Bool) (a b : α × Nat) : Bool := if a.2 < b.2 then !lt b.1 a.1 else lt a.1 b.1
theorem ahd_iff (o : Ord lt) (a b : α × Nat) : ahd lt a b = true ↔ lt a.1 b.1 = true ∨ (lt b.1 a.1 = false ∧ a.2 < b.2) := by
  unfold ahd
  split
  · next h =>
    constructor
    · intro k; exact .inr ⟨by simpa using k, h⟩
    · rintro (k | k)
      · rw [o.asym _ _ k]; rfl
      · rw [k.1]; rfl
  · next h =>
    constructor
    · intro k; exact .inl k
    · rintro (k | k)
      · exact k
      · exact absurd k.2 h
theorem ahd_asym (o : Ord lt) {a b : α × Nat} (h : ahd lt a b = true) : ahd lt b a = false := by
  cases k : ahd lt b a with
  | false => rfl
  | true =>
    rw [ahd_iff o] at h k
    rcases h with h | h
    · rcases k with k | k
      · rw [o.asym _ _ h] at k; cases k
      · rw [k.1] at h; cases h
    · rcases k with k | k
      · rw [h.1] at k; cases k
      · omega
theorem ahd_cot (o : Ord lt) {c a : α × Nat} (b : α × Nat) (h : ahd lt c a = true) : ahd lt c b = true ∨ ahd lt b a = true := by
  simp only [ahd_iff o] at h ⊢
  rcases h with h | ⟨h1, h2⟩
  · rcases o.cot _ _ b.1 h with x | x
    · exact .inl (.inl x)
    · exact .inr (.inl x)
  · by_cases hb : c.2 < b.2
    · cases k : lt b.1 c.1 with
      | false => exact .inl (.inr ⟨rfl, hb⟩)
      | true =>
        rcases o.cot _ _ a.1 k with x | x
        · exact .inr (.inl x)
        · rw [h1] at x; cases x
    · have hb2 : b.2 < a.2 := by omega
      cases k : lt a.1 b.1 with
      | false => exact .inr (.inr ⟨rfl, hb2⟩)
      | true =>
        rcases o.cot _ _ c.1 k with x | x
        · rw [h1] at x; cases x
        · exact .inl (.inl x)
theorem ahd_ntr (o : Ord lt) {c b a : α × Nat} (h : ahd lt c b = false) (k : ahd lt b a = false) : ahd lt c a = false := by
  cases x : ahd lt c a with
  | false => rfl
  | true => rcases ahd_cot o b x with y | y <;> simp_all
theorem ahd_irr (o : Ord lt) (a : α × Nat) : ahd lt a a = false := by
  cases h : ahd lt a a with
  | false => rfl
  | true => rw [← h]; exact ahd_asym o h

/-! the heap's shape, the nodes as a function of their places -/
abbrev par (i : Nat) : Nat := (i - 1) / 2
def swp {ν : Type} (G : Nat → ν) (i j t : Nat) : ν := if t = i then G j else if t = j then G i else G t
theorem swp_l {ν : Type} (G : Nat → ν) (i j : Nat) : swp G i j i = G j := if_pos rfl
theorem swp_r {ν : Type} (G : Nat → ν) (i j : Nat) : swp G i j j = G i := by
  unfold swp
  by_cases e : j = i
  · rw [if_pos e, e]
  · rw [if_neg e, if_pos rfl]
theorem map_erase {ν μ : Type} (f : ν → μ) : ∀ (l : List ν) (k : Nat), (l.eraseIdx k).map f = (l.map f).eraseIdx k
  | [], k => by simp
  | x :: t, 0 => rfl
  | x :: t, k + 1 => by simp [map_erase f t k]
theorem erase_perm {ν : Type} : ∀ {l : List ν} {k : Nat} {x : ν}, l[k]? = some x → l.Perm (x :: l.eraseIdx k)
  | [], k, x, h => by simp at h
  | a :: t, 0, x, h => by simp at h; subst h; exact .refl _
  | a :: t, k + 1, x, h => by
    have := erase_perm (l := t) (k := k) (x := x) (by simpa using h)
    simp only [List.eraseIdx_cons_succ]
    exact (this.cons a).trans (.swap ..)
def Shape (lt : α → α → Bool) (G : Nat → α × Nat) (n : Nat) : Prop := ∀ i, 0 < i → i < n → ahd lt (G i) (G (par i)) = false
/-- all but place k is in shape -/
structure Rising (lt : α → α → Bool) (G : Nat → α × Nat) (n k : Nat) : Prop where
  ok : ∀ i, 0 < i → i < n → i ≠ k → ahd lt (G i) (G (par i)) = false
  up : 0 < k → ∀ c, c < n → 0 < c → par c = k → ahd lt (G c) (G (par k)) = false
/-- all but the places below place k is in shape -/
structure Sinking (lt : α → α → Bool) (G : Nat → α × Nat) (n k : Nat) : Prop where
  ok : ∀ i, 0 < i → i < n → par i ≠ k → ahd lt (G i) (G (par i)) = false
  up : 0 < k → ∀ c, c < n → 0 < c → par c = k → ahd lt (G c) (G (par k)) = false
theorem Rising.done {G : Nat → α × Nat} {n k : Nat} (h : Rising lt G n k) (hk : k = 0 ∨ ahd lt (G k) (G (par k)) = false) : Shape lt G n := fun i h0 hi => by
  by_cases e : i = k
  · subst e
    rcases hk with hk | hk
    · omega
    · exact hk
  · exact h.ok i h0 hi e
theorem Rising.step (o : Ord lt) {G : Nat → α × Nat} {n k : Nat} (h : Rising lt G n k) (h0 : 0 < k) (hk : k < n) (ha : ahd lt (G k) (G (par k)) = true) : Rising lt (swp G k (par k)) n (par k) := by
  have hp : par k < k := by simp only [par]; omega
  have rev := ahd_asym o ha
  refine ⟨fun i i0 hi hne => ?_, fun hp0 c hc c0 hpc => ?_⟩
  · by_cases e : i = k
    · subst e
      have e1 : swp G i (par i) i = G (par i) := by simp [swp]
      have e2 : swp G i (par i) (par i) = G i := swp_r ..
      rw [e1, e2]; exact rev
    · have e1 : swp G k (par k) i = G i := by simp only [swp]; rw [if_neg e, if_neg hne]
      rw [e1]
      by_cases e2 : par i = k
      · have e3 : swp G k (par k) (par i) = G (par k) := by simp only [swp]; rw [if_pos e2]
        rw [e3]; exact h.up h0 i hi i0 e2
      · by_cases e3 : par i = par k
        · have e4 : swp G k (par k) (par i) = G k := by simp only [swp]; rw [if_neg e2, if_pos e3]
          rw [e4]
          have q := h.ok i i0 hi e
          rw [e3] at q
          exact ahd_ntr o q rev
        · have e4 : swp G k (par k) (par i) = G (par i) := by simp only [swp]; rw [if_neg e2, if_neg e3]
          rw [e4]; exact h.ok i i0 hi e
  · have hpp : par (par k) < par k := by simp only [par] at hp0 ⊢; omega
    have e4 : swp G k (par k) (par (par k)) = G (par (par k)) := by simp only [swp]; rw [if_neg (by omega), if_neg (by omega)]
    have q := h.ok (par k) hp0 (by omega) (by omega)
    rw [e4]
    by_cases e : c = k
    · subst e
      have e1 : swp G c (par c) c = G (par c) := by simp [swp]
      rw [e1]; exact q
    · have hcp : c ≠ par k := by simp only [par] at hpc hp ⊢; omega
      have e1 : swp G k (par k) c = G c := by simp only [swp]; rw [if_neg e, if_neg hcp]
      rw [e1]
      have q2 := h.ok c c0 hc e
      rw [hpc] at q2
      exact ahd_ntr o q2 q
theorem Sinking.done {G : Nat → α × Nat} {n k : Nat} (h : Sinking lt G n k) (hk : ∀ c, c < n → 0 < c → par c = k → ahd lt (G c) (G k) = false) : Shape lt G n := fun i h0 hi => by
  by_cases e : par i = k
  · rw [e]; exact hk i hi h0 e
  · exact h.ok i h0 hi e
theorem Sinking.step (o : Ord lt) {G : Nat → α × Nat} {n k f : Nat} (h : Sinking lt G n k) (hf0 : 0 < f) (hf : f < n) (hpf : par f = k) (ha : ahd lt (G f) (G k) = true) (hm : ∀ c, c < n → 0 < c → par c = k → ahd lt (G c) (G f) = false) : Sinking lt (swp G k f) n f := by
  have hp : k < f := by simp only [par] at hpf; omega
  have rev := ahd_asym o ha
  refine ⟨fun i i0 hi hne => ?_, fun _ c hc c0 hpc => ?_⟩
  · by_cases e : par i = k
    · have e2 : swp G k f (par i) = G f := by simp only [swp]; rw [if_pos e]
      rw [e2]
      by_cases e3 : i = f
      · subst e3
        have e1 : swp G k i i = G k := swp_r ..
        rw [e1]; exact rev
      · have e1 : swp G k f i = G i := by simp only [swp]; rw [if_neg (by simp only [par] at e; omega), if_neg e3]
        rw [e1]; exact hm i hi i0 e
    · have e2 : swp G k f (par i) = G (par i) := by simp only [swp]; rw [if_neg e, if_neg hne]
      rw [e2]
      by_cases e3 : i = k
      · subst e3
        have e1 : swp G i f i = G f := swp_l ..
        rw [e1]; exact h.up i0 f hf hf0 hpf
      · have hif : i ≠ f := fun x => e (x ▸ hpf)
        have e1 : swp G k f i = G i := by simp only [swp]; rw [if_neg e3, if_neg hif]
        rw [e1]; exact h.ok i i0 hi e
  · have e2 : swp G k f (par f) = G f := by simp only [swp]; rw [if_pos hpf]
    have e1 : swp G k f c = G c := by simp only [swp]; rw [if_neg (by simp only [par] at hpc; omega), if_neg (by simp only [par] at hpc; omega)]
    rw [e1, e2]
    have q := h.ok c c0 hc (by omega)
    rw [hpc] at q
    exact q
theorem Shape.root (o : Ord lt) {G : Nat → α × Nat} {n : Nat} (h : Shape lt G n) : ∀ i, i < n → ahd lt (G i) (G 0) = false := by
  intro i
  induction i using Nat.strongRecOn with
  | ind i ih =>
    intro hi
    by_cases e : i = 0
    · subst e; exact ahd_irr o _
    · exact ahd_ntr o (h i (by omega) hi) (ih (par i) (by simp only [par]; omega) (by simp only [par]; omega))

/-! what is least of a list -/
def Lst (lt : α → α → Bool) (l : List α) (k : Nat) (x : α) : Prop :=
  l[k]? = some x ∧ (∀ j y, j < k → l[j]? = some y → lt x y = true) ∧ ∀ j y, k < j → l[j]? = some y → lt y x = false
def pop (lt : α → α → Bool) : List α → Option (α × List α)
  | [] => none
  | x :: t => match pop lt t with
    | none => some (x, [])
    | some (y, r) => if lt y x then some (y, x :: r) else some (x, t)
theorem pop_none {l : List α} (h : pop lt l = none) : l = [] := by
  cases l with
  | nil => rfl
  | cons x t =>
    simp only [pop] at h
    split at h
    · cases h
    · split at h <;> cases h
theorem pop_lst (o : Ord lt) : ∀ {l : List α} {x : α} {r : List α}, pop lt l = some (x, r) → ∃ k, Lst lt l k x ∧ r = l.eraseIdx k
  | [], x, r, h => by simp [pop] at h
  | a :: t, x, r, h => by
    simp only [pop] at h
    split at h
    · next hn =>
      have := pop_none hn
      subst this
      simp only [Option.some.injEq, Prod.mk.injEq] at h
      obtain ⟨rfl, rfl⟩ := h
      exact ⟨0, ⟨rfl, fun j y hj => by omega, fun j y hj hy => by obtain ⟨j, rfl⟩ : ∃ i, j = i + 1 := ⟨j - 1, by omega⟩; simp at hy⟩, rfl⟩
    · next y r' hs =>
      obtain ⟨k, ⟨h1, h2, h3⟩, rfl⟩ := pop_lst o hs
      split at h
      · next hl =>
        simp only [Option.some.injEq, Prod.mk.injEq] at h
        obtain ⟨rfl, rfl⟩ := h
        refine ⟨k + 1, ⟨by simpa using h1, fun j z hj hz => ?_, fun j z hj hz => ?_⟩, by simp⟩
        · rcases j with _ | j
          · simp at hz; subst hz; exact hl
          · exact h2 j z (by omega) (by simpa using hz)
        · obtain ⟨j, rfl⟩ : ∃ i, j = i + 1 := ⟨j - 1, by omega⟩
          exact h3 j z (by omega) (by simpa using hz)
      · next hl =>
        simp only [Option.some.injEq, Prod.mk.injEq] at h
        obtain ⟨rfl, rfl⟩ := h
        have hl : lt y a = false := by simpa using hl
        refine ⟨0, ⟨rfl, fun j z hj => by omega, fun j z hj hz => ?_⟩, rfl⟩
        obtain ⟨j, rfl⟩ : ∃ i, j = i + 1 := ⟨j - 1, by omega⟩
        have hz : t[j]? = some z := by simpa using hz
        cases hx : lt z a with
        | false => rfl
        | true =>
          rcases Nat.lt_trichotomy j k with e | e | e
          · rw [o.tr (h2 j z e hz) hx] at hl; cases hl
          · subst e; rw [h1] at hz; injection hz with hz; subst hz; rw [hl] at hx; cases hx
          · rcases o.cot _ _ y hx with q | q
            · rw [h3 j z e hz] at q; cases q
            · rw [hl] at q; cases q
theorem lst_unique {l : List α} {k k' : Nat} {x x' : α} (h : Lst lt l k x) (h' : Lst lt l k' x') : k = k' ∧ x = x' := by
  have e : k = k' := by
    rcases Nat.lt_trichotomy k k' with e | e | e
    · have a := h'.2.1 k x e h.1
      have b := h.2.2 k' x' e h'.1
      rw [a] at b; cases b
    · exact e
    · have a := h.2.1 k' x' e h'.1
      have b := h'.2.2 k x e h.1
      rw [a] at b; cases b
  subst e
  have := h.1.symm.trans h'.1
  exact ⟨rfl, by injection this⟩
theorem pop_of (o : Ord lt) {l : List α} {k : Nat} {x : α} (h : Lst lt l k x) : pop lt l = some (x, l.eraseIdx k) := by
  rcases e : pop lt l with _ | ⟨y, r⟩
  · rw [pop_none e] at h; simp [Lst] at h
  · obtain ⟨k', h', rfl⟩ := pop_lst o e
    obtain ⟨rfl, rfl⟩ := lst_unique h h'
    rfl

/-! the nodes of a heap against the items in the order of their coming in -/
/-- these nodes are these items, with rising turns -/
def Bag (A : List (α × Nat)) (I : List α) (p : Nat) : Prop := ∃ L : List (α × Nat), A.Perm L ∧ L.Pairwise (fun a b => a.2 < b.2) ∧ (∀ x ∈ L, x.2 ≤ p) ∧ L.map (·.1) = I
theorem Bag.nil : Bag ([] : List (α × Nat)) [] 0 := ⟨[], .refl _, .nil, by simp, rfl⟩
theorem Bag.len {A : List (α × Nat)} {I : List α} {p : Nat} (h : Bag A I p) : A.length = I.length := by
  obtain ⟨L, h1, _, _, rfl⟩ := h
  rw [h1.length_eq]; simp
theorem Bag.perm {A B : List (α × Nat)} {I : List α} {p : Nat} (h : Bag A I p) (k : B.Perm A) : Bag B I p := by
  obtain ⟨L, h1, h2⟩ := h
  exact ⟨L, k.trans h1, h2⟩
theorem Bag.push {A : List (α × Nat)} {I : List α} {p : Nat} (h : Bag A I p) (x : α) : Bag (A ++ [(x, p + 1)]) (I ++ [x]) (p + 1) := by
  obtain ⟨L, h1, h2, h3, rfl⟩ := h
  refine ⟨L ++ [(x, p + 1)], h1.append (.refl _), ?_, fun y hy => ?_, by simp⟩
  · rw [List.pairwise_append]
    exact ⟨h2, by simp, fun a ha b hb => by simp at hb; subst hb; have := h3 a ha; show a.2 < p + 1; omega⟩
  · rcases List.mem_append.1 hy with hy | hy
    · have := h3 y hy; omega
    · simp at hy; subst hy; exact Nat.le_refl _
/-- the node that no other comes ahead of is the least item; what is left without it -/
theorem Bag.pop (o : Ord lt) {a : α × Nat} {A : List (α × Nat)} {I : List α} {p : Nat} (h : Bag (a :: A) I p) (hr : ∀ x ∈ a :: A, ahd lt x a = false) : ∃ J, Hp.pop lt I = some (a.1, J) ∧ Bag A J p := by
  obtain ⟨L, h1, h2, h3, rfl⟩ := h
  have ha : a ∈ L := h1.mem_iff.1 (by simp)
  obtain ⟨k, hk⟩ := List.mem_iff_getElem?.1 ha
  have hkl := (List.getElem?_eq_some_iff.1 hk).1
  have hmin : ∀ (j : Nat) y, L[j]? = some y → ahd lt y a = false := fun j y hy => hr y (h1.mem_iff.2 (List.mem_of_getElem? hy))
  have hord : ∀ (i j : Nat) y z, i < j → L[i]? = some y → L[j]? = some z → y.2 < z.2 := fun i j y z hij hy hz => by
    obtain ⟨b1, e1⟩ := List.getElem?_eq_some_iff.1 hy
    obtain ⟨b2, e2⟩ := List.getElem?_eq_some_iff.1 hz
    have := List.pairwise_iff_getElem.1 h2 i j b1 b2 hij
    rw [e1, e2] at this; exact this
  have hL : Lst lt (L.map (·.1)) k a.1 := by
    refine ⟨by simp [hk], fun j y hj hy => ?_, fun j y hj hy => ?_⟩
    · rw [List.getElem?_map] at hy
      rcases e : L[j]? with _ | z
      · rw [e] at hy; cases hy
      · rw [e] at hy
        have hy : z.1 = y := by injection hy
        subst hy
        have q := hmin j z e
        have := hord j k z a hj e hk
        unfold ahd at q
        rw [if_pos this] at q
        simpa using q
    · rw [List.getElem?_map] at hy
      rcases e : L[j]? with _ | z
      · rw [e] at hy; cases hy
      · rw [e] at hy
        have hy : z.1 = y := by injection hy
        subst hy
        have q := hmin j z e
        have := hord k j a z hj hk e
        unfold ahd at q
        rw [if_neg (by omega)] at q
        exact q
  refine ⟨_, pop_of o hL, L.eraseIdx k, ?_, h2.sublist (List.eraseIdx_sublist ..), fun x hx => h3 x ((List.eraseIdx_sublist ..).subset hx), map_erase ..⟩
  have e : L.Perm (a :: L.eraseIdx k) := erase_perm hk
  exact (List.perm_cons a).1 (h1.trans e)
end
end Hp
end Go.Proofs.Ytamlfmohalkemaa
