/- Layer 7, the plain part: the order of a heap's nodes, the heap's shape through one swap, and what is least of a list in the order of its coming in. No walk. -/
import Derived.Test.YtohfhkdhccpoaaaGreatDoorChecked
import Derived.WalkKit
import Derived.Deep.RegionHeld3
import Derived.Deep.Quiet
import Derived.BigQuiet
import Derived.Deep.AppendSrc
import Derived.Lib.OwnKind
import Derived.Deep.RegionLaw
namespace Go.Proofs.YtohfhkdhccpoaaaGreatDoor
open Go.RowKit
namespace Hp

def Hid (p : Prop) : Prop := p
theorem hide {p : Prop} (h : p) : Hid p := h
theorem unhide {p : Prop} (h : Hid p) : p := h

section
variable {α : Type} {lt : α → α → Bool}
structure Ord (lt : α → α → Bool) : Prop where
  asym : ∀ a b, lt a b = true → lt b a = false
  cot : ∀ a b c, lt a b = true → lt a c = true ∨ lt c b = true
theorem Ord.irr (o : Ord lt) (a : α) : lt a a = false := by
  cases h : lt a a with
  | false => rfl
  | true => rw [← h]; exact o.asym a a h
theorem Ord.tr (o : Ord lt) {a b c : α} (h : lt a b = true) (k : lt b c = true) : lt a c = true := by
  rcases o.cot a b c h with x | x
  · exact x
  · rw [o.asym b c k] at x; cases x
/-- does a node come out ahead of another? -/
def ahd (lt : α → α → Bool) (a b : α × Nat) : Bool := if a.2 < b.2 then !lt b.1 a.1 else lt a.1 b.1
theorem ahd_iff (o : Ord lt) (a b : α × Nat) : ahd lt a b = true ↔ lt a.1 b.1 = true ∨ (lt b.1 a.1 = false ∧ a.2 < b.2) := by
  unfold ahd
  split
  · next h =>
    constructor
    · intro k; exact .inr ⟨by simpa using k, h⟩
    · rintro (k | k)
      · rw [o.asym _ _ k]; rfl
      · rw [k.1]; rfl
  · next h =>
    constructor
    · intro k; exact .inl k
    · rintro (k | k)
      · exact k
      · exact absurd k.2 h
theorem ahd_asym (o : Ord lt) {a b : α × Nat} (h : ahd lt a b = true) : ahd lt b a = false := by
  cases k : ahd lt b a with
  | false => rfl
  | true =>
    rw [ahd_iff o] at h k
    rcases h with h | h
    · rcases k with k | k
      · rw [o.asym _ _ h] at k; cases k
      · rw [k.1] at h; cases h
    · rcases k with k | k
      · rw [h.1] at k; cases k
      · omega
theorem ahd_cot (o : Ord lt) {c a : α × Nat} (b : α × Nat) (h : ahd lt c a = true) : ahd lt c b = true ∨ ahd lt b a = true := by
  simp only [ahd_iff o] at h ⊢
  rcases h with h | ⟨h1, h2⟩
  · rcases o.cot _ _ b.1 h with x | x
    · exact .inl (.inl x)
    · exact .inr (.inl x)
  · by_cases hb : c.2 < b.2
    · cases k : lt b.1 c.1 with
      | false => exact .inl (.inr ⟨rfl, hb⟩)
      | true =>
        rcases o.cot _ _ a.1 k with x | x
        · exact .inr (.inl x)
        · rw [h1] at x; cases x
    · have hb2 : b.2 < a.2 := by omega
      cases k : lt a.1 b.1 with
      | false => exact .inr (.inr ⟨rfl, hb2⟩)
      | true =>
        rcases o.cot _ _ c.1 k with x | x
        · rw [h1] at x; cases x
        · exact .inl (.inl x)
theorem ahd_ntr (o : Ord lt) {c b a : α × Nat} (h : ahd lt c b = false) (k : ahd lt b a = false) : ahd lt c a = false := by
  cases x : ahd lt c a with
  | false => rfl
  | true => rcases ahd_cot o b x with y | y <;> simp_all
theorem ahd_irr (o : Ord lt) (a : α × Nat) : ahd lt a a = false := by
  cases h : ahd lt a a with
  | false => rfl
  | true => rw [← h]; exact ahd_asym o h

/-! the heap's shape, the nodes as a function of their places -/
abbrev par (i : Nat) : Nat := (i - 1) / 2
def swp {ν : Type} (G : Nat → ν) (i j t : Nat) : ν := if t = i then G j else if t = j then G i else G t
theorem swp_l {ν : Type} (G : Nat → ν) (i j : Nat) : swp G i j i = G j := if_pos rfl
theorem swp_r {ν : Type} (G : Nat → ν) (i j : Nat) : swp G i j j = G i := by
  unfold swp
  by_cases e : j = i
  · rw [if_pos e, e]
  · rw [if_neg e, if_pos rfl]
theorem map_erase {ν μ : Type} (f : ν → μ) : ∀ (l : List ν) (k : Nat), (l.eraseIdx k).map f = (l.map f).eraseIdx k
  | [], k => by simp
  | x :: t, 0 => rfl
  | x :: t, k + 1 => by simp [map_erase f t k]
theorem erase_perm {ν : Type} : ∀ {l : List ν} {k : Nat} {x : ν}, l[k]? = some x → l.Perm (x :: l.eraseIdx k)
  | [], k, x, h => by simp at h
  | a :: t, 0, x, h => by simp at h; subst h; exact .refl _
  | a :: t, k + 1, x, h => by
    have := erase_perm (l := t) (k := k) (x := x) (by simpa using h)
    simp only [List.eraseIdx_cons_succ]
    exact (this.cons a).trans (.swap ..)
def Shape (lt : α → α → Bool) (G : Nat → α × Nat) (n : Nat) : Prop := ∀ i, 0 < i → i < n → ahd lt (G i) (G (par i)) = false
/-- all but place k is in shape -/
structure Rising (lt : α → α → Bool) (G : Nat → α × Nat) (n k : Nat) : Prop where
  ok : ∀ i, 0 < i → i < n → i ≠ k → ahd lt (G i) (G (par i)) = false
  up : 0 < k → ∀ c, c < n → 0 < c → par c = k → ahd lt (G c) (G (par k)) = false
/-- all but the places below place k is in shape -/
structure Sinking (lt : α → α → Bool) (G : Nat → α × Nat) (n k : Nat) : Prop where
  ok : ∀ i, 0 < i → i < n → par i ≠ k → ahd lt (G i) (G (par i)) = false
  up : 0 < k → ∀ c, c < n → 0 < c → par c = k → ahd lt (G c) (G (par k)) = false
theorem Rising.done {G : Nat → α × Nat} {n k : Nat} (h : Rising lt G n k) (hk : k = 0 ∨ ahd lt (G k) (G (par k)) = false) : Shape lt G n := fun i h0 hi => by
  by_cases e : i = k
  · subst e
    rcases hk with hk | hk
    · omega
    · exact hk
  · exact h.ok i h0 hi e
theorem Rising.step (o : Ord lt) {G : Nat → α × Nat} {n k : Nat} (h : Rising lt G n k) (h0 : 0 < k) (hk : k < n) (ha : ahd lt (G k) (G (par k)) = true) : Rising lt (swp G k (par k)) n (par k) := by
  have hp : par k < k := by simp only [par]; omega
  have rev := ahd_asym o ha
  refine ⟨fun i i0 hi hne => ?_, fun hp0 c hc c0 hpc => ?_⟩
  · by_cases e : i = k
    · subst e
      have e1 : swp G i (par i) i = G (par i) := by simp [swp]
      have e2 : swp G i (par i) (par i) = G i := swp_r ..
      rw [e1, e2]; exact rev
    · have e1 : swp G k (par k) i = G i := by simp only [swp]; rw [if_neg e, if_neg hne]
      rw [e1]
      by_cases e2 : par i = k
      · have e3 : swp G k (par k) (par i) = G (par k) := by simp only [swp]; rw [if_pos e2]
        rw [e3]; exact h.up h0 i hi i0 e2
      · by_cases e3 : par i = par k
        · have e4 : swp G k (par k) (par i) = G k := by simp only [swp]; rw [if_neg e2, if_pos e3]
          rw [e4]
          have q := h.ok i i0 hi e
          rw [e3] at q
          exact ahd_ntr o q rev
        · have e4 : swp G k (par k) (par i) = G (par i) := by simp only [swp]; rw [if_neg e2, if_neg e3]
          rw [e4]; exact h.ok i i0 hi e
  · have hpp : par (par k) < par k := by simp only [par] at hp0 ⊢; omega
    have e4 : swp G k (par k) (par (par k)) = G (par (par k)) := by simp only [swp]; rw [if_neg (by omega), if_neg (by omega)]
    have q := h.ok (par k) hp0 (by omega) (by omega)
    rw [e4]
    by_cases e : c = k
    · subst e
      have e1 : swp G c (par c) c = G (par c) := by simp [swp]
      rw [e1]; exact q
    · have hcp : c ≠ par k := by simp only [par] at hpc hp ⊢; omega
      have e1 : swp G k (par k) c = G c := by simp only [swp]; rw [if_neg e, if_neg hcp]
      rw [e1]
      have q2 := h.ok c c0 hc e
      rw [hpc] at q2
      exact ahd_ntr o q2 q
theorem Sinking.done {G : Nat → α × Nat} {n k : Nat} (h : Sinking lt G n k) (hk : ∀ c, c < n → 0 < c → par c = k → ahd lt (G c) (G k) = false) : Shape lt G n := fun i h0 hi => by
  by_cases e : par i = k
  · rw [e]; exact hk i hi h0 e
  · exact h.ok i h0 hi e
theorem Sinking.step (o : Ord lt) {G : Nat → α × Nat} {n k f : Nat} (h : Sinking lt G n k) (hf0 : 0 < f) (hf : f < n) (hpf : par f = k) (ha : ahd lt (G f) (G k) = true) (hm : ∀ c, c < n → 0 < c → par c = k → ahd lt (G c) (G f) = false) : Sinking lt (swp G k f) n f := by
  have hp : k < f := by simp only [par] at hpf; omega
  have rev := ahd_asym o ha
  refine ⟨fun i i0 hi hne => ?_, fun _ c hc c0 hpc => ?_⟩
  · by_cases e : par i = k
    · have e2 : swp G k f (par i) = G f := by simp only [swp]; rw [if_pos e]
      rw [e2]
      by_cases e3 : i = f
      · subst e3
        have e1 : swp G k i i = G k := swp_r ..
        rw [e1]; exact rev
      · have e1 : swp G k f i = G i := by simp only [swp]; rw [if_neg (by simp only [par] at e; omega), if_neg e3]
        rw [e1]; exact hm i hi i0 e
    · have e2 : swp G k f (par i) = G (par i) := by simp only [swp]; rw [if_neg e, if_neg hne]
      rw [e2]
      by_cases e3 : i = k
      · subst e3
        have e1 : swp G i f i = G f := swp_l ..
        rw [e1]; exact h.up i0 f hf hf0 hpf
      · have hif : i ≠ f := fun x => e (x ▸ hpf)
        have e1 : swp G k f i = G i := by simp only [swp]; rw [if_neg e3, if_neg hif]
        rw [e1]; exact h.ok i i0 hi e
  · have e2 : swp G k f (par f) = G f := by simp only [swp]; rw [if_pos hpf]
    have e1 : swp G k f c = G c := by simp only [swp]; rw [if_neg (by simp only [par] at hpc; omega), if_neg (by simp only [par] at hpc; omega)]
    rw [e1, e2]
    have q := h.ok c c0 hc (by omega)
    rw [hpc] at q
    exact q
theorem Shape.root (o : Ord lt) {G : Nat → α × Nat} {n : Nat} (h : Shape lt G n) : ∀ i, i < n → ahd lt (G i) (G 0) = false := by
  intro i
  induction i using Nat.strongRecOn with
  | ind i ih =>
    intro hi
    by_cases e : i = 0
    · subst e; exact ahd_irr o _
    · exact ahd_ntr o (h i (by omega) hi) (ih (par i) (by simp only [par]; omega) (by simp only [par]; omega))

/-! what is least of a list -/
def Lst (lt : α → α → Bool) (l : List α) (k : Nat) (x : α) : Prop :=
  l[k]? = some x ∧ (∀ j y, j < k → l[j]? = some y → lt x y = true) ∧ ∀ j y, k < j → l[j]? = some y → lt y x = false
def pop (lt : α → α → Bool) : List α → Option (α × List α)
  | [] => none
  | x :: t => match pop lt t with
    | none => some (x, [])
    | some (y, r) => if lt y x then some (y, x :: r) else some (x, t)
theorem pop_none {l : List α} (h : pop lt l = none) : l = [] := by
  cases l with
  | nil => rfl
  | cons x t =>
    simp only [pop] at h
    split at h
    · cases h
    · split at h <;> cases h
theorem pop_lst (o : Ord lt) : ∀ {l : List α} {x : α} {r : List α}, pop lt l = some (x, r) → ∃ k, Lst lt l k x ∧ r = l.eraseIdx k
  | [], x, r, h => by simp [pop] at h
  | a :: t, x, r, h => by
    simp only [pop] at h
    split at h
    · next hn =>
      have := pop_none hn
      subst this
      simp only [Option.some.injEq, Prod.mk.injEq] at h
      obtain ⟨rfl, rfl⟩ := h
      exact ⟨0, ⟨rfl, fun j y hj => by omega, fun j y hj hy => by obtain ⟨j, rfl⟩ : ∃ i, j = i + 1 := ⟨j - 1, by omega⟩; simp at hy⟩, rfl⟩
    · next y r' hs =>
      obtain ⟨k, ⟨h1, h2, h3⟩, rfl⟩ := pop_lst o hs
      split at h
      · next hl =>
        simp only [Option.some.injEq, Prod.mk.injEq] at h
        obtain ⟨rfl, rfl⟩ := h
        refine ⟨k + 1, ⟨by simpa using h1, fun j z hj hz => ?_, fun j z hj hz => ?_⟩, by simp⟩
        · rcases j with _ | j
          · simp at hz; subst hz; exact hl
          · exact h2 j z (by omega) (by simpa using hz)
        · obtain ⟨j, rfl⟩ : ∃ i, j = i + 1 := ⟨j - 1, by omega⟩
          exact h3 j z (by omega) (by simpa using hz)
      · next hl =>
        simp only [Option.some.injEq, Prod.mk.injEq] at h
        obtain ⟨rfl, rfl⟩ := h
        have hl : lt y a = false := by simpa using hl
        refine ⟨0, ⟨rfl, fun j z hj => by omega, fun j z hj hz => ?_⟩, rfl⟩
        obtain ⟨j, rfl⟩ : ∃ i, j = i + 1 := ⟨j - 1, by omega⟩
        have hz : t[j]? = some z := by simpa using hz
        cases hx : lt z a with
        | false => rfl
        | true =>
          rcases Nat.lt_trichotomy j k with e | e | e
          · rw [o.tr (h2 j z e hz) hx] at hl; cases hl
          · subst e; rw [h1] at hz; injection hz with hz; subst hz; rw [hl] at hx; cases hx
          · rcases o.cot _ _ y hx with q | q
            · rw [h3 j z e hz] at q; cases q
            · rw [hl] at q; cases q
theorem lst_unique {l : List α} {k k' : Nat} {x x' : α} (h : Lst lt l k x) (h' : Lst lt l k' x') : k = k' ∧ x = x' := by
  have e : k = k' := by
    rcases Nat.lt_trichotomy k k' with e | e | e
    · have a := h'.2.1 k x e h.1
      have b := h.2.2 k' x' e h'.1
      rw [a] at b; cases b
    · exact e
    · have a := h.2.1 k' x' e h'.1
      have b := h'.2.2 k x e h.1
      rw [a] at b; cases b
  subst e
  have := h.1.symm.trans h'.1
  exact ⟨rfl, by injection this⟩
theorem pop_of (o : Ord lt) {l : List α} {k : Nat} {x : α} (h : Lst lt l k x) : pop lt l = some (x, l.eraseIdx k) := by
  rcases e : pop lt l with _ | ⟨y, r⟩
  · rw [pop_none e] at h; simp [Lst] at h
  · obtain ⟨k', h', rfl⟩ := pop_lst o e
    obtain ⟨rfl, rfl⟩ := lst_unique h h'
    rfl

/-! the nodes of a heap against the items in the order of their coming in -/
/-- these nodes are these items, with rising turns -/
def Bag (A : List (α × Nat)) (I : List α) (p : Nat) : Prop := ∃ L : List (α × Nat), A.Perm L ∧ L.Pairwise (fun a b => a.2 < b.2) ∧ (∀ x ∈ L, x.2 ≤ p) ∧ L.map (·.1) = I
theorem Bag.nil : Bag ([] : List (α × Nat)) [] 0 := ⟨[], .refl _, .nil, by simp, rfl⟩
theorem Bag.len {A : List (α × Nat)} {I : List α} {p : Nat} (h : Bag A I p) : A.length = I.length := by
  obtain ⟨L, h1, _, _, rfl⟩ := h
  rw [h1.length_eq]; simp
theorem Bag.perm {A B : List (α × Nat)} {I : List α} {p : Nat} (h : Bag A I p) (k : B.Perm A) : Bag B I p := by
  obtain ⟨L, h1, h2⟩ := h
  exact ⟨L, k.trans h1, h2⟩
theorem Bag.push {A : List (α × Nat)} {I : List α} {p : Nat} (h : Bag A I p) (x : α) : Bag (A ++ [(x, p + 1)]) (I ++ [x]) (p + 1) := by
  obtain ⟨L, h1, h2, h3, rfl⟩ := h
  refine ⟨L ++ [(x, p + 1)], h1.append (.refl _), ?_, fun y hy => ?_, by simp⟩
  · rw [List.pairwise_append]
    exact ⟨h2, by simp, fun a ha b hb => by simp at hb; subst hb; have := h3 a ha; show a.2 < p + 1; omega⟩
  · rcases List.mem_append.1 hy with hy | hy
    · have := h3 y hy; omega
    · simp at hy; subst hy; exact Nat.le_refl _
/-- the node that no other comes ahead of is the least item; what is left without it -/
theorem Bag.pop (o : Ord lt) {a : α × Nat} {A : List (α × Nat)} {I : List α} {p : Nat} (h : Bag (a :: A) I p) (hr : ∀ x ∈ a :: A, ahd lt x a = false) : ∃ J, Hp.pop lt I = some (a.1, J) ∧ Bag A J p := by
  obtain ⟨L, h1, h2, h3, rfl⟩ := h
  have ha : a ∈ L := h1.mem_iff.1 (by simp)
  obtain ⟨k, hk⟩ := List.mem_iff_getElem?.1 ha
  have hkl := (List.getElem?_eq_some_iff.1 hk).1
  have hmin : ∀ (j : Nat) y, L[j]? = some y → ahd lt y a = false := fun j y hy => hr y (h1.mem_iff.2 (List.mem_of_getElem? hy))
  have hord : ∀ (i j : Nat) y z, i < j → L[i]? = some y → L[j]? = some z → y.2 < z.2 := fun i j y z hij hy hz => by
    obtain ⟨b1, e1⟩ := List.getElem?_eq_some_iff.1 hy
    obtain ⟨b2, e2⟩ := List.getElem?_eq_some_iff.1 hz
    have := List.pairwise_iff_getElem.1 h2 i j b1 b2 hij
    rw [e1, e2] at this; exact this
  have hL : Lst lt (L.map (·.1)) k a.1 := by
    refine ⟨by simp [hk], fun j y hj hy => ?_, fun j y hj hy => ?_⟩
    · rw [List.getElem?_map] at hy
      rcases e : L[j]? with _ | z
      · rw [e] at hy; cases hy
      · rw [e] at hy
        have hy : z.1 = y := by injection hy
        subst hy
        have q := hmin j z e
        have := hord j k z a hj e hk
        unfold ahd at q
        rw [if_pos this] at q
        simpa using q
    · rw [List.getElem?_map] at hy
      rcases e : L[j]? with _ | z
      · rw [e] at hy; cases hy
      · rw [e] at hy
        have hy : z.1 = y := by injection hy
        subst hy
        have q := hmin j z e
        have := hord k j a z hj hk e
        unfold ahd at q
        rw [if_neg (by omega)] at q
        exact q
  refine ⟨_, pop_of o hL, L.eraseIdx k, ?_, h2.sublist (List.eraseIdx_sublist ..), fun x hx => h3 x ((List.eraseIdx_sublist ..).subset hx), map_erase ..⟩
  have e : L.Perm (a :: L.eraseIdx k) := erase_perm hk
  exact (List.perm_cons a).1 (h1.trans e)
end
end Hp
end Go.Proofs.YtohfhkdhccpoaaaGreatDoor
/- Layer 8: what serves every heap, whatever it is of. No walk. -/
namespace Go.Proofs.YtohfhkdhccpoaaaGreatDoor
open Go.RowKit
namespace Hp
theorem wp_region_below {P : Program} {id : Nat} {Q : Exit → Act → World → Prop} {a : Act} {w : World} {l : List Oper} (hm : P.follows .mixedOrders = true) (hB : Region.lexB .any l.toArray = true)
    (h : wpQuiet P l.toArray (fun W' => Below w.heap.size w W') (fun a' => ∀ w', Below w.heap.size w w' → Q .normal a' w') l a) : (Code.region id l.toArray true).wp P Q a w :=
  wp_region_quiet (C := fun W' => Below w.heap.size w W') hm hB ((Below.refl _ w).drew) (by simpa using h)
theorem calls_keep {f : FuncId} {args : Array Value} {w0 W : World} {v : Value} (h : Calls Tryz.prog f args W fun e w' => e = .returned v ∧ Below W.heap.size W w') (hW : Below w0.heap.size w0 W) : Calls Tryz.prog f args W fun e w'' => e = .returned v ∧ Below w0.heap.size w0 w'' :=
  h.mono fun _ _ ⟨he, hb⟩ => ⟨he, hW.trans (hb.mono hW.size)⟩
theorem gen_world {P : Program} {c : Code} {Q : Exit → Act → World → Prop} {a : Act} {W : World} (h : ∀ V, V = W → Code.wp P c Q a V) : Code.wp P c Q a W := h W rfl
theorem cell_old {W : World} {o : Obj} {p : Addr} {v : Value} (h : W.cell? p = some v) (hl : p.block < W.heap.size) : (W.alloc o).cell? p = some v := by
  rw [World.cell?_of_block (w := W) (Below.heap_alloc W o p.block hl)]; exact h
theorem two_new (w : World) (A B : Array Value) (s t : TypeId) :
    (∀ k, ((w.alloc (.cells A s)).alloc (.cells B t)).cell? ⟨w.heap.size, k, none⟩ = A[k]?) ∧ (∀ k, ((w.alloc (.cells A s)).alloc (.cells B t)).cell? ⟨w.heap.size + 1, k, none⟩ = B[k]?) ∧ (∀ p v, w.cell? p = some v → p.block < w.heap.size → ((w.alloc (.cells A s)).alloc (.cells B t)).cell? p = some v) ∧ Below w.heap.size w ((w.alloc (.cells A s)).alloc (.cells B t)) ∧ ((w.alloc (.cells A s)).alloc (.cells B t)).heap.size = w.heap.size + 2 := by
  refine ⟨fun k => by simp, fun k => World.cell?_alloc_at _ _ _ _ (by simp), fun p v h hl => cell_old (cell_old h hl) (by simp; omega), ((Below.refl _ w).alloc (Nat.le_refl _) _).alloc (by simp) _, by simp⟩
/-- all is as it was but for blocks of F and new ones -/
structure Chg (F : Nat → Prop) (w w' : World) : Prop where
  os : w'.os = w.os
  tape : w'.tape = w.tape
  output : w'.output = w.output
  size : w.heap.size ≤ w'.heap.size
  block : ∀ k, k < w.heap.size → ¬ F k → w'.heap[k]? = w.heap[k]?
theorem Chg.refl (F : Nat → Prop) (w : World) : Chg F w w := ⟨rfl, rfl, rfl, Nat.le_refl _, fun _ _ _ => rfl⟩
/-- F, and what is new -/
def Up (F : Nat → Prop) (w w' : World) (b : Nat) : Prop := F b ∨ (w.heap.size ≤ b ∧ b < w'.heap.size)
theorem Chg.trans {F : Nat → Prop} {a b c : World} (h : Chg F a b) (k : Chg (Up F a b) b c) : Chg F a c :=
  ⟨k.os.trans h.os, k.tape.trans h.tape, k.output.trans h.output, Nat.le_trans h.size k.size, fun i hi hn =>
    (k.block i (Nat.lt_of_lt_of_le hi h.size) (fun e => e.elim hn (fun e => by omega))).trans (h.block i hi hn)⟩
theorem Chg.then {F : Nat → Prop} {a b c : World} (h : Chg F a b) (k : Chg F b c) : Chg F a c :=
  ⟨k.os.trans h.os, k.tape.trans h.tape, k.output.trans h.output, Nat.le_trans h.size k.size, fun i hi hn =>
    (k.block i (Nat.lt_of_lt_of_le hi h.size) hn).trans (h.block i hi hn)⟩
theorem Chg.mono {F G : Nat → Prop} {a b : World} (h : Chg F a b) (hs : ∀ k, F k → G k) : Chg G a b := ⟨h.os, h.tape, h.output, h.size, fun i hi hn => h.block i hi fun e => hn (hs i e)⟩
theorem Chg.of_below {F : Nat → Prop} {a b : World} (h : Below a.heap.size a b) : Chg F a b := ⟨h.os, h.tape, h.output, h.size, fun i hi _ => h.block i hi⟩
theorem Chg.below {F : Nat → Prop} {a b : World} {B : Nat} (h : Chg F a b) (hB : B ≤ a.heap.size) (hF : ∀ k, F k → B ≤ k) : Below B a b :=
  ⟨h.os, h.tape, h.output, h.size, fun i hi => h.block i (by omega) fun e => by have := hF i e; omega⟩
theorem Chg.alloc {F : Nat → Prop} {a b : World} (h : Chg F a b) (o : Obj) : Chg F a (b.alloc o) :=
  ⟨h.os, h.tape, h.output, Nat.le_trans h.size (by simp), fun i hi hn => (Below.heap_alloc b o i (Nat.lt_of_lt_of_le hi h.size)).trans (h.block i hi hn)⟩
theorem Chg.drew {F : Nat → Prop} {a b : World} (h : Chg F a b) : Chg F a b.drew := ⟨h.os, h.tape, h.output, h.size, h.block⟩
theorem Chg.setCell {F : Nat → Prop} {a b : World} (h : Chg F a b) {p : Addr} (hp : F p.block ∨ a.heap.size ≤ p.block) (u : Value) : Chg F a (b.setCell p u) :=
  ⟨h.os, h.tape, h.output, Nat.le_trans h.size (by simp [World.setCell]), fun i hi hn => (Below.heap_setCell b p u i (fun e => by subst e; rcases hp with hp | hp; exact hn hp; omega)).trans (h.block i hi hn)⟩
theorem Chg.grown {F : Nat → Prop} {a b c : World} {row : Option Nat} (h : Chg F a b) (hg : b.grownBy c row) (hr : ∀ k, row = some k → F k ∨ a.heap.size ≤ k) : Chg F a c :=
  ⟨hg.os.trans h.os, hg.tape.trans h.tape, hg.output.trans h.output, Nat.le_trans h.size hg.size, fun i hi hn =>
    (hg.block i (Nat.lt_of_lt_of_le hi h.size) (fun e => by rcases hr i e.symm with e | e; exact hn e; omega)).trans (h.block i hi hn)⟩
theorem own_kept {W W' : World} {B : Nat} {e : TypeId} {size n : Nat} {v : Value} {xs : List Value} (h : W.ownsRow B e size v n xs) (hb : ∀ g, v.ownBlock = some g → W'.heap[g]? = W.heap[g]?) : W'.ownsRow B e size v n xs := by
  obtain ⟨hl, ⟨e1, e2⟩ | ⟨g, cap, cur, e1, h1, hg, r⟩⟩ := h
  · exact ⟨hl, .inl ⟨e1, e2⟩⟩
  · exact ⟨hl, .inr ⟨g, cap, cur, e1, h1, (hb g (by rw [e1]; rfl)).trans hg, r⟩⟩
theorem set_heap1 {W : World} {g k : Nat} {cur : Array Value} {t : TypeId} {fz : Nat × Nat} (h : W.heap[g]? = some (.cells cur t fz)) (v : Value) : (W.setCell ⟨g, k, none⟩ v).heap[g]? = some (.cells (cur.setIfInBounds k v) t fz) := by
  simp only [World.setCell, Array.getElem?_modify, if_true, h, Option.map_some]
  simp
theorem own_slice {w : World} {B : Nat} {e : TypeId} {size n : Nat} {v : Value} {xs : List Value} (h : w.ownsRow B e size v n xs) : ∃ a c, v = .slice a n c := by
  rcases h.2 with ⟨e1, e2⟩ | ⟨g, cap, cur, e1, _⟩
  · exact ⟨none, 0, by rw [e1, e2]⟩
  · exact ⟨_, _, e1⟩

theorem gen_post {P : Program} {f : Func} {R : Ending → World → Prop} {e : Exit} {a : Act} {W : World} (h : ∀ V, V = W → bodyPost P f R e a V) : bodyPost P f R e a W := h W rfl
/-- append to a row of one's own, and where the row lies behind it -/
theorem append_blk {P : Program} (W : World) (t ty e : TypeId) (i : TypeInfo) (z : Value) (size bytes : Nat) (ht : P.underlying t = some (.slice e)) (hi : P.info? e = some i) (hz : i.zero = some z)
    (hsize : i.size = size) (hby : i.bytes = bytes) (hzs : z.cells.size = size) (hsz : 0 < size)
    (v : Value) (n : Nat) (xs : List Value) (hown : W.ownsRow 0 e size v n xs)
    (a : Addr) (m c : Nat) (news : List Value) (hl : news.length = m * size) (hnews : ∀ j u, news[j]? = some u → W.cell? (a.add j) = some u) (h1 : ∀ u ∈ news, u.oneCell' = true)
    (h63 : n + m ≤ maxLen) (hbytes : (n + m) * bytes ≤ 140737488355328) :
    ∃ v' W', (Builtin.append_ #[t, t] ty #[v, .slice (some a) m c]).run P W = .ok v' W' ∧ W'.ownsRow 0 e size v' (n + m) (xs ++ news) ∧ W.grownBy W' v.ownBlock ∧ (v'.ownBlock = v.ownBlock ∨ v'.ownBlock = some W.heap.size) := by
  obtain ⟨v', W', hr, h2, h3, h4⟩ := run_append_own (P := P) W 0 t ty e i z size bytes ht hi hz hsize hby hzs hsz v n xs hown a m c news hl hnews h1 h63 hbytes (Nat.zero_le _)
  refine ⟨v', W', hr, h2, h3, ?_⟩
  subst hsize hby
  rcases hown.2 with ⟨rfl, rfl⟩ | ⟨g, cap, cur, rfl, hbg, hg, hnc, hcm, hcs, htake⟩
  · by_cases hm : m = 0
    · left
      have := h4.2 ⟨rfl, hm⟩
      rw [this]
    · right
      have q := run_append_nil (P := P) W t ty e i z ht hi hz a m c news hl hnews (by omega) (by unfold maxLen at h63; omega) (by have hb := hbytes; simp only [Nat.zero_add] at hb; omega)
      rw [hr] at q
      injection q with q _
      rw [q]; rfl
  · by_cases hroom : n + m ≤ cap
    · left
      have hfit : n * i.size + news.length ≤ cur.size := by rw [hl, hcs, ← Nat.add_mul]; exact Nat.mul_le_mul_right _ hroom
      have q := run_append_room (P := P) W t ty e i ht hi g n cap cur hg a m c news hl hnews h1 hroom hfit
      rw [hr] at q
      injection q with q _
      rw [q]; rfl
    · right
      have q := run_append_grow (P := P) W t ty e i z ht hi hz ⟨g, 0, none⟩ n cap xs hown.1 (hown.cells (g := g) rfl) a m c news hl hnews (by omega) (by unfold maxLen at h63; omega) (growslice_fits (by unfold maxLen at h63; omega) hbytes)
      rw [hr] at q
      injection q with q _
      rw [q]; rfl
theorem addr0 (g j : Nat) : (⟨g, 0, none⟩ : Addr).add j = ⟨g, j, none⟩ := by
  unfold Addr.add
  split
  · next h => subst h; rfl
  · simp
theorem addrO (g o j : Nat) : (⟨g, o, none⟩ : Addr).add j = ⟨g, o + j, none⟩ := by
  unfold Addr.add
  split
  · next h => subst h; rfl
  · simp
theorem step_app {P : Program} {ops : Array Oper} {o : Oper} {a : Act} {w : World} {K : Act → World → Prop} {Q : Exit → Act → World → Prop} {E : Prop}
    (hg : o.guard = none) (s x : Operand) (t : TypeId) (hop : o.op = Op.call { callee := Callee.builtin Builtin.append, args := #[s, x], argTypes := #[t, t] })
    (v u v' : Value) (w' : World) (hs : a.eval s = v) (hx : a.eval x = u) (hrun : (Builtin.append_ #[t, t] o.type #[v, u]).run P w = .ok v' w') (hK : K (a.put o.dst v') w') :
    if Region.wanted o (yielded ops a.tmps) = true then Oper.wp P o a w K Q else E := by
  have hw : Region.wanted o (yielded ops a.tmps) = true := by simp [Region.wanted, hg]
  rw [if_pos hw]
  unfold Oper.wp
  simp [execOp, hop, resolve, invoke, builtin, hs, hx, hrun, Result.andThen]
  exact hK
theorem step_call2 {P : Program} {ops : Array Oper} {o : Oper} {a : Act} {w : World} {K : Act → World → Prop} {Q : Exit → Act → World → Prop} {E : Prop}
    (hg : o.guard = none) (f : FuncId) (x y : Operand) (ts : Array TypeId) (hop : o.op = Op.call { callee := Callee.value (Operand.func f), args := #[x, y], argTypes := ts })
    (u v : Value) (hx : a.eval x = u) (hy : a.eval y = v) (hent : ∀ W : World, Sem.run P (callFunc f #[u, v]) W = .ok (.enter f #[u, v]) W) (hc : Calls P f #[u, v] w fun e w' => ∃ r, e = .returned r ∧ K (a.put o.dst r) w') :
    if Region.wanted o (yielded ops a.tmps) = true then Oper.wp P o a w K Q else E := by
  have hw : Region.wanted o (yielded ops a.tmps) = true := by simp [Region.wanted, hg]
  rw [if_pos hw]
  unfold Oper.wp
  have e : (execOp a.eval o).run P w = .ok (.enter f #[u, v]) w := by
    simp [execOp, hop, resolve, invoke, BigFrame.eval_func, Deferred.ofValue, hx, hy, hent]
  rw [e]
  unfold Oper.upon
  refine hc.mono ?_
  rintro e w' ⟨r, rfl, h⟩
  exact h
theorem up_up {F : Nat → Prop} {a b c : World} (h1 : a.heap.size ≤ b.heap.size) (h2 : b.heap.size ≤ c.heap.size) (k : Nat) : Up (Up F a b) b c k → Up F a c k := by
  unfold Up
  rintro ((h | h) | h)
  · exact .inl h
  · exact .inr ⟨h.1, by omega⟩
  · exact .inr ⟨by omega, h.2⟩
theorem gen_then {K : Act → World → Prop} {Q : Exit → Act → World → Prop} {e : Exit} {a : Act} {W : World} (h : ∀ V, V = W → Exit.then K Q e a V) : Exit.then K Q e a W := h W rfl
theorem cells2 {W : World} {b : Nat} {x y : Value} {t : TypeId} (h : W.heap[b]? = some (.cells #[x, y] t (0, 0))) : W.cell? ⟨b, 0, none⟩ = some x ∧ W.cell? ⟨b, 1, none⟩ = some y ∧ (∀ k, W.frozen? ⟨b, k, none⟩ = false) ∧ b < W.heap.size := by
  refine ⟨?_, ?_, fun k => ?_, (Array.getElem?_eq_some_iff.1 h).1⟩ <;> simp [World.cell?, World.frozen?, h]
theorem new2 (w : World) (A B : Array Value) (s t : TypeId) : ((w.alloc (.cells A s)).alloc (.cells B t)).heap[w.heap.size]? = some (.cells A s (0, 0)) ∧ ((w.alloc (.cells A s)).alloc (.cells B t)).heap[w.heap.size + 1]? = some (.cells B t (0, 0)) := by
  constructor
  · rw [Below.heap_alloc _ _ _ (by simp)]; exact (MapKept.heap_alloc w _).1
  · have := (MapKept.heap_alloc (w.alloc (.cells A s)) (.cells B t)).1
    simpa using this
theorem wpList_append_run {P : Program} {w : World} {ops : Array Oper} {rest : List Oper} {o : Oper} {a : Act} {Q : Exit → Act → World → Prop} (hgd : o.guard = none) (s x : Operand) (t t' : TypeId)
    (ho : o.op = .call { callee := .builtin .append, args := #[s, x], argTypes := #[t, t'] }) (v f : Value) (hs : a.eval s = v) (hx : a.eval x = f) (v2 : Value) (w2 : World) (hrun : (Builtin.append_ #[t, t'] o.type #[v, f]).run P w = .ok v2 w2)
    (h : wpList P ops Q rest (a.put o.dst v2) w2) : wpList P ops Q (o :: rest) a w := by
  refine wpList_plain hgd fun K hK => ?_
  unfold Oper.wp
  simp [execOp, ho, resolve, invoke, builtin, hs, hx, hrun, Result.andThen]
  exact hK _ _ h
end Hp
end Go.Proofs.YtohfhkdhccpoaaaGreatDoor
/- Layer 8, a heap of cursors: what its order rests upon; ahead. -/
namespace Go.Proofs.YtohfhkdhccpoaaaGreatDoor
open Go.RowKit
namespace Hpc
open Hp
def Hid (p : Prop) : Prop := p
theorem hide {p : Prop} (h : p) : Hid p := h
theorem unhide {p : Prop} (h : Hid p) : p := h
/-- a cursor: the list's words, and what texts they mean -/
structure Cu where
  ao : Option Addr
  n : Nat
  c : Nat
  L : List ByteArray
abbrev It := Cu
abbrev Nd := It × Nat
abbrev cu0 : Cu := ⟨none, 0, 0, []⟩
instance : Inhabited Cu := ⟨cu0⟩
/-- what the heap's less rests upon: which cursors may be in it, and what holds of memory, in blocks that are not N -/
structure Cx where
  Z : Cu → Prop
  K : World → Prop
  N : Nat → Prop
  D : Nat
  new : ∀ b, D ≤ b → N b
  keeps : ∀ W W', K W → W.heap.size ≤ W'.heap.size → (∀ b, b < W.heap.size → ¬ N b → W'.heap[b]? = W.heap[b]?) → K W'
/-- a less that is handed in, and the order that it is -/
structure Les (C : Cx) (f : FuncId) (lt : It → It → Bool) : Prop where
  ord : Ord lt
  nil : ∀ W : World, Sem.run Tryz.prog (binOp .eql 214 (.func (.func f) #[] #[]) .nilFunc) W = .ok (.bool false) W
  ent : ∀ (x y : Value) (W : World), Sem.run Tryz.prog (callFunc f #[x, y]) W = .ok (.enter f #[x, y]) W
  call : ∀ (a b : It) (W : World), C.Z a → C.Z b → C.K W → Calls Tryz.prog f #[.slice a.ao a.n a.c, .slice b.ao b.n b.c] W fun e w' => e = .returned (.bool (lt a b)) ∧ Below W.heap.size W w'
theorem Cx.below (C : Cx) {W W' : World} (h : C.K W) (k : Below W.heap.size W W') : C.K W' := C.keeps W W' h k.size fun b hb _ => k.block b hb
variable {C : Cx}
set_option maxRecDepth 100000 in
set_option maxHeartbeats 1000000 in
theorem ahead_fn {f : FuncId} {lt : It → It → Bool} (L : Les C f lt) {w : World} {hb : Nat} (hc : w.cell? ⟨hb, 0, none⟩ = some (.func (.func f) #[] #[])) (hl : hb < w.heap.size) (a b : Nd) (za : C.Z a.1) (zb : C.Z b.1) (hK : C.K w) :
    Calls Tryz.prog 167 #[.pointer (some ⟨hb, 0, none⟩), .agg #[.slice a.1.ao a.1.n a.1.c, .int .i64 a.2], .agg #[.slice b.1.ao b.1.n b.1.c, .int .i64 b.2]] w fun e w' => e = .returned (.bool (ahd lt a b)) ∧ Below w.heap.size w w' := by
  have hnil := L.nil
  have hent := L.ent
  have HL : Hid (∀ W, Below w.heap.size w W → (Calls Tryz.prog f #[.slice a.1.ao a.1.n a.1.c, .slice b.1.ao b.1.n b.1.c] W fun e w' => e = .returned (.bool (lt a.1 b.1)) ∧ Below W.heap.size W w') ∧ Calls Tryz.prog f #[.slice b.1.ao b.1.n b.1.c, .slice a.1.ao a.1.n a.1.c] W fun e w' => e = .returned (.bool (lt b.1 a.1)) ∧ Below W.heap.size W w') := fun W hW => ⟨L.call _ _ W za zb (C.below hK hW), L.call _ _ W zb za (C.below hK hW)⟩
  have HC := hide hc
  clear L za zb hK
  by_cases h : a.2 < b.2
  · have e : ahd lt a b = !lt b.1 a.1 := by unfold ahd; rw [if_pos h]
    rw [e]
    have hz : (a.2 : Int) < (b.2 : Int) := by omega
    clear h e
    go_enter Tryz.func167, Tryz.ntmps167
    go_wp2
    clear hc
    refine gen_world ?_
    intro V hV
    obtain ⟨t1, t2, t3, t4, t5⟩ := two_new w #[.slice a.1.ao a.1.n a.1.c, .int .i64 a.2] #[.slice b.1.ao b.1.n b.1.c, .int .i64 b.2] 229 229
    rw [← hV] at t1 t2 t3 t4 t5
    have s0 := t3 _ _ (unhide HC) hl
    have s1 : V.cell? ⟨w.heap.size, 0, none⟩ = some (.slice a.1.ao a.1.n a.1.c) := t1 0
    have s3 : V.cell? ⟨w.heap.size + 1, 0, none⟩ = some (.slice b.1.ao b.1.n b.1.c) := t2 0
    have HB := hide t4
    have HZ := hide t5
    clear t1 t2 t3 t4 t5 hV
    go_region_held3 (fun w' => w'.cell? ⟨hb, 0, none⟩ = some (.func (.func f) #[] #[]) ∧ w'.cell? ⟨w.heap.size, 0, none⟩ = some (.slice a.1.ao a.1.n a.1.c) ∧ w'.cell? ⟨w.heap.size + 1, 0, none⟩ = some (.slice b.1.ao b.1.n b.1.c))
      (first | exact ⟨s0, s1, s3⟩ | exact k3)
      (first | (refine (unhide HL _ ((unhide HB).trans ((Below.refl _ _).drew.mono (unhide HB).size))).2.mono ?_; rintro e w3 ⟨rfl, hb3⟩; have k3 := (⟨(hb3.cell (p := ⟨hb, 0, none⟩) (by show hb < V.heap.size; rw [unhide HZ]; omega)).trans s0, (hb3.cell (p := ⟨w.heap.size, 0, none⟩) (by show w.heap.size < V.heap.size; rw [unhide HZ]; omega)).trans s1, (hb3.cell (p := ⟨w.heap.size + 1, 0, none⟩) (by show w.heap.size + 1 < V.heap.size; rw [unhide HZ]; omega)).trans s3⟩ : _ ∧ _ ∧ _); have HB3 := hide hb3; clear hb3))
    go_wp2
    go_ret
    exact ⟨rfl, (unhide HB).trans (((Below.refl _ _).drew.trans (unhide HB3)).mono (unhide HB).size)⟩
  · have e : ahd lt a b = lt a.1 b.1 := by unfold ahd; rw [if_neg h]
    rw [e]
    have hz : ¬ (a.2 : Int) < (b.2 : Int) := by omega
    clear h e
    go_enter Tryz.func167, Tryz.ntmps167
    go_wp2
    clear hc
    refine gen_world ?_
    intro V hV
    obtain ⟨t1, t2, t3, t4, t5⟩ := two_new w #[.slice a.1.ao a.1.n a.1.c, .int .i64 a.2] #[.slice b.1.ao b.1.n b.1.c, .int .i64 b.2] 229 229
    rw [← hV] at t1 t2 t3 t4 t5
    have s0 := t3 _ _ (unhide HC) hl
    have s1 : V.cell? ⟨w.heap.size, 0, none⟩ = some (.slice a.1.ao a.1.n a.1.c) := t1 0
    have s3 : V.cell? ⟨w.heap.size + 1, 0, none⟩ = some (.slice b.1.ao b.1.n b.1.c) := t2 0
    have HB := hide t4
    have HZ := hide t5
    clear t1 t2 t3 t4 t5 hV
    go_region_held3 (fun w' => w'.cell? ⟨hb, 0, none⟩ = some (.func (.func f) #[] #[]) ∧ w'.cell? ⟨w.heap.size, 0, none⟩ = some (.slice a.1.ao a.1.n a.1.c) ∧ w'.cell? ⟨w.heap.size + 1, 0, none⟩ = some (.slice b.1.ao b.1.n b.1.c))
      (first | exact ⟨s0, s1, s3⟩ | exact k3)
      (first | (refine (unhide HL _ ((unhide HB).trans ((Below.refl _ _).drew.mono (unhide HB).size))).1.mono ?_; rintro e w3 ⟨rfl, hb3⟩; have k3 := (⟨(hb3.cell (p := ⟨hb, 0, none⟩) (by show hb < V.heap.size; rw [unhide HZ]; omega)).trans s0, (hb3.cell (p := ⟨w.heap.size, 0, none⟩) (by show w.heap.size < V.heap.size; rw [unhide HZ]; omega)).trans s1, (hb3.cell (p := ⟨w.heap.size + 1, 0, none⟩) (by show w.heap.size + 1 < V.heap.size; rw [unhide HZ]; omega)).trans s3⟩ : _ ∧ _ ∧ _); have HB3 := hide hb3; clear hb3))
    go_wp2
    go_ret
    exact ⟨rfl, (unhide HB).trans (((Below.refl _ _).drew.trans (unhide HB3)).mono (unhide HB).size)⟩

/-- a heap's own less as the order that it is -/
def LessV (C : Cx) (fv : Value) (lt : It → It → Bool) : Prop := ∃ f, fv = .func (.func f) #[] #[] ∧ Les C f lt
theorem LessV.ord {fv : Value} {lt : It → It → Bool} (h : LessV C fv lt) : Ord lt := by
  obtain ⟨f, _, h⟩ := h
  exact h.ord
theorem ahead_any {fv : Value} {lt : It → It → Bool} (L : LessV C fv lt) {w : World} {hb : Nat} (hc : w.cell? ⟨hb, 0, none⟩ = some fv) (hl : hb < w.heap.size) (a b : Nd) (za : C.Z a.1) (zb : C.Z b.1) (hK : C.K w) :
    Calls Tryz.prog 167 #[.pointer (some ⟨hb, 0, none⟩), .agg #[.slice a.1.ao a.1.n a.1.c, .int .i64 a.2], .agg #[.slice b.1.ao b.1.n b.1.c, .int .i64 b.2]] w fun e w' => e = .returned (.bool (ahd lt a b)) ∧ Below w.heap.size w w' := by
  obtain ⟨f, rfl, h⟩ := L
  exact ahead_fn h hc hl a b za zb hK
end Hpc
end Go.Proofs.YtohfhkdhccpoaaaGreatDoor
/- Layer 8, a heap of cursors: what lies in memory. No walk. -/
namespace Go.Proofs.YtohfhkdhccpoaaaGreatDoor
open Go.RowKit
namespace Hpc
open Hp
variable {C : Cx}
/-! nodes in a row -/
def rowN (A : List Nd) : List Value := A.flatMap fun x => [.slice x.1.ao x.1.n x.1.c, .int .i64 x.2]
theorem rowN_cons (x : Nd) (A : List Nd) : rowN (x :: A) = .slice x.1.ao x.1.n x.1.c :: .int .i64 x.2 :: rowN A := rfl
theorem rowN_app (A B : List Nd) : rowN (A ++ B) = rowN A ++ rowN B := by simp [rowN]
theorem rowN_len (A : List Nd) : (rowN A).length = A.length * 2 := by
  induction A with
  | nil => rfl
  | cons x t ih => rw [rowN_cons]; simp [ih]; omega
theorem rowN_get {A : List Nd} {j : Nat} {x : Nd} (h : A[j]? = some x) : (rowN A)[j * 2]? = some (.slice x.1.ao x.1.n x.1.c) ∧ (rowN A)[j * 2 + 1]? = some (.int .i64 x.2) := by
  induction A generalizing j with
  | nil => simp at h
  | cons y t ih =>
    rw [rowN_cons]
    rcases j with _ | j
    · have : y = x := by simpa using h
      subst this
      exact ⟨rfl, rfl⟩
    · have := ih (j := j) (by simpa using h)
      rw [show (j + 1) * 2 = j * 2 + 1 + 1 by omega]
      simpa using this
theorem rowN_set (A : List Nd) (i : Nat) (x : Nd) : ((rowN A).set (i * 2) (.slice x.1.ao x.1.n x.1.c)).set (i * 2 + 1) (.int .i64 x.2) = rowN (A.set i x) := by
  induction A generalizing i with
  | nil => simp [rowN]
  | cons y t ih =>
    rcases i with _ | i
    · rfl
    · have := ih i
      rw [rowN_cons, List.set_cons_succ, rowN_cons, ← this]
      rw [show (i + 1) * 2 = i * 2 + 1 + 1 by omega]
      rfl
theorem rowN_take (A : List Nd) (n : Nat) : (rowN A).take (n * 2) = rowN (A.take n) := by
  induction A generalizing n with
  | nil => simp [rowN]
  | cons y t ih =>
    rcases n with _ | n
    · simp [rowN]
    · rw [List.take_succ_cons, rowN_cons, rowN_cons, ← ih n, show (n + 1) * 2 = n * 2 + 1 + 1 by omega]
      rfl
def gd (A : List Nd) (i : Nat) : Nd := A.getD i (cu0, 0)
theorem gd_get {A : List Nd} {i : Nat} (h : i < A.length) : A[i]? = some (gd A i) := by simp [gd, h]
theorem gd_some {A : List Nd} {i : Nat} {x : Nd} (h : A[i]? = some x) : gd A i = x := by simp [gd, h]
theorem gd_set (A : List Nd) (i j : Nat) (x : Nd) (hi : i < A.length) : gd (A.set i x) j = if j = i then x else gd A j := by
  unfold gd
  simp only [List.getD_eq_getElem?_getD, List.getElem?_set]
  by_cases e : i = j
  · subst e; simp [hi]
  · simp [e, Ne.symm e]
/-- two nodes exchanged -/
def swl (A : List Nd) (i j : Nat) : List Nd := (A.set i (gd A j)).set j (gd A i)
theorem swl_len (A : List Nd) (i j : Nat) : (swl A i j).length = A.length := by simp [swl]
theorem swl_perm {A : List Nd} {i j : Nat} (hi : i < A.length) (hj : j < A.length) : (swl A i j).Perm A := by
  have e1 : gd A j = A[j] := by simp [gd, hj]
  have e2 : gd A i = A[i] := by simp [gd, hi]
  unfold swl
  rw [e1, e2]
  exact List.set_set_perm hi hj
theorem swl_gd {A : List Nd} {i j : Nat} (hi : i < A.length) (hj : j < A.length) : gd (swl A i j) = swp (gd A) i j := by
  funext t
  unfold swl swp
  rw [gd_set _ _ _ _ (by simpa using hj), gd_set _ _ _ _ hi]
  by_cases e1 : t = j
  · subst e1
    by_cases e2 : t = i
    · subst e2; simp
    · simp [e2]
  · by_cases e2 : t = i
    · subst e2; simp [e1]
    · simp [e1, e2]

/-- a heap at block hb: its less fv, its nodes A, its count p, in the blocks F -/
structure HIn (C : Cx) (w : World) (hb : Nat) (fv : Value) (A : List Nd) (p : Nat) (F : Nat → Prop) (nv : Value) : Prop where
  lt : ∀ b, F b → b < w.heap.size
  own : F hb
  obj : w.heap[hb]? = some (.cells #[fv, nv, .int .i64 p] 220 (0, 0))
  row : w.ownsRow 0 229 2 nv A.length (rowN A)
  rowF : ∀ g, nv.ownBlock = some g → F g
  zz : ∀ x ∈ A, C.Z x.1
  kw : C.K w
  fn : ∀ b, F b → C.N b
  sz : C.D ≤ w.heap.size
theorem own_set {α : Type} {A : List α} {i : Nat} {x : α} {P : α → Prop} (h : ∀ y ∈ A, P y) (hx : P x) : ∀ y ∈ A.set i x, P y := fun y hy => by
  rcases List.mem_or_eq_of_mem_set hy with e | e
  · exact h y e
  · rw [e]; exact hx
theorem HIn.kept {w w' : World} {hb : Nat} {fv nv : Value} {A : List Nd} {p : Nat} {F G : Nat → Prop} (h : HIn C w hb fv A p F nv) (hk : ∀ b, F b → w'.heap[b]? = w.heap[b]?) (hG : ∀ b, F b → G b) (hl : ∀ b, G b → b < w'.heap.size) (hK : C.K w') (hN : ∀ b, G b → C.N b) (hs : w.heap.size ≤ w'.heap.size) : HIn C w' hb fv A p G nv :=
  ⟨hl, hG _ h.own, (hk _ h.own).trans h.obj, own_kept h.row fun g hg => hk g (h.rowF g hg), fun g hg => hG g (h.rowF g hg), h.zz, hK, hN, Nat.le_trans h.sz hs⟩
theorem HIn.below {w w' : World} {hb : Nat} {fv nv : Value} {A : List Nd} {p : Nat} {F : Nat → Prop} (h : HIn C w hb fv A p F nv) (k : Below w.heap.size w w') : HIn C w' hb fv A p F nv :=
  h.kept (fun b hF => k.block b (h.lt b hF)) (fun _ x => x) (fun b hF => Nat.lt_of_lt_of_le (h.lt b hF) k.size) (C.below h.kw k) h.fn k.size
theorem HIn.drew {w : World} {hb : Nat} {fv nv : Value} {A : List Nd} {p : Nat} {F : Nat → Prop} (h : HIn C w hb fv A p F nv) : HIn C w.drew hb fv A p F nv := h.below (Below.refl _ _).drew
theorem hcells {w : World} {hb : Nat} {fv nv : Value} {p : Nat} (h : w.heap[hb]? = some (.cells #[fv, nv, .int .i64 p] 220 (0, 0))) :
    w.cell? ⟨hb, 0, none⟩ = some fv ∧ w.cell? ⟨hb, 1, none⟩ = some nv ∧ w.cell? ⟨hb, 2, none⟩ = some (.int .i64 p) ∧ (∀ k, w.frozen? ⟨hb, k, none⟩ = false) ∧ hb < w.heap.size := by
  refine ⟨?_, ?_, ?_, fun k => ?_, (Array.getElem?_eq_some_iff.1 h).1⟩ <;> simp [World.cell?, World.frozen?, h]
/-- the nodes as a walk reads them -/
theorem ncells {w : World} {hb g c : Nat} {fv : Value} {A : List Nd} {p : Nat} {F : Nat → Prop} (h : HIn C w hb fv A p F (.slice (some ⟨g, 0, none⟩) A.length c)) {G : Nat → Nd} (hG : G = gd A) :
    (∀ t, t < A.length → w.cell? ⟨g, t * 2, none⟩ = some (.slice (G t).1.ao (G t).1.n (G t).1.c)) ∧ (∀ t, t < A.length → w.cell? ⟨g, t * 2 + 1, none⟩ = some (.int .i64 (G t).2)) ∧ ∀ k, w.frozen? ⟨g, k, none⟩ = false := by
  subst hG
  refine ⟨fun t ht => ?_, fun t ht => ?_, fun k => h.row.frozenAt k⟩
  · rw [h.row.cellAt _ (by omega)]; exact (rowN_get (gd_get ht)).1
  · rw [h.row.cellAt _ (by omega)]; exact (rowN_get (gd_get ht)).2
theorem hne {w : World} {hb g c : Nat} {fv : Value} {A : List Nd} {p : Nat} {F : Nat → Prop} (h : HIn C w hb fv A p F (.slice (some ⟨g, 0, none⟩) A.length c)) : hb ≠ g := fun e => by
  obtain ⟨C, fz, hx⟩ := Lib.ownsRow_kind h.row g rfl
  rw [← e, h.obj] at hx
  injection hx with hx
  injection hx with _ hx _
  exact absurd hx (by decide)
/-- a node was written -/
def put3 (w : World) (g i : Nat) (x : Nd) : World := (w.setCell ⟨g, i * 2, none⟩ (.slice x.1.ao x.1.n x.1.c)).setCell ⟨g, i * 2 + 1, none⟩ (.int .i64 x.2)
theorem put3_size (w : World) (g i : Nat) (x : Nd) : (put3 w g i x).heap.size = w.heap.size := by simp [put3]
theorem put3_block (w : World) (g i : Nat) (x : Nd) {k : Nat} (hk : k ≠ g) : (put3 w g i x).heap[k]? = w.heap[k]? := by
  unfold put3
  rw [Below.heap_setCell _ _ _ _ hk, Below.heap_setCell _ _ _ _ hk]
theorem HIn.put0 {w : World} {hb g c : Nat} {fv : Value} {A : List Nd} {p n : Nat} {F : Nat → Prop} (h : HIn C w hb fv A p F (.slice (some ⟨g, 0, none⟩) n c)) (hn : n = A.length) (i : Nat) (x : Nd) : ((∀ b, F b → b < (put3 w g i x).heap.size) ∧ (put3 w g i x).heap[hb]? = some (.cells #[fv, .slice (some ⟨g, 0, none⟩) n c, .int .i64 p] 220 (0, 0)) ∧ (put3 w g i x).ownsRow 0 229 2 (.slice (some ⟨g, 0, none⟩) n c) (A.set i x).length (rowN (A.set i x))) ∧ Chg F w (put3 w g i x) ∧ C.K (put3 w g i x) := by
  subst hn
  have hgF := h.rowF g rfl
  have hch : Chg F w (put3 w g i x) := ((Chg.refl F w).setCell (.inl hgF) _).setCell (.inl hgF) _
  refine ⟨⟨fun b hb => by rw [put3_size]; exact h.lt b hb, by rw [put3_block _ _ _ _ (hne h)]; exact h.obj, ?_⟩, hch, C.keeps _ _ h.kw hch.size fun b hb hn => hch.block b hb fun e => hn (h.fn b e)⟩
  rw [List.length_set, ← rowN_set]
  exact ((h.row.stored (i * 2) _).1.stored (i * 2 + 1) _).1
theorem HIn.put {w : World} {hb g c : Nat} {fv : Value} {A : List Nd} {p n : Nat} {F : Nat → Prop} (h : HIn C w hb fv A p F (.slice (some ⟨g, 0, none⟩) n c)) (hn : n = A.length) (i : Nat) (x : Nd) (hx : C.Z x.1) : HIn C (put3 w g i x) hb fv (A.set i x) p F (.slice (some ⟨g, 0, none⟩) n c) ∧ Chg F w (put3 w g i x) := by
  obtain ⟨⟨h1, h2, h3⟩, h4, h5⟩ := h.put0 hn i x
  exact ⟨⟨h1, h.own, h2, h3, h.rowF, own_set (P := fun (y : Nd) => C.Z y.1) h.zz hx, h5, h.fn, Nat.le_trans h.sz h4.size⟩, h4⟩
theorem HIn.zg {w : World} {hb : Nat} {fv nv : Value} {A : List Nd} {p : Nat} {F : Nat → Prop} (h : HIn C w hb fv A p F nv) {i : Nat} (hi : i < A.length) : C.Z (gd A i).1 := h.zz _ (List.mem_of_getElem? (gd_get hi))
end Hpc
end Go.Proofs.YtohfhkdhccpoaaaGreatDoor
/- Layer 8, a heap of cursors: rise. -/
namespace Go.Proofs.YtohfhkdhccpoaaaGreatDoor
open Go.RowKit
namespace Hpc
open Hp
variable {C : Cx}
theorem ahead_in {fv nv : Value} {lt : It → It → Bool} (L : LessV C fv lt) {w : World} {hb : Nat} {A : List Nd} {p : Nat} {F : Nat → Prop} (h : HIn C w hb fv A p F nv) (W : World) (hW : Below w.heap.size w W) (a b : Nd) (za : C.Z a.1) (zb : C.Z b.1) :
    Calls Tryz.prog 167 #[.pointer (some ⟨hb, 0, none⟩), .agg #[.slice a.1.ao a.1.n a.1.c, .int .i64 a.2], .agg #[.slice b.1.ao b.1.n b.1.c, .int .i64 b.2]] W fun e w' => e = .returned (.bool (ahd lt a b)) ∧ Below W.heap.size W w' := by
  have q := hcells (h.below hW).obj
  exact ahead_any L q.1 q.2.2.2.2 a b za zb (h.below hW).kw
set_option maxRecDepth 100000 in
set_option maxHeartbeats 2000000 in
theorem rise_any {fv nv : Value} {lt : It → It → Bool} (L : LessV C fv lt) {w : World} {hb : Nat} {A : List Nd} {p : Nat} {F : Nat → Prop} (h : HIn C w hb fv A p F nv) (hA : 0 < A.length) (hz : A.length ≤ 1099511627776) (hR : Rising lt (gd A) A.length (A.length - 1)) :
    Calls Tryz.prog 164 #[.pointer (some ⟨hb, 0, none⟩)] w fun e w' => e = .returned (.tuple #[]) ∧ ∃ B, HIn C w' hb fv B p F nv ∧ B.Perm A ∧ Shape lt (gd B) B.length ∧ Chg F w w' := by
  obtain ⟨ao, cap, rfl⟩ := own_slice h.row
  obtain ⟨g, rfl⟩ : ∃ g, ao = some ⟨g, 0, none⟩ := by
    rcases h.row.2 with ⟨e1, e2⟩ | ⟨g, c, cur, e1, _⟩
    · omega
    · injection e1 with e1 _ _; exact ⟨g, e1⟩
  obtain ⟨c0, c1, c2, cf, hl⟩ := hcells h.obj
  have HL := hide L
  have H0 := hide h
  have HO := hide L.ord
  have HR := hide hR
  clear L h hR c0 c2
  generalize hn : A.length = n at *
  have HN := hide hn
  clear hn
  go_enter Tryz.func164, Tryz.ntmps164
  go_wp2
  go_loopw [3] (fun s3 wr => ∃ (k : Nat) (B : List Nd), s3 = .int .i64 k ∧ k < n ∧ Hid (HIn C wr hb fv B p F (.slice (some ⟨g, 0, none⟩) n cap)) ∧ Hid (B.Perm A) ∧ Hid (Rising lt (gd B) n k) ∧ Hid (Chg F w wr)) (fun s3 _ => (intOf s3).toNat)
  case atStart => exact ⟨n - 1, A, by go_num, by omega, H0, .refl _, HR, Chg.refl _ _⟩
  case round =>
    obtain ⟨k, B, rfl, hk, HB, HP, HRk, HC⟩ := hrel
    have hBl : B.length = n := by rw [(unhide HP).length_eq, unhide HN]
    by_cases h0 : k = 0
    · subst h0
      have HS : Hid (Shape lt (gd B) B.length) := by rw [hBl]; exact (unhide HRk).done (.inl rfl)
      clear hBl
      go_wp2
      go_end0
      exact ⟨rfl, B, unhide HB, unhide HP, unhide HS, unhide HC⟩
    · have hkz : (k : Int) > 0 := by omega
      obtain ⟨q, hq⟩ : ∃ q : Nat, q = (k - 1) / 2 := ⟨_, rfl⟩
      have hqz : ((k : Int) - 1).tdiv 2 = (q : Int) := by
        rw [show (k : Int) - 1 = ((k - 1 : Nat) : Int) by omega, hq]
        rfl
      have hqk : q < k := by omega
      have hqn : q < n := by omega
      have hp : par k = q := hq.symm
      obtain ⟨G, hG⟩ : ∃ G : Nat → Nd, G = gd B := ⟨_, rfl⟩
      have HBn : Hid (HIn C wr hb fv B p F (.slice (some ⟨g, 0, none⟩) B.length cap)) := by rw [hBl]; exact HB
      obtain ⟨d0, d1, df⟩ := ncells (unhide HBn) hG
      rw [hBl] at d0 d1
      have HG := hide hG
      have HAH := hide (fun W hW => ahead_in (unhide HL) (unhide HB) W hW (G k) (G q) (hG ▸ (unhide HB).zg (by rw [hBl]; exact hk)) (hG ▸ (unhide HB).zg (by rw [hBl]; exact hqn)))
      have k0 := d0 k hk
      have k1 := d1 k hk
      have q0 := d0 q hqn
      have q1 := d1 q hqn
      have hkn : (k : Int) < (n : Int) := by omega
      have hqnz : (q : Int) < (n : Int) := by omega
      have hk0 : 0 ≤ (k : Int) := by omega
      have hq0 : 0 ≤ (q : Int) := by omega
      have HBL := hide hBl
      have HPK := hide hp
      have HQ := hide hq
      have hgl : g < wr.heap.size := (unhide HB).lt g ((unhide HB).rowF g rfl)
      clear hG hBl hp hq d0 d1 HBn
      go_wp2
      go_region_held3 (fun w' => w'.cell? ⟨g, k * 2, none⟩ = some (.slice (G k).1.ao (G k).1.n (G k).1.c) ∧ w'.cell? ⟨g, k * 2 + 1, none⟩ = some (.int .i64 (G k).2) ∧ w'.cell? ⟨g, q * 2, none⟩ = some (.slice (G q).1.ao (G q).1.n (G q).1.c) ∧ w'.cell? ⟨g, q * 2 + 1, none⟩ = some (.int .i64 (G q).2))
        (first | exact ⟨k0, k1, q0, q1⟩ | exact s3)
        (first | (go_at_call 167; refine (unhide HAH _ ((Below.refl _ _).drew)).mono ?_; rintro e w3 ⟨rfl, hb3⟩; have s3 := (⟨(hb3.cell (p := ⟨g, k * 2, none⟩) hgl).trans k0, (hb3.cell (p := ⟨g, k * 2 + 1, none⟩) hgl).trans k1, (hb3.cell (p := ⟨g, q * 2, none⟩) hgl).trans q0, (hb3.cell (p := ⟨g, q * 2 + 1, none⟩) hgl).trans q1⟩ : _ ∧ _ ∧ _ ∧ _); have HB3 : Hid (Below wr.heap.size wr w3) := (Below.refl _ _).drew.trans hb3; clear hb3))
      obtain ⟨y0, y1, z0, z1⟩ := s3
      have hgl3 : g < w3.heap.size := Nat.lt_of_lt_of_le hgl (unhide HB3).size
      have HI3 := hide ((unhide HB).below (unhide HB3))
      have HC3 : Hid (Chg F w w3) := (unhide HC).then (Chg.of_below (unhide HB3))
      have f3 : ∀ k, w3.frozen? ⟨g, k, none⟩ = false := fun k => ((unhide HB3).frozen (p := ⟨g, k, none⟩) hgl).trans (df k)
      clear k0 k1 q0 q1 df HAH HB3 HB HC
      cases hc : ahd lt (G k) (G q) with
      | false =>
        have HS : Hid (Shape lt (gd B) B.length) := by rw [unhide HBL]; exact (unhide HRk).done (.inr (by rw [← unhide HG, unhide HPK]; exact hc))
        clear hc
        go_wp2
        (try simp only [Exit.inBlock, Exit.then]); refine bodyPost_ret (results_none rfl _ _ _) rfl ?_
        exact ⟨rfl, B, unhide HI3, unhide HP, unhide HS, unhide HC3⟩
      | true =>
        have HS : Hid (Rising lt (gd (swl B k q)) n q) := by
          have e := (unhide HRk).step (unhide HO) (by omega) hk (by rw [← unhide HG, unhide HPK]; exact hc)
          rw [unhide HPK] at e
          rw [swl_gd (by rw [unhide HBL]; exact hk) (by rw [unhide HBL]; exact hqn)]
          exact e
        have HFI : Hid (HIn C (put3 (put3 w3 g k (G q)) g q (G k)).drew hb fv (swl B k q) p F (.slice (some ⟨g, 0, none⟩) n cap) ∧ Chg F w (put3 (put3 w3 g k (G q)) g q (G k)).drew) := by
          have e1 := HIn.put (unhide HI3) (unhide HBL).symm k (G q) ((unhide HG) ▸ (unhide HI3).zg (by rw [unhide HBL]; exact hqn))
          have e2 := HIn.put e1.1 (by simp [unhide HBL]) q (G k) ((unhide HG) ▸ (unhide HI3).zg (by rw [unhide HBL]; exact hk))
          have e3 : swl B k q = (B.set k (G q)).set q (G k) := by unfold swl; rw [unhide HG]
          rw [e3]
          exact ⟨e2.1.drew, (((unhide HC3).then e1.2).then e2.2).drew⟩
        unfold put3 at HFI
        clear hc
        go_wp2
        go_region
        all_goals go_wp2
        exact ⟨⟨q, swl B k q, rfl, hqn, hide (unhide HFI).1, hide ((swl_perm (by rw [unhide HBL]; exact hk) (by rw [unhide HBL]; exact hqn)).trans (unhide HP)), HS, hide (unhide HFI).2⟩, by simp [intOf]; omega⟩
end Hpc
end Go.Proofs.YtohfhkdhccpoaaaGreatDoor
/- Layer 8, a heap of cursors: sink. -/
namespace Go.Proofs.YtohfhkdhccpoaaaGreatDoor
open Go.RowKit
namespace Hpc
open Hp
variable {C : Cx}
/-- f is the first of place k and of the places below it that were looked at, ahead of place b -/
structure Fst (lt : It → It → Bool) (G : Nat → Nd) (n k f b : Nat) : Prop where
  at_ : f = k ∨ (0 < f ∧ f < b ∧ f < n ∧ par f = k ∧ ahd lt (G f) (G k) = true)
  min : ∀ c, c < b → c < n → 0 < c → par c = k → ahd lt (G c) (G f) = false
theorem Fst.start (lt : It → It → Bool) (G : Nat → Nd) (n k : Nat) : Fst lt G n k k (2 * k + 1) := ⟨.inl rfl, fun c hc _ h0 hp => by simp only [par] at hp; omega⟩
theorem Fst.yes {lt : It → It → Bool} (o : Ord lt) {G : Nat → Nd} {n k f b : Nat} (h : Fst lt G n k f b) (hb0 : 0 < b) (hbn : b < n) (hp : par b = k) (ha : ahd lt (G b) (G f) = true) : Fst lt G n k b (b + 1) := by
  refine ⟨.inr ⟨hb0, by omega, hbn, hp, ?_⟩, fun c hc hcn h0 hpc => ?_⟩
  · rcases h.at_ with e | ⟨_, _, _, _, e⟩
    · rw [← e]; exact ha
    · rcases ahd_cot o (G k) ha with x | x
      · exact x
      · rw [ahd_asym o e] at x; cases x
  · by_cases e : c = b
    · subst e; exact ahd_irr o _
    · exact ahd_ntr o (h.min c (by omega) hcn h0 hpc) (ahd_asym o ha)
theorem Fst.no {lt : It → It → Bool} {G : Nat → Nd} {n k f b : Nat} (h : Fst lt G n k f b) (ha : ahd lt (G b) (G f) = false) : Fst lt G n k f (b + 1) := by
  refine ⟨?_, fun c hc hcn h0 hpc => ?_⟩
  · rcases h.at_ with e | ⟨h1, h2, h3⟩
    · exact .inl e
    · exact .inr ⟨h1, by omega, h3⟩
  · by_cases e : c = b
    · subst e; exact ha
    · exact h.min c (by omega) hcn h0 hpc
theorem Fst.all {lt : It → It → Bool} {G : Nat → Nd} {n k f b : Nat} (h : Fst lt G n k f b) (hb : 2 * k + 2 < b ∨ n ≤ b) : ∀ c, c < n → 0 < c → par c = k → ahd lt (G c) (G f) = false := fun c hc h0 hp => h.min c (by simp only [par] at hp; omega) hc h0 hp
set_option maxRecDepth 100000 in
set_option maxHeartbeats 4000000 in
theorem sink_any {fv nv : Value} {lt : It → It → Bool} (L : LessV C fv lt) {w : World} {hb : Nat} {A : List Nd} {p : Nat} {F : Nat → Prop} (h : HIn C w hb fv A p F nv) (hz : A.length ≤ 1099511627776) (hS : Sinking lt (gd A) A.length 0) :
    Calls Tryz.prog 165 #[.pointer (some ⟨hb, 0, none⟩)] w fun e w' => e = .returned (.tuple #[]) ∧ ∃ B, HIn C w' hb fv B p F nv ∧ B.Perm A ∧ Shape lt (gd B) B.length ∧ Chg F w w' := by
  obtain ⟨ao, cap, rfl⟩ := own_slice h.row
  have HAO : Hid (0 < A.length → ∃ g, ao = some ⟨g, 0, none⟩) := fun h0 => by
    rcases h.row.2 with ⟨e1, e2⟩ | ⟨g, c, cur, e1, _⟩
    · omega
    · injection e1 with e1 _ _; exact ⟨g, e1⟩
  obtain ⟨c0, c1, c2, cf, hl⟩ := hcells h.obj
  have HL := hide L
  have H0 := hide h
  have HO := hide L.ord
  have HS0 := hide hS
  clear L h hS c0 c2
  generalize hn : A.length = n at *
  have HN := hide hn
  clear hn
  go_enter Tryz.func165, Tryz.ntmps165
  go_wp2
  go_loopw [3] (fun s3 wr => ∃ (k : Nat) (B : List Nd), s3 = .int .i64 k ∧ (k < n ∨ k = 0) ∧ Hid (HIn C wr hb fv B p F (.slice ao n cap)) ∧ Hid (B.Perm A) ∧ Hid (Sinking lt (gd B) n k) ∧ Hid (Chg F w wr)) (fun s3 _ => n - (intOf s3).toNat)
  case atStart => exact ⟨0, A, rfl, .inr rfl, H0, .refl _, HS0, Chg.refl _ _⟩
  case round =>
    obtain ⟨k, B, rfl, hk, HB, HP, HSk, HC⟩ := hrel
    have hBl : B.length = n := by rw [(unhide HP).length_eq, unhide HN]
    have HBL := hide hBl
    clear hBl
    have hkz : k ≤ 1099511627776 := by omega
    obtain ⟨G, hG⟩ : ∃ G : Nat → Nd, G = gd B := ⟨_, rfl⟩
    have HG := hide hG
    clear hG
    obtain ⟨V, hV⟩ : ∃ V, V = wr := ⟨_, rfl⟩
    subst hV
    go_wp2
    go_loopw [4, 5] (fun s4 s5 wr => ∃ (f b : Nat), s4 = .int .i64 f ∧ s5 = .int .i64 b ∧ 2 * k + 1 ≤ b ∧ b ≤ 2 * k + 3 ∧ Hid (Fst lt G n k f b) ∧ Hid (Below V.heap.size V wr)) (fun _ s5 _ => 2 * k + 3 - (intOf s5).toNat)
    case atStart => exact ⟨k, 2 * k + 1, rfl, by go_num, Nat.le_refl _, by omega, hide (Fst.start lt G n k), Below.refl _ _⟩
    case round =>
      obtain ⟨f, b, rfl, rfl, hb1, hb2, HF, HW⟩ := hrel
      by_cases hin : b ≤ 2 * k + 2 ∧ b < n
      · obtain ⟨hi1, hi2⟩ := hin
        have hi1z : (b : Int) ≤ 2 * (k : Int) + 2 := by omega
        have hi2z : (b : Int) < (n : Int) := by omega
        obtain ⟨g, rfl⟩ := unhide HAO (by omega)
        have hfn : f < n := by rcases (unhide HF).at_ with e | e <;> omega
        have HBn : Hid (HIn C wr hb fv B p F (.slice (some ⟨g, 0, none⟩) B.length cap)) := by rw [unhide HBL]; exact (unhide HB).below (unhide HW)
        obtain ⟨d0, d1, df⟩ := ncells (unhide HBn) (unhide HG)
        rw [unhide HBL] at d0 d1
        have HAH := hide (fun W hW => ahead_in (unhide HL) (unhide HBn) W hW (G b) (G f) ((unhide HG) ▸ (unhide HBn).zg (by rw [unhide HBL]; omega)) ((unhide HG) ▸ (unhide HBn).zg (by rw [unhide HBL]; exact hfn)))
        have k0 := d0 b hi2
        have k1 := d1 b hi2
        have q0 := d0 f hfn
        have q1 := d1 f hfn
        have hfz : (f : Int) < (n : Int) := by omega
        have hf0 : 0 ≤ (f : Int) := by omega
        have hb0 : 0 ≤ (b : Int) := by omega
        have hgl : g < wr.heap.size := (unhide HBn).lt g ((unhide HBn).rowF g rfl)
        have hpb : par b = k := by simp only [par]; omega
        have HPB := hide hpb
        clear d0 d1 HBn hpb
        go_wp2
        go_region_held3 (fun w' => w'.cell? ⟨g, b * 2, none⟩ = some (.slice (G b).1.ao (G b).1.n (G b).1.c) ∧ w'.cell? ⟨g, b * 2 + 1, none⟩ = some (.int .i64 (G b).2) ∧ w'.cell? ⟨g, f * 2, none⟩ = some (.slice (G f).1.ao (G f).1.n (G f).1.c) ∧ w'.cell? ⟨g, f * 2 + 1, none⟩ = some (.int .i64 (G f).2))
          (first | exact ⟨k0, k1, q0, q1⟩ | exact s3)
          (first | (go_at_call 167; refine (unhide HAH _ ((Below.refl _ _).drew)).mono ?_; rintro e w3 ⟨rfl, hb3⟩; have s3 := (⟨(hb3.cell (p := ⟨g, b * 2, none⟩) hgl).trans k0, (hb3.cell (p := ⟨g, b * 2 + 1, none⟩) hgl).trans k1, (hb3.cell (p := ⟨g, f * 2, none⟩) hgl).trans q0, (hb3.cell (p := ⟨g, f * 2 + 1, none⟩) hgl).trans q1⟩ : _ ∧ _ ∧ _ ∧ _); have HB3 : Hid (Below V.heap.size V w3) := (unhide HW).trans (((Below.refl _ _).drew.trans hb3).mono (unhide HW).size); clear hb3))
        clear s3
        cases hc : ahd lt (G b) (G f) with
        | false =>
          have HF2 := hide ((unhide HF).no hc)
          clear hc
          go_wp2
          go_roundw
          case rel => exact ⟨f, b + 1, rfl, by go_num, by omega, by omega, HF2, HB3⟩
          case measure => simp [intOf]; omega
        | true =>
          have HF2 := hide ((unhide HF).yes (unhide HO) (by omega) hi2 (unhide HPB) hc)
          clear hc
          go_wp2
          go_roundw
          case rel => exact ⟨b, b + 1, rfl, by go_num, by omega, by omega, HF2, HB3⟩
          case measure => simp [intOf]; omega
      · have hall := (unhide HF).all (by omega)
        have hat := (unhide HF).at_
        have HALL := hide hall
        have HAT := hide hat
        clear hall hat
        have HBW := hide ((unhide HB).below (unhide HW))
        have HCW : Hid (Chg F w wr) := (unhide HC).then (Chg.of_below (unhide HW))
        clear hb1 HF HW HB HC
        by_cases hA : b ≤ 2 * k + 2
        · have hz1 : (b : Int) ≤ 2 * (k : Int) + 2 := by omega
          have hz2 : ¬ (b : Int) < (n : Int) := by omega
          clear hin
          by_cases hfk : f = k
          · subst hfk
            have HSH : Hid (Shape lt (gd B) B.length) := by rw [unhide HBL]; exact (unhide HSk).done (by rw [← unhide HG]; exact unhide HALL)
            clear HALL HAT
            go_wp2
            (try simp only [Exit.inBlock, Exit.then]); refine bodyPost_ret (results_none rfl _ _ _) rfl ?_
            exact ⟨rfl, B, unhide HBW, unhide HP, unhide HSH, unhide HCW⟩
          · obtain ⟨hf0, hfb, hfn, hpf, hfa⟩ : 0 < f ∧ f < b ∧ f < n ∧ par f = k ∧ ahd lt (G f) (G k) = true := (unhide HAT).resolve_left hfk
            have hkf : k < f := by simp only [par] at hpf; omega
            have hkn : k < n := by omega
            obtain ⟨g, rfl⟩ := unhide HAO (by omega)
            have HBn : Hid (HIn C wr hb fv B p F (.slice (some ⟨g, 0, none⟩) B.length cap)) := by rw [unhide HBL]; exact unhide HBW
            obtain ⟨d0, d1, df⟩ := ncells (unhide HBn) (unhide HG)
            rw [unhide HBL] at d0 d1
            have k0 := d0 f hfn
            have k1 := d1 f hfn
            have q0 := d0 k hkn
            have q1 := d1 k hkn
            have hfz : (f : Int) < (n : Int) := by omega
            have hfz0 : 0 ≤ (f : Int) := by omega
            have hknz : (k : Int) < (n : Int) := by omega
            have hkz0 : 0 ≤ (k : Int) := by omega
            have hfe : ((f : Int) == (k : Int)) = false := by simp; omega
            have HS2 : Hid (Sinking lt (gd (swl B k f)) n f) := by
              have e := (unhide HSk).step (unhide HO) hf0 hfn hpf (by rw [← unhide HG]; exact hfa) (by rw [← unhide HG]; exact unhide HALL)
              rw [swl_gd (by rw [unhide HBL]; exact hkn) (by rw [unhide HBL]; exact hfn)]
              exact e
            have HFI : Hid (HIn C (put3 (put3 wr g k (G f)) g f (G k)).drew hb fv (swl B k f) p F (.slice (some ⟨g, 0, none⟩) n cap) ∧ Chg F w (put3 (put3 wr g k (G f)) g f (G k)).drew) := by
              have e1 := HIn.put (unhide HBW) (unhide HBL).symm k (G f) ((unhide HG) ▸ (unhide HBW).zg (by rw [unhide HBL]; exact hfn))
              have e2 := HIn.put e1.1 (by simp [unhide HBL]) f (G k) ((unhide HG) ▸ (unhide HBW).zg (by rw [unhide HBL]; exact hkn))
              have e3 : swl B k f = (B.set k (G f)).set f (G k) := by unfold swl; rw [unhide HG]
              rw [e3]
              exact ⟨e2.1.drew, (((unhide HCW).then e1.2).then e2.2).drew⟩
            unfold put3 at HFI
            clear d0 d1 HBn hfa hpf HALL HAT hfk
            go_wp2
            go_region
            all_goals go_wp2
            exact ⟨⟨f, swl B k f, rfl, .inl hfn, hide (unhide HFI).1, hide ((swl_perm (by rw [unhide HBL]; exact hkn) (by rw [unhide HBL]; exact hfn)).trans (unhide HP)), HS2, hide (unhide HFI).2⟩, by simp [intOf]; omega⟩
        · have hz1 : ¬ (b : Int) ≤ 2 * (k : Int) + 2 := by omega
          clear hin
          by_cases hfk : f = k
          · subst hfk
            have HSH : Hid (Shape lt (gd B) B.length) := by rw [unhide HBL]; exact (unhide HSk).done (by rw [← unhide HG]; exact unhide HALL)
            clear HALL HAT
            go_wp2
            (try simp only [Exit.inBlock, Exit.then]); refine bodyPost_ret (results_none rfl _ _ _) rfl ?_
            exact ⟨rfl, B, unhide HBW, unhide HP, unhide HSH, unhide HCW⟩
          · obtain ⟨hf0, hfb, hfn, hpf, hfa⟩ : 0 < f ∧ f < b ∧ f < n ∧ par f = k ∧ ahd lt (G f) (G k) = true := (unhide HAT).resolve_left hfk
            have hkf : k < f := by simp only [par] at hpf; omega
            have hkn : k < n := by omega
            obtain ⟨g, rfl⟩ := unhide HAO (by omega)
            have HBn : Hid (HIn C wr hb fv B p F (.slice (some ⟨g, 0, none⟩) B.length cap)) := by rw [unhide HBL]; exact unhide HBW
            obtain ⟨d0, d1, df⟩ := ncells (unhide HBn) (unhide HG)
            rw [unhide HBL] at d0 d1
            have k0 := d0 f hfn
            have k1 := d1 f hfn
            have q0 := d0 k hkn
            have q1 := d1 k hkn
            have hfz : (f : Int) < (n : Int) := by omega
            have hfz0 : 0 ≤ (f : Int) := by omega
            have hknz : (k : Int) < (n : Int) := by omega
            have hkz0 : 0 ≤ (k : Int) := by omega
            have hfe : ((f : Int) == (k : Int)) = false := by simp; omega
            have HS2 : Hid (Sinking lt (gd (swl B k f)) n f) := by
              have e := (unhide HSk).step (unhide HO) hf0 hfn hpf (by rw [← unhide HG]; exact hfa) (by rw [← unhide HG]; exact unhide HALL)
              rw [swl_gd (by rw [unhide HBL]; exact hkn) (by rw [unhide HBL]; exact hfn)]
              exact e
            have HFI : Hid (HIn C (put3 (put3 wr g k (G f)) g f (G k)).drew hb fv (swl B k f) p F (.slice (some ⟨g, 0, none⟩) n cap) ∧ Chg F w (put3 (put3 wr g k (G f)) g f (G k)).drew) := by
              have e1 := HIn.put (unhide HBW) (unhide HBL).symm k (G f) ((unhide HG) ▸ (unhide HBW).zg (by rw [unhide HBL]; exact hfn))
              have e2 := HIn.put e1.1 (by simp [unhide HBL]) f (G k) ((unhide HG) ▸ (unhide HBW).zg (by rw [unhide HBL]; exact hkn))
              have e3 : swl B k f = (B.set k (G f)).set f (G k) := by unfold swl; rw [unhide HG]
              rw [e3]
              exact ⟨e2.1.drew, (((unhide HCW).then e1.2).then e2.2).drew⟩
            unfold put3 at HFI
            clear d0 d1 HBn hfa hpf HALL HAT hfk
            go_wp2
            go_region
            all_goals go_wp2
            exact ⟨⟨f, swl B k f, rfl, .inl hfn, hide (unhide HFI).1, hide ((swl_perm (by rw [unhide HBL]; exact hkn) (by rw [unhide HBL]; exact hfn)).trans (unhide HP)), HS2, hide (unhide HFI).2⟩, by simp [intOf]; omega⟩
end Hpc
end Go.Proofs.YtohfhkdhccpoaaaGreatDoor
