/- Plain mathematics of a partition of flags under way; no walk. -/
import Derived.Test.YtgaagbjbolfbjaaDoorSoA
namespace Go.Proofs.YtgaagbjbolfbjaaDoor
open Go.Sort Go.RowKit
namespace So

/-- ahead of i stands what p takes, behind j what it doesn't; the pivot lies at a -/
structure PI (p : Int → Int → Bool) (a b i j : Nat) (d dk : Array Int) : Prop where
  size : b ≤ d.size
  perm : PermIn a b d dk
  ai : a < i
  ij : i ≤ j + 1
  jb : j < b
  lo : ∀ t, a < t → t < i → p dk[a]! dk[t]! = true
  hi : ∀ t, j < t → t < b → p dk[a]! dk[t]! = false
variable {p : Int → Int → Bool} {a b i j : Nat} {d dk : Array Int}
theorem PI.start (hb : b ≤ d.size) (hab : a < b) (hp : PermIn a b d dk) : PI p a b (a + 1) (b - 1) d dk :=
  ⟨hb, hp, by omega, by omega, by omega, fun t h1 h2 => by omega, fun t h1 h2 => by omega⟩
theorem PI.up (h : PI p a b i j d dk) (hij : i ≤ j) (hp : p dk[a]! dk[i]! = true) : PI p a b (i + 1) j d dk :=
  ⟨h.size, h.perm, by have := h.ai; omega, by omega, h.jb, fun t h1 h2 => by
    by_cases e : t = i
    · subst e; exact hp
    · exact h.lo t h1 (by omega), h.hi⟩
theorem PI.down (h : PI p a b i j d dk) (hij : i ≤ j) (hp : p dk[a]! dk[j]! = false) : PI p a b i (j - 1) d dk :=
  ⟨h.size, h.perm, h.ai, by have := h.ai; omega, by have := h.jb; omega, h.lo, fun t h1 h2 => by
    by_cases e : t = j
    · subst e; exact hp
    · exact h.hi t (by omega) h2⟩
theorem PI.sized (h : PI p a b i j d dk) : dk.size = d.size := h.perm.1
theorem PI.swap (h : PI p a b i j d dk) (hij : i ≤ j) (h1 : p dk[a]! dk[i]! = false) (h2 : p dk[a]! dk[j]! = true) : i < j ∧ PI p a b (i + 1) (j - 1) d (swp dk i j) := by
  have hne : i ≠ j := fun e => by
    subst e
    rw [h1] at h2
    cases h2
  have hai := h.ai
  have hjb := h.jb
  have hs := h.sized
  have hz := h.size
  have ea : (swp dk i j)[a]! = dk[a]! := swp_other dk i j a (by omega) (by omega)
  refine ⟨by omega, hz, permIn_trans _ _ _ _ _ h.perm (swp_permIn dk a b i j (by omega) (by omega) (by omega) (by omega) (by omega)), by omega, by omega, by omega, fun t t1 t2 => ?_, fun t t1 t2 => ?_⟩
  · rw [ea]
    by_cases e : t = i
    · subst e
      rw [swp_left dk t j (by omega) hne]
      exact h2
    · rw [swp_other dk i j t e (by omega)]
      exact h.lo t t1 (by omega)
  · rw [ea]
    by_cases e : t = j
    · subst e
      rw [swp_right dk i t (by omega)]
      exact h1
    · rw [swp_other dk i j t (by omega) e]
      exact h.hi t (by omega) t2
/-- the partition is done: the pivot goes to j -/
theorem PI.done (h : PI p a b i j d dk) (hij : ¬ i ≤ j) : a ≤ j ∧ j < b ∧ PermIn a b d (swp dk j a) ∧ (∀ t, a ≤ t → t < j → p (swp dk j a)[j]! (swp dk j a)[t]! = true) ∧ ∀ t, j < t → t < b → p (swp dk j a)[j]! (swp dk j a)[t]! = false := by
  have hai := h.ai
  have hjb := h.jb
  have hs := h.sized
  have hz := h.size
  have hij2 := h.ij
  have e : i = j + 1 := by omega
  subst e
  have ej : (swp dk j a)[j]! = dk[a]! := by
    by_cases e : j = a
    · subst e; exact swp_right dk j j (by omega)
    · exact swp_left dk j a (by omega) e
  refine ⟨by omega, hjb, permIn_trans _ _ _ _ _ h.perm (swp_permIn dk a b j a (by omega) (by omega) (by omega) (by omega) (by omega)), fun t t1 t2 => ?_, fun t t1 t2 => ?_⟩
  · rw [ej]
    by_cases e : t = a
    · subst e
      rw [swp_right dk j t (by omega)]
      exact h.lo j (by omega) (by omega)
    · rw [swp_other dk j a t (by omega) e]
      exact h.lo t (by omega) (by omega)
  · rw [ej, swp_other dk j a t (by omega) (by omega)]
    exact h.hi t t1 t2
/-- done without a move of the pivot: from i on stands what p doesn't take -/
theorem PI.done_eq (h : PI p a b i j d dk) (hij : ¬ i ≤ j) : a < i ∧ i ≤ b ∧ PermIn a b d dk ∧ (∀ t, a < t → t < i → p dk[a]! dk[t]! = true) ∧ ∀ t, i ≤ t → t < b → p dk[a]! dk[t]! = false := by
  have hjb := h.jb
  have hij2 := h.ij
  exact ⟨h.ai, by omega, h.perm, h.lo, fun t t1 t2 => h.hi t (by omega) t2⟩
end So
end Go.Proofs.YtgaagbjbolfbjaaDoor
