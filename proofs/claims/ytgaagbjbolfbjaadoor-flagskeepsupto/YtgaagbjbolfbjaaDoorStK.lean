/- What a law has made so far: lists of flags and rows of numbers, all lying as they were. -/
import Derived.Test.YtgaagbjbolfbjaaDoorRefI
import Derived.Test.YtgaagbjbolfbjaaDoorDelW
import Derived.Test.YtgaagbjbolfbjaaDoorWkF
namespace Go.Proofs.YtgaagbjbolfbjaaDoor
open Go.Sort Go.RowKit
namespace So
theorem MaxIs.below {w W : World} (h : MaxIs w) (hB : Go.RowKit.Below w.heap.size w W) : MaxIs W := by
  obtain ⟨m, hm⟩ := h
  refine ⟨m, (hB.cell (p := ⟨0, 0, none⟩) ?_).trans hm⟩
  show 0 < w.heap.size
  rcases Nat.lt_or_ge 0 w.heap.size with hl | hl
  · exact hl
  · simp [World.cell?, Array.getElem?_eq_none hl] at hm
/-- lists of flags L and rows of numbers I -/
def Stt (w W : World) (L I : List (Value × List Int)) : Prop := Go.RowKit.Below w.heap.size w W ∧ (∀ p ∈ L, FArg W p.1 p.2) ∧ (∀ p ∈ I, IRow 0 W p.1 p.2) ∧ MaxIs W
theorem Stt.next {w W W' : World} {L I : List (Value × List Int)} (h : Stt w W L I) (hB : Go.RowKit.Below W.heap.size W W') : Stt w W' L I := ⟨h.1.trans (hB.mono h.1.size), fun p hp => (h.2.1 p hp).below hB, fun p hp => (h.2.2.1 p hp).below hB, h.2.2.2.below hB⟩
theorem Stt.pushF {w W W' : World} {L I : List (Value × List Int)} {u : Value} {l : List Int} (h : Stt w W L I) (hB : Go.RowKit.Below W.heap.size W W') (hu : FArg W' u l) : Stt w W' ((u, l) :: L) I := ⟨(h.next hB).1, fun p hp => by
  rcases List.mem_cons.1 hp with rfl | hp
  · exact hu
  · exact (h.next hB).2.1 p hp, (h.next hB).2.2⟩
theorem Stt.pushI {w W W' : World} {L I : List (Value × List Int)} {u : Value} {l : List Int} {n₀ : Nat} (h : Stt w W L I) (hB : Go.RowKit.Below W.heap.size W W') (hu : IRow n₀ W' u l) : Stt w W' L ((u, l) :: I) := ⟨(h.next hB).1, (h.next hB).2.1, fun p hp => by
  rcases List.mem_cons.1 hp with rfl | hp
  · exact hu.low (Nat.zero_le _)
  · exact (h.next hB).2.2.1 p hp, (h.next hB).2.2.2⟩
theorem Stt.drew {w W : World} {L I : List (Value × List Int)} (h : Stt w W L I) (q : Nat) : Stt w (W.drewN q) L I := h.next ⟨rfl, rfl, rfl, Nat.le_refl _, fun _ _ => rfl⟩
theorem is_below {n₀ : Nat} (v u : Value) (L : List Int) (w : World) (hA : FArg w v L) (hI : IRow n₀ w u L) (hx : ∀ x ∈ L, 0 ≤ x ∧ x ≤ 65535) :
    Calls Tryd.prog 10 #[v, u] w fun e w' => e = .returned (.bool true) ∧ Go.RowKit.Below w.heap.size w w' :=
  (is_true v u L w hA hI hx).mono fun e w' ⟨h, q, hq⟩ => ⟨h, by rw [hq]; exact ⟨rfl, rfl, rfl, Nat.le_refl _, fun _ _ => rfl⟩⟩
theorem same_below (v u : Value) (L : List Int) (w : World) (hA : FArg w v L) (hI : FArg w u L) :
    Calls Tryd.prog 9 #[v, u] w fun e w' => e = .returned (.bool true) ∧ Go.RowKit.Below w.heap.size w w' :=
  (same_true v u L w hA hI).mono fun e w' ⟨h, q, hq⟩ => ⟨h, by rw [hq]; exact ⟨rfl, rfl, rfl, Nat.le_refl _, fun _ _ => rfl⟩⟩
def eqB (A B : List Int) : Bool := decide (setOf A = setOf B)
def cntB (A : List Int) : Int := ((setOf A).length : Int)
theorem len_le {ao : Option Addr} {n c : Nat} {l : List Int} {N : Nat} {W : World} (h : IRow N W (.slice ao n c) l) : (n : Int) = l.length := by
  obtain ⟨_, _, e, _⟩ := h.form
  injection e with _ e _
  rw [e]
/-- a number of the document's row: its length -/
theorem IRow.len {N : Nat} {W : World} {v : Value} {l : List Int} (h : IRow N W v l) : ∃ ao n c, v = .slice ao n c ∧ (n : Int) = l.length := by
  obtain ⟨ao, c, e, _⟩ := h.form
  exact ⟨ao, _, c, e, rfl⟩
end So
end Go.Proofs.YtgaagbjbolfbjaaDoor
