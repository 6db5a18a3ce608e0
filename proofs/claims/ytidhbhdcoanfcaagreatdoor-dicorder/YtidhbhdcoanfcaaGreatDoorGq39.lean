import Derived.ProofKit
import Derived.OpenShut
import Derived.Deep.Slices
import Derived.Test.YtidhbhdcoanfcaaGreatDoorGq37
namespace Go.Proofs.YtidhbhdcoanfcaaGreatDoor
open Go.RowKit
namespace ArgB

theorem laidOut : laidOutB Tryz.prog = true := by kernel_rfl

def ArgOf {α : Type} (enc : α → Value) (W : World) (v : Value) (L : List α) : Prop :=
 ∃ ao cap, v = .slice ao L.length cap ∧ L.length ≤ cap ∧ L.length ≤ maxLen ∧ (0 < L.length → ∃ g off, ao = some ⟨g, off, none⟩ ∧ g < W.heap.size ∧ ∀ (j : Nat) x, L[j]? = some x → W.cell? ⟨g, off + j, none⟩ = some (enc x))
theorem ArgOf.below {α : Type} {enc : α → Value} {W W' : World} {v : Value} {L : List α} (h : ArgOf enc W v L) (hB : Below W.heap.size W W') : ArgOf enc W' v L := by
 obtain ⟨ao, cap, e, h1, h2, h3⟩ := h
 refine ⟨ao, cap, e, h1, h2, fun h0 => ?_⟩
 obtain ⟨g, off, e2, hg, hc⟩ := h3 h0
 exact ⟨g, off, e2, Nat.lt_of_lt_of_le hg hB.size, fun j x hx => (hB.cell (p := ⟨g, off + j, none⟩) hg).trans (hc j x hx)⟩
section
variable {H : Type} {enc : TypeId × Value → H} {P : Program} {w : World}

end
end ArgB
namespace Af
open RowB FldW
theorem isW_fit {s : ByteArray} (h : VlW.isW s = true) : fitW s.data.toList ∧ s.size ≤ 64 := by
 unfold VlW.isW VlW.okB at h
 simp only [Bool.and_eq_true, decide_eq_true_eq, Bool.not_eq_true'] at h
 obtain ⟨h1, h2, h3⟩ := h
 refine ⟨⟨fun q => by rw [q] at h2; simp at h2, by simp; exact h1, h3⟩, h1⟩
theorem dec_dg (n : Nat) (hn : n ≤ 8192) : ∃ D, DgN D n ∧ ∀ w, Calls Tryz.prog 19 #[.int .i64 (n : Int)] w fun e w' => e = .returned (.string (Fld.str D)) ∧ Below w.heap.size w w' := by
 by_cases h0 : n = 0
 ·subst h0
  refine ⟨[48], ⟨by decide, by decide, by decide, by decide⟩, fun w => ?_⟩
  refine (DecW.dec_zero w).mono ?_
  rintro e w' ⟨rfl, hw⟩
  obtain rfl := hw.symm
  exact ⟨rfl, Below.refl _ _⟩
 ·exact ⟨Lib.decDigits n, dgN_dec hn, fun w => DecW.dec_pos n (by omega) (by omega) w⟩
structure FitA (w W : World) (v : Value) (T : ByteArray) (X : List Bs) : Prop where
 fit : ∀ x ∈ X, fitW x
 few : X.length ≤ 8192
 row : W.ownsRow w.heap.size 9 1 v X.length (vals X)
 txt : T = Fld.str (anyT X)
 len : T.size ≤ 40200
 low : Below w.heap.size w W
theorem FitA.size {w W : World} {v : Value} {T : ByteArray} {X : List Bs} (h : FitA w W v T X) : (anyT X).length = T.size := by rw [h.txt, str_size]
theorem FitA.next {w W W' : World} {v v' : Value} {T x : ByteArray} {X : List Bs} (h : FitA w W v T X) (hx : VlW.isW x = true) (hn : X.length < 8192) (ht : T.size < 40000) (hr : W'.ownsRow w.heap.size 9 1 v' (X.length + 1) (vals X ++ [.string x])) (hb : Below w.heap.size w W') : FitA w W' v' (Fld.str (anyT X ++ (Wd.wt x.data.toList ++ [10]))) (X ++ [x.data.toList]) := by
 obtain ⟨hf, h64⟩ := isW_fit hx
 have hl := Wd.wt_len x.data.toList
 have hl2 : x.data.toList.length = x.size := by simp
 refine ⟨fun y hy => ?_, by simp; omega, ?_, by rw [anyT_snoc], ?_, hb⟩
 ·rcases List.mem_append.1 hy with q | q
  ·exact h.fit y q
  ·rw [List.mem_singleton] at q
   rw [q]
   exact hf
 ·have e : vals (X ++ [x.data.toList]) = vals X ++ [.string x] := by simp [vals, show Fld.str x.data.toList = x from rfl]
  rw [e, List.length_append]
  exact hr
 ·rw [str_size]
  have := h.size
  simp only [List.length_append, List.length_singleton]
  omega
theorem FitA.below {w W W' : World} {v : Value} {T : ByteArray} {X : List Bs} (h : FitA w W v T X) (b : Below W.heap.size W W') : FitA w W' v T X :=
 ⟨h.fit, h.few, own_kq h.row (T := []) (M := noM) (Kq.below b) (by simp), h.txt, h.len, h.low.trans (b.mono h.low.size)⟩
end Af
end Go.Proofs.YtidhbhdcoanfcaaGreatDoor
