import Derived.Test.YtidhbhdcoanfcaaGreatDoorRows
import Derived.Test.YtidhbhdcoanfcaaGreatDoorGq03
import Derived.ProofKit
import Derived.OpenShut
import Derived.Deep.Slices
import Derived.SizedLaws
namespace Go.Proofs.YtidhbhdcoanfcaaGreatDoor
open Go.RowKit
namespace ArgF

theorem laidOut : laidOutB Tryz.prog = true := by kernel_rfl
section
variable {H : Type} {enc : TypeId × Value → H} {w : World}
def datF (x : Int) : DataW H := .lit (.int .u16 x)
theorem el_flag (n : Nat) (u : Value) (d : DataW H) (p : List MemPlace) (h : DataW.trod enc Tryz.prog w 0 (fun _ => true) true n 36 [u] = some (d, p)) : ∃ x : Int, u = .int .u16 x ∧ d = datF x ∧ 0 ≤ x ∧ x ≤ 65535 := by
 obtain ⟨s, h1, h2, h3⟩ := DataW.trod_int Tryz.underlying36 h
 simp at h1 h2
 have hb := bounds_u16 h3
 exact ⟨s, h1, h2.1, hb.1, hb.2⟩
def Fl : Type := { x : Int // 0 ≤ x ∧ x ≤ 65535 }
theorem open_flags {fuel : Nat} {v : Value} {d : DataW H} {p : List MemPlace} (hf : DataW.trod enc Tryz.prog w 0 (fun _ => true) true fuel 54 [v] = some (d, p)) :
  ∃ L S : List Int, So.FArg w v L ∧ (∀ x ∈ L, 0 ≤ x ∧ x ≤ 65535) ∧ ((d = .nil ∧ L = []) ∨ d = .slice (L.map datF) (S.map datF)) := by
 rcases Go.Deep.open_slice1 Tryz.underlying54 (by kernel_rfl) hf with ⟨hcs, hx⟩ | ⟨x, len', cap', m, n, V, D, Pl, hcs, _, hl, hm, hmm, hx, hV⟩
 ·simp at hcs
  subst hcs
  simp only [Prod.mk.injEq] at hx
  exact ⟨[], [], ⟨none, 0, rfl, Nat.le_refl _, Nat.zero_le _, fun _ => rfl, fun h => absurd h (by simp)⟩, fun x hx => (by cases hx), .inl ⟨hx.1, rfl⟩⟩
 ·have hv : v = .slice (some x) len' cap' := by simpa using hcs
  subst hv
  have hm2 : m = cap' := by simpa using hmm
  subst hm2
  have hX : ∀ i, i < m → ∃ y : Int, V i = .int .u16 y ∧ D i = datF y ∧ 0 ≤ y ∧ y ≤ 65535 := fun i hi => el_flag n (V i) (D i) (Pl i) (hV i hi).2
  have hss : ∀ j, j ≤ m → ∃ ss : List Int, ss.length = j ∧ ∀ (i : Nat) y, ss[i]? = some y → V i = .int .u16 y ∧ D i = datF y ∧ 0 ≤ y ∧ y ≤ 65535 := by
   intro j
   induction j with
   | zero => intro _; exact ⟨[], rfl, fun i y h => by simp at h⟩
   | succ j ih =>
    intro hj
    obtain ⟨ss, h1, h2⟩ := ih (by omega)
    obtain ⟨y, hy⟩ := hX j (by omega)
    refine ⟨ss ++ [y], by simp [h1], fun i z hz => ?_⟩
    by_cases hi : i < ss.length
    ·rw [List.getElem?_append_left hi] at hz
     exact h2 i z hz
    ·have : i = j := by
      have := (List.getElem?_eq_some_iff.1 hz).1
      simp at this
      omega
     subst this
     rw [List.getElem?_append_right (by omega)] at hz
     simp [h1] at hz
     subst hz
     exact hy
  obtain ⟨ss, h1, h2⟩ := hss m (Nat.le_refl _)
  refine ⟨ss.take len', ss.drop len', ?_, fun y hy => ?_, .inr ?_⟩
  ·have hl2 : (ss.take len').length = len' := by simp; omega
   refine ⟨some x, m, by rw [hl2], by omega, hm, fun h => (by cases h), fun h0 => ?_⟩
   rw [hl2] at h0
   have h00 : w.cell? (x.add 0) = some (.int .u16 ss[0]) := by
    have := (h2 0 ss[0] (List.getElem?_eq_getElem (by omega))).1
    rw [← this]
    exact (hV 0 (by omega)).1
   obtain ⟨b, off, spot⟩ := x
   have hspot : spot = none := by simpa [Addr.add] using World.cell?_spot h00
   subst hspot
   refine ⟨b, off, rfl, World.block_lt_of_cell? w _ h00, fun j y hy => ?_⟩
   rw [List.getElem?_take] at hy
   split at hy
   ·rename_i hjl
    have := (hV j (by omega)).1
    rw [(h2 j y hy).1, Go.WideShapes.add_plain] at this
    exact this
   ·cases hy
  ·obtain ⟨i, hi, e⟩ := List.getElem_of_mem (List.mem_of_mem_take hy)
   exact (h2 i y (by rw [List.getElem?_eq_getElem hi, e])).2.2
  ·simp only [Prod.mk.injEq] at hx
   rw [hx.1]
   congr 1
   ·apply List.ext_getElem?
    intro i
    by_cases hi : i < len'
    ·have hi2 : i < ss.length := by omega
     simp only [List.getElem?_map, List.getElem?_range hi, List.getElem?_take, if_pos hi, List.getElem?_eq_getElem hi2, Option.map_some]
     rw [(h2 i _ (List.getElem?_eq_getElem hi2)).2.1]
    ·simp [hi]
     omega
   ·apply List.ext_getElem?
    intro i
    by_cases hi : i < m - len'
    ·have hi2 : len' + i < ss.length := by omega
     simp only [List.getElem?_map, List.getElem?_range hi, List.getElem?_drop, List.getElem?_eq_getElem hi2, Option.map_some]
     rw [(h2 _ _ (List.getElem?_eq_getElem hi2)).2.1]
    ·rw [List.getElem?_eq_none (by rw [List.length_map, List.length_range]; omega), List.getElem?_eq_none (by rw [List.length_map, List.length_drop, h1]; omega)]
theorem bulk_flags (L : List Int) : L.length ≤ Rows.uptoBulkAll (H := H) (L.map datF) := by
 induction L with
 | nil => simp
 | cons x t ih =>
  simp only [List.map_cons, Rows.uptoBulkAll, datF, Rows.uptoBulk, List.length_cons]
  omega
theorem bulk_arg {d : DataW H} {L S : List Int} (hd : (d = .nil ∧ L = []) ∨ d = .slice (L.map datF) (S.map datF)) : L.length ≤ Rows.uptoBulk d := by
 rcases hd with ⟨_, rfl⟩ | rfl
 ·simp
 ·have := bulk_flags (H := H) L
  simp only [Rows.uptoBulk]
  omega
end
end ArgF
end Go.Proofs.YtidhbhdcoanfcaaGreatDoor
