/- Layer 15: the law's rule, its twin of the document's and its wakes; RulesApply, RulesUndo, RulesBack. -/
import Derived.Test.YtjcchogilbekoabTc2
import Derived.KernelRfl
namespace Go.Proofs.Ytjcchogilbekoab
open Go.RowKit
namespace Pt
open Cd

/-- a boxed rule, and all that was below it as it was -/
structure At7 (w w1 : World) (v0 v1 v2 v3 v4 v5 v6 : Value) : Prop where
  c0 : w1.cell? ⟨w.heap.size, 0, none⟩ = some v0
  c1 : w1.cell? ⟨w.heap.size, 1, none⟩ = some v1
  c2 : w1.cell? ⟨w.heap.size, 2, none⟩ = some v2
  c3 : w1.cell? ⟨w.heap.size, 3, none⟩ = some v3
  c4 : w1.cell? ⟨w.heap.size, 4, none⟩ = some v4
  c5 : w1.cell? ⟨w.heap.size, 5, none⟩ = some v5
  c6 : w1.cell? ⟨w.heap.size, 6, none⟩ = some v6
  lt : w.heap.size < w1.heap.size
  bel : Below w.heap.size w w1
theorem At7.new {w w1 : World} {v0 v1 v2 v3 v4 v5 v6 : Value} {T : TypeId} (hb : Below (w.alloc (.cells #[v0, v1, v2, v3, v4, v5, v6] T)).heap.size (w.alloc (.cells #[v0, v1, v2, v3, v4, v5, v6] T)) w1) : At7 w w1 v0 v1 v2 v3 v4 v5 v6 := by
  obtain ⟨c0, c1, c2, c3, c4, c5, c6⟩ := box7 hb
  exact ⟨c0, c1, c2, c3, c4, c5, c6, by have := hb.size; simp at this; omega, ((Below.refl _ w).alloc (Nat.le_refl _) _).trans (hb.mono (by simp))⟩
theorem At7.step {w w1 w2 : World} {v0 v1 v2 v3 v4 v5 v6 : Value} (h : At7 w w1 v0 v1 v2 v3 v4 v5 v6) (hb : Below w1.heap.size w1 w2) : At7 w w2 v0 v1 v2 v3 v4 v5 v6 := by
  have g : ∀ j v, w1.cell? ⟨w.heap.size, j, none⟩ = some v → w2.cell? ⟨w.heap.size, j, none⟩ = some v := fun j v e => (hb.cell (p := ⟨w.heap.size, j, none⟩) h.lt).trans e
  exact ⟨g _ _ h.c0, g _ _ h.c1, g _ _ h.c2, g _ _ h.c3, g _ _ h.c4, g _ _ h.c5, g _ _ h.c6, Nat.lt_of_lt_of_le h.lt hb.size, h.bel.trans (hb.mono (Nat.le_of_lt h.lt))⟩

set_option maxHeartbeats 1000000 in
set_option maxRecDepth 100000 in
theorem ies_any (w : World) :
    Calls Try.prog 8 #[] w fun e w' => e = .returned (.agg #[.int .i64 2, .int .u16 0, .bool false, .string ⟨#[121]⟩, .string ⟨#[105, 101, 115]⟩, .string ⟨#[91, 94, 97, 101, 105, 111, 117, 93, 121]⟩, .slice none 0 0]) ∧ Below w.heap.size w w' := by
  go_enter Try.func8, Try.ntmps8
  go_wp2
  refine bodyPost_ret (v := .agg #[.int .i64 2, .int .u16 0, .bool false, .string ⟨#[121]⟩, .string ⟨#[105, 101, 115]⟩, .string ⟨#[91, 94, 97, 101, 105, 111, 117, 93, 121]⟩, .slice none 0 0]) ?_ rfl ?_
  · simp [results, Try.results8, go_sem]
  · refine ⟨rfl, ?_⟩
    (repeat (first | exact Below.refl _ _ | refine Below.drew ?_ | refine Below.alloc ?_ (by first | (simp; done) | (simp; omega)) _ | refine Below.setCell ?_ (by first | (simp; done) | (simp; omega)) _))
theorem wk15 : ansV (Ta.app (ruR 2 ⟨#[121]⟩ ⟨#[105, 101, 115]⟩ ⟨#[91, 94, 97, 101, 105, 111, 117, 93, 121]⟩) [102, 108, 121]) = .tuple #[.string ⟨#[102, 108, 105, 101, 115]⟩, .bool true] ∧ ansV (Ta.und (ruR 2 ⟨#[121]⟩ ⟨#[105, 101, 115]⟩ ⟨#[91, 94, 97, 101, 105, 111, 117, 93, 121]⟩) [102, 108, 105, 101, 115]) = .tuple #[.string ⟨#[102, 108, 121]⟩, .bool true] ∧ Ta.fits (ruR 2 ⟨#[121]⟩ ⟨#[105, 101, 115]⟩ ⟨#[91, 94, 97, 101, 105, 111, 117, 93, 121]⟩) [100, 97, 121] = false := ⟨by kernel_rfl, by kernel_rfl, by kernel_rfl⟩
set_option maxHeartbeats 1000000 in
set_option maxRecDepth 100000 in
theorem wakes15_any (w : World) : Calls Try.prog 4 #[] w fun e w' => e = .returned (.bool true) ∧ Below w.heap.size w w' := by
  obtain ⟨e1, e2, e3⟩ := wk15
  have HA := hide (fun W => app_any 2 0 false ⟨#[121]⟩ ⟨#[105, 101, 115]⟩ ⟨#[91, 94, 97, 101, 105, 111, 117, 93, 121]⟩ none 0 0 ⟨#[102, 108, 121]⟩ W (by decide))
  have HU := hide (fun W => und_any 2 0 false ⟨#[121]⟩ ⟨#[105, 101, 115]⟩ ⟨#[91, 94, 97, 101, 105, 111, 117, 93, 121]⟩ none 0 0 ⟨#[102, 108, 105, 101, 115]⟩ W (by decide))
  have HF := hide (fun W => fits_any 2 0 false ⟨#[121]⟩ ⟨#[105, 101, 115]⟩ ⟨#[91, 94, 97, 101, 105, 111, 117, 93, 121]⟩ none 0 0 ⟨#[100, 97, 121]⟩ W (by decide))
  rw [e1] at HA
  rw [e2] at HU
  rw [e3] at HF
  clear e1 e2 e3
  go_enter Try.func4, Try.ntmps4
  go_wp2_with fail
  refine (ies_any _).mono ?_
  rintro e w1 ⟨rfl, hb1⟩
  have B1 := hide hb1
  clear hb1
  go_wp2_with fail
  refine (unhide HA _).mono ?_
  rintro e w2 ⟨rfl, hb2⟩
  have B2 := hide ((unhide B1).trans (hb2.mono (unhide B1).size))
  clear hb2
  go_wp2_with fail
  refine (ies_any _).mono ?_
  rintro e w3 ⟨rfl, hb3⟩
  have B3 := hide ((unhide B2).trans (hb3.mono (unhide B2).size))
  clear hb3
  go_wp2_with fail
  refine (unhide HU _).mono ?_
  rintro e w4 ⟨rfl, hb4⟩
  have B4 := hide ((unhide B3).trans (hb4.mono (unhide B3).size))
  clear hb4
  go_wp2_with fail
  refine (ies_any _).mono ?_
  rintro e w5 ⟨rfl, hb5⟩
  have B5 := hide ((unhide B4).trans (hb5.mono (unhide B4).size))
  clear hb5
  go_wp2_with fail
  refine (unhide HF _).mono ?_
  rintro e w6 ⟨rfl, hb6⟩
  have B6 := hide ((unhide B5).trans (hb6.mono (unhide B5).size))
  clear hb6
  go_wp2
  go_ret
  exact ⟨rfl, unhide B6⟩
end Pt
end Go.Proofs.Ytjcchogilbekoab
