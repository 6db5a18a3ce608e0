/- Layer 8: what it is that a list of lists of texts came in. No walk. -/
import Derived.Test.YtamlfmohalkemaaArgM
import Derived.Test.YtamlfmohalkemaaZac
namespace Go.Proofs.Ytamlfmohalkemaa
open Go.RowKit
namespace Sm
section
variable {H : Type} {enc : TypeId × Value → H} {w : World}
theorem bulk_sum (Lf : Nat → List Tx) (D : Nat → DataW H) (V : Nat → Value) : ∀ is : List Nat, (∀ i ∈ is, (Lf i).length ≤ Rows.uptoBulk (D i)) → (allOf (is.map fun i => (V i, Lf i))).length ≤ Rows.uptoBulkAll (is.map D)
  | [], _ => by simp [allOf, lsOf]
  | i :: t, h => by
    have h1 := bulk_sum Lf D V t fun j hj => h j (List.mem_cons_of_mem _ hj)
    have h2 := h i (by simp)
    simp only [allOf, lsOf, List.map_cons, List.flatten_cons, List.length_append, Rows.uptoBulkAll] at h1 ⊢
    omega
theorem open_lists {v : Value} {n : Nat} {d : DataW H} {p : List MemPlace} (h : DataW.trod enc Try.prog w 0 (fun _ => true) true n 22 [v] = some (d, p)) :
    ∃ Ls : List (Value × List Tx), PRow w v Ls w.heap.size ∧ (∀ p ∈ Ls, CRow w p.1 p.2 (fun _ => True)) ∧ Ls.length ≤ Rows.uptoBulk d ∧ (allOf Ls).length ≤ Rows.uptoBulk d := by
  rcases Go.Deep.open_slice1 Try.underlying22 (by kernel_rfl) h with ⟨hcs, hx⟩ | ⟨x, len', cap', m, n', V, D, Pl, hcs, _, hl, hm, hmm, hx, hV⟩
  · obtain rfl : v = .slice none 0 0 := by simpa using hcs
    exact ⟨[], ⟨none, 0, rfl, fun h => absurd h (by simp)⟩, (fun p hp => by cases hp), by simp, by simp [allOf, lsOf]⟩
  · obtain rfl : v = .slice (some x) len' cap' := by simpa using hcs
    have hm2 : m = cap' := by simpa using hmm
    subst hm2
    have hL : ∀ i, i < len' → ∃ L, CRow w (V i) L (fun _ => True) ∧ L.length ≤ Rows.uptoBulk (D i) := fun i hi => by
      obtain ⟨L, h1, h2, _⟩ := open_row (hV i (by omega)).2
      exact ⟨L, h1, h2⟩
    have hd : d = .slice ((List.range len').map D) ((List.range (m - len')).map fun j => D (len' + j)) := by simpa using congrArg Prod.fst hx
    let Lf : Nat → List Tx := fun i => if h : i < len' then Classical.choose (hL i h) else []
    have hLf : ∀ i, i < len' → CRow w (V i) (Lf i) (fun _ => True) ∧ (Lf i).length ≤ Rows.uptoBulk (D i) := fun i hi => by
      have : Lf i = Classical.choose (hL i hi) := by simp only [Lf]; rw [dif_pos hi]
      rw [this]
      exact Classical.choose_spec (hL i hi)
    have hb := bulk_sum Lf D V (List.range len') fun i hi => (hLf i (List.mem_range.1 hi)).2
    refine ⟨(List.range len').map fun i => (V i, Lf i), ⟨some x, m, by simp, fun h0 => ?_⟩, fun p hp => ?_, ?_, ?_⟩
    · have h0' : 0 < len' := by simpa using h0
      have h00 := (hV 0 (by omega)).1
      obtain ⟨b, off, spot⟩ := x
      have hspot : spot = none := by simpa [Addr.add] using World.cell?_spot h00
      subst hspot
      refine ⟨b, off, rfl, World.block_lt_of_cell? w _ h00, fun j p hj => ?_⟩
      have hjl : j < len' := by have := (List.getElem?_eq_some_iff.1 hj).1; simpa using this
      simp only [List.getElem?_map, List.getElem?_range hjl, Option.map_some, Option.some.injEq] at hj
      subst hj
      have := (hV j (by omega)).1
      rwa [Go.WideShapes.add_plain] at this
    · obtain ⟨i, hi, rfl⟩ := List.mem_map.1 hp
      exact (hLf i (List.mem_range.1 hi)).1
    · rw [hd, Rows.uptoBulk]
      have := bulk_len ((List.range len').map D)
      simp at this ⊢
      omega
    · rw [hd, Rows.uptoBulk]
      omega
theorem open_lists8 {a : Option Addr} {len cap : Nat} {d : DataW H} {p : List MemPlace} (h : DataW.Trod enc Try.prog w 0 (fun _ => true) true 22 (.slice a len cap) d p) :
    ∃ Ls : List (Value × List Tx), PRow w (.slice a len cap) Ls w.heap.size ∧ (∀ p ∈ Ls, CRow w p.1 p.2 (fun _ => True)) ∧ Ls.length ≤ Rows.uptoBulk d ∧ (allOf Ls).length ≤ Rows.uptoBulk d := by
  obtain ⟨fuel, hf⟩ := h
  exact open_lists (v := .slice a len cap) hf
end
end Sm
end Go.Proofs.Ytamlfmohalkemaa
