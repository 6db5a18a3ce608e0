/- Layer 7: what it is that a script came in. No walk. -/
import Derived.Test.YtddfljlecnllaaaArgH
import Derived.Test.YtddfljlecnllaaaKn0
namespace Go.Proofs.Ytddfljlecnllaaa
open Go.RowKit
namespace Hp
section
variable {H : Type} {enc : TypeId × Value → H} {w : World}
set_option maxRecDepth 100000 in
theorem op_of {cs : List Value} {n : Nat} {d : DataW H} {p : List MemPlace} (h : DataW.trod enc Try.prog w 0 (fun _ => true) true n 34 cs = some (d, p)) :
    ∃ q : Op7, cs = [.int .i64 q.1, q.2.2] ∧ Its w q.2.2 q.2.1 (fun b => w.heap.size ≤ b) ∧ q.2.1.length + 1 ≤ Rows.uptoBulk d := by
  obtain ⟨xs, k, hk, hxy, hcl, hxl, hf⟩ := DataW.trod_struct Try.underlying34 h
  have hcl : cs.length = 2 := hcl.trans (by kernel_rfl)
  have hxl : xs.length = 2 := hxl
  match xs, hxl, cs, hcl with
  | [y0, y1], _, [v0, v1], _ =>
    have g0 := hf 0 _ rfl
    have g1 := hf 1 _ rfl
    have e3 : Try.prog.cellsOf 3 = 1 := by kernel_rfl
    have e22 : Try.prog.cellsOf 22 = 1 := by kernel_rfl
    simp [e3, e22] at g0 g1
    obtain ⟨k0, rfl⟩ := int_of g0
    obtain ⟨X, h1, h2⟩ := items_of (d := y1.1) (p := y1.2) g1
    have hd : d = .agg [y0.1, y1.1] := by simpa using congrArg Prod.fst hxy
    refine ⟨(k0, X, v1), rfl, h1, ?_⟩
    rw [hd]
    simp only [Rows.uptoBulk, Rows.uptoBulkAll]
    omega
theorem bulk_sum (Q : Nat → Op7) (D : Nat → DataW H) : ∀ (len : Nat), (∀ i, i < len → (Q i).2.1.length + 1 ≤ Rows.uptoBulk (D i)) → sumX ((List.range len).map Q) + len ≤ Rows.uptoBulkAll ((List.range len).map D)
  | 0, _ => by simp [sumX]
  | n + 1, h => by
    have ih := bulk_sum Q D n fun i hi => h i (by omega)
    have e : ∀ (l : List (DataW H)) (x : DataW H), Rows.uptoBulkAll (l ++ [x]) = Rows.uptoBulkAll l + Rows.uptoBulk x := fun l x => by
      induction l with
      | nil => simp [Rows.uptoBulkAll]
      | cons y t ih => simp only [List.cons_append, Rows.uptoBulkAll, ih]; omega
    rw [List.range_succ, List.map_append, List.map_append, List.map_singleton, List.map_singleton, e, sumX_snoc]
    have := h n (by omega)
    omega
set_option maxRecDepth 100000 in
theorem open_ops7 {a : Option Addr} {len cap : Nat} {d : DataW H} {p : List MemPlace} (h : DataW.Trod enc Try.prog w 0 (fun _ => true) true 23 (.slice a len cap) d p) :
    ∃ os, Scr w (.slice a len cap) os ∧ sumX os + os.length ≤ Rows.uptoBulk d := by
  obtain ⟨fuel, hf⟩ := h
  rcases Go.Deep.open_slice Try.underlying23 hf with ⟨hcs, hx⟩ | ⟨x, len', cap', m, n, D, Pl, hcs, _, hl, hm, hmm, hx, hV⟩
  · simp [Value.cells] at hcs
    obtain ⟨rfl, rfl, rfl⟩ := hcs
    exact ⟨[], ⟨none, 0, rfl, by simp, fun h => absurd h (by simp)⟩, by simp [sumX]⟩
  · simp [Value.cells] at hcs
    obtain ⟨rfl, rfl, rfl⟩ := hcs
    have hm2 : m = cap := by simpa using hmm
    subst hm2
    have e5 : Try.prog.cellsOf 34 = 2 := by kernel_rfl
    rw [e5] at hV
    have hd : d = .slice ((List.range len).map D) ((List.range (m - len)).map fun j => D (len + j)) := by simpa using congrArg Prod.fst hx
    have hq : ∀ i, i < len → ∃ q : Op7, w.cells? 0 (x.add (i * 2)) 2 = some [.int .i64 q.1, q.2.2] ∧ Its w q.2.2 q.2.1 (fun b => w.heap.size ≤ b) ∧ q.2.1.length + 1 ≤ Rows.uptoBulk (D i) := fun i hi => by
      obtain ⟨cs', h1, h2⟩ := hV i (by omega)
      obtain ⟨q, rfl, hq⟩ := op_of h2
      exact ⟨q, h1, hq⟩
    obtain ⟨Q, hQ⟩ := Go.Deep.choose_lt hq
    have hll : ((List.range len).map Q).length = len := by simp
    refine ⟨(List.range len).map Q, ⟨some x, m, by rw [hll], fun p hp => ?_, fun h0 => ?_⟩, ?_⟩
    · obtain ⟨i, hi, rfl⟩ := List.mem_map.1 hp
      exact (hQ i (List.mem_range.1 hi)).2.1
    · rw [hll] at h0
      obtain ⟨_, _, c00⟩ := World.cells?_some (hQ 0 h0).1
      have h00 := c00 0 (by omega)
      obtain ⟨b, off, spot⟩ := x
      have hspot : spot = none := by simpa [Addr.add] using World.cell?_spot h00
      subst hspot
      refine ⟨b, off, rfl, ?_, fun j p hj => ?_⟩
      · have := World.block_lt_of_cell? w _ h00
        simpa [Addr.add] using this
      · have hjl : j < len := by rw [← hll]; exact (List.getElem?_eq_some_iff.1 hj).1
        simp only [List.getElem?_map, List.getElem?_range hjl, Option.map_some, Option.some.injEq] at hj
        subst hj
        obtain ⟨_, _, cc⟩ := World.cells?_some (hQ j hjl).1
        have q0 := cc 0 (by omega)
        have q1 := cc 1 (by omega)
        simp only [Go.WideShapes.add_plain] at q0 q1
        exact ⟨by simpa using q0, by simpa using q1⟩
    · have := bulk_sum Q D len fun i hi => (hQ i hi).2.2
      rw [hll, hd, Rows.uptoBulk]
      omega
end
end Hp
end Go.Proofs.Ytddfljlecnllaaa
