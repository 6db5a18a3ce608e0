/- Layer 7: what it is that a list of items, a script or a list of numbers came in. No walk. -/
import Derived.Test.YtddfljlecnllaaaHt
import Derived.Test.YtddfljlecnllaaaRows
import Derived.ProofKit
import Derived.OpenShut
import Derived.Deep.Slices
import Derived.SizedLaws
namespace Go.Proofs.Ytddfljlecnllaaa
open Go.RowKit
namespace Hp
theorem laidOut : laidOutB Try.prog = true := by kernel_rfl
section
variable {H : Type} {enc : TypeId × Value → H} {w : World}
theorem bulk_pos (d : DataW H) : 1 ≤ Rows.uptoBulk d := by
  cases d with
  | lit l => cases l <;> simp [Rows.uptoBulk]
  | _ => simp [Rows.uptoBulk]
theorem bulk_len : ∀ l : List (DataW H), l.length ≤ Rows.uptoBulkAll l
  | [] => by simp [Rows.uptoBulkAll]
  | d :: t => by
    have := bulk_len t
    have := bulk_pos d
    simp only [Rows.uptoBulkAll, List.length_cons]
    omega
set_option maxRecDepth 100000 in
theorem int_of {v : Value} {n : Nat} {x : DataW H × List MemPlace} (h : DataW.trod enc Try.prog w 0 (fun _ => true) true n 3 [v] = some x) : ∃ k : Int, v = .int .i64 k := by
  obtain ⟨k, hk, _, hw⟩ := DataW.trod_int Try.underlying3 h
  exact ⟨k, by simpa using hk⟩
set_option maxRecDepth 100000 in
theorem item_of {cs : List Value} {n : Nat} {d : DataW H} {p : List MemPlace} (h : DataW.trod enc Try.prog w 0 (fun _ => true) true n 39 cs = some (d, p)) :
    ∃ q : It, cs = [.int .i64 q.1, .int .i64 q.2] := by
  obtain ⟨xs, k, hk, hxy, hcl, hxl, hf⟩ := DataW.trod_struct Try.underlying39 h
  have hcl : cs.length = 2 := hcl.trans (by kernel_rfl)
  have hxl : xs.length = 2 := hxl
  match xs, hxl, cs, hcl with
  | [y0, y1], _, [v0, v1], _ =>
    have g0 := hf 0 _ rfl
    have g1 := hf 1 _ rfl
    have e3 : Try.prog.cellsOf 3 = 1 := by kernel_rfl
    simp [e3] at g0 g1
    obtain ⟨k0, rfl⟩ := int_of g0
    obtain ⟨k1, rfl⟩ := int_of g1
    exact ⟨(k0, k1), rfl⟩
set_option maxRecDepth 100000 in
theorem items_of {v : Value} {n : Nat} {d : DataW H} {p : List MemPlace} (hf : DataW.trod enc Try.prog w 0 (fun _ => true) true n 22 [v] = some (d, p)) :
    ∃ X, Its w v X (fun b => w.heap.size ≤ b) ∧ X.length ≤ Rows.uptoBulk d := by
  rcases Go.Deep.open_slice Try.underlying22 hf with ⟨hcs, hx⟩ | ⟨x, len', cap', m, n, D, Pl, hcs, _, hl, hm, hmm, hx, hV⟩
  · obtain rfl : v = .slice none 0 0 := by simpa using hcs
    exact ⟨[], ⟨none, 0, rfl, fun h => absurd h (by simp)⟩, by simp⟩
  · obtain rfl : v = .slice (some x) len' cap' := by simpa using hcs
    have hm2 : m = cap' := by simpa using hmm
    subst hm2
    have e5 : Try.prog.cellsOf 39 = 2 := by kernel_rfl
    rw [e5] at hV
    have hd : d = .slice ((List.range len').map D) ((List.range (m - len')).map fun j => D (len' + j)) := by simpa using congrArg Prod.fst hx
    have hq : ∀ i, i < len' → ∃ q : It, w.cells? 0 (x.add (i * 2)) 2 = some [.int .i64 q.1, .int .i64 q.2] := fun i hi => by
      obtain ⟨cs', h1, h2⟩ := hV i (by omega)
      obtain ⟨q, rfl⟩ := item_of h2
      exact ⟨q, h1⟩
    obtain ⟨Q, hQ⟩ := Go.Deep.choose_lt hq
    have hll : ((List.range len').map Q).length = len' := by simp
    refine ⟨(List.range len').map Q, ⟨some x, m, by rw [hll], fun h0 => ?_⟩, ?_⟩
    · rw [hll] at h0
      obtain ⟨_, _, c00⟩ := World.cells?_some (hQ 0 h0)
      have h00 := c00 0 (by omega)
      obtain ⟨b, off, spot⟩ := x
      have hspot : spot = none := by simpa [Addr.add] using World.cell?_spot h00
      subst hspot
      have hbl : b < w.heap.size := by simpa [Addr.add] using World.block_lt_of_cell? w _ h00
      refine ⟨b, off, rfl, hbl, fun e => by omega, fun j p hj => ?_⟩
      have hjl : j < len' := by rw [← hll]; exact (List.getElem?_eq_some_iff.1 hj).1
      have hp : p = Q j := by
        rw [List.getElem?_map, List.getElem?_range hjl] at hj
        simpa using hj.symm
      subst hp
      obtain ⟨_, _, cj⟩ := World.cells?_some (hQ j hjl)
      have k0 := cj 0 (by omega)
      have k1 := cj 1 (by omega)
      rw [Go.WideShapes.add_plain, Go.WideShapes.add_plain] at k0 k1
      exact ⟨k0, k1⟩
    · rw [hll, hd, Rows.uptoBulk]
      have := bulk_len ((List.range len').map D)
      simp at this
      omega
theorem open_items {a : Option Addr} {len cap : Nat} {d : DataW H} {p : List MemPlace} (h : DataW.Trod enc Try.prog w 0 (fun _ => true) true 22 (.slice a len cap) d p) :
    ∃ X, Its w (.slice a len cap) X (fun b => w.heap.size ≤ b) ∧ X.length ≤ Rows.uptoBulk d := by
  obtain ⟨fuel, hf⟩ := h
  exact items_of hf
end
end Hp
end Go.Proofs.Ytddfljlecnllaaa
