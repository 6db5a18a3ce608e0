/- Layer 7: what it is that a list of texts came in. No walk. -/
import Derived.Test.YtddfljlecnllaaaArgH
import Derived.Test.YtddfljlecnllaaaSf
namespace Go.Proofs.Ytddfljlecnllaaa
open Go.RowKit
namespace Hp
section
variable {H : Type} {enc : TypeId × Value → H} {w : World}
set_option maxRecDepth 100000 in
theorem open_strings7 {a : Option Addr} {len cap : Nat} {d : DataW H} {p : List MemPlace} (h : DataW.Trod enc Try.prog w 0 (fun _ => true) true 56 (.slice a len cap) d p) :
    ∃ L, Hpt.Its w (.slice a len cap) L (fun b => w.heap.size ≤ b) ∧ L.length ≤ Rows.uptoBulk d := by
  obtain ⟨fuel, hf⟩ := h
  rcases Go.Deep.open_slice Try.underlying56 hf with ⟨hcs, hx⟩ | ⟨x, len', cap', m, n, D, Pl, hcs, _, hl, hm, hmm, hx, hV⟩
  · simp [Value.cells] at hcs
    obtain ⟨rfl, rfl, rfl⟩ := hcs
    exact ⟨[], ⟨none, 0, rfl, fun h => absurd h (by simp)⟩, by simp⟩
  · simp [Value.cells] at hcs
    obtain ⟨rfl, rfl, rfl⟩ := hcs
    have hm2 : m = cap := by simpa using hmm
    subst hm2
    have e5 : Try.prog.cellsOf 9 = 1 := by kernel_rfl
    rw [e5] at hV
    have hd : d = .slice ((List.range len).map D) ((List.range (m - len)).map fun j => D (len + j)) := by simpa using congrArg Prod.fst hx
    have hq : ∀ i, i < len → ∃ q : ByteArray, w.cells? 0 (x.add (i * 1)) 1 = some [.string q] := fun i hi => by
      obtain ⟨cs', h1, h2⟩ := hV i (by omega)
      have hl1 : cs'.length = 1 := (World.cells?_some h1).2.1
      match cs', hl1 with
      | [v0], _ =>
        obtain ⟨k, hk, _, _⟩ := DataW.trod_string Try.underlying9 h2
        have hk : v0 = .string k := by simpa using hk
        subst hk
        exact ⟨k, h1⟩
    obtain ⟨Q, hQ⟩ := Go.Deep.choose_lt hq
    have hll : ((List.range len).map Q).length = len := by simp
    refine ⟨(List.range len).map Q, ⟨some x, m, by rw [hll], fun h0 => ?_⟩, ?_⟩
    · rw [hll] at h0
      obtain ⟨_, _, c00⟩ := World.cells?_some (hQ 0 h0)
      have h00 := c00 0 (by omega)
      obtain ⟨b, off, spot⟩ := x
      have hspot : spot = none := by simpa [Addr.add] using World.cell?_spot h00
      subst hspot
      have hbl : b < w.heap.size := by simpa [Addr.add] using World.block_lt_of_cell? w _ h00
      refine ⟨b, off, rfl, hbl, fun e => by omega, fun j p hj => ?_⟩
      have hjl : j < len := by rw [← hll]; exact (List.getElem?_eq_some_iff.1 hj).1
      simp only [List.getElem?_map, List.getElem?_range hjl, Option.map_some, Option.some.injEq] at hj
      subst hj
      obtain ⟨_, _, cc⟩ := World.cells?_some (hQ j hjl)
      have q0 := cc 0 (by omega)
      simp only [Go.WideShapes.add_plain] at q0
      simpa using q0
    · rw [hll, hd, Rows.uptoBulk]
      have := bulk_len ((List.range len).map D)
      simp at this
      omega
end
end Hp
end Go.Proofs.Ytddfljlecnllaaa
