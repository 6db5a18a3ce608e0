/- Layer 7: what it is that a script came in, by the form's own reach. No walk. -/
import Derived.Test.YtddfljlecnllaabArgH
import Derived.Test.YtddfljlecnllaabKn
namespace Go.Proofs.Ytddfljlecnllaab
open Go.RowKit
namespace Hp
section
variable {H : Type} {enc : TypeId × Value → H} {w : World}
theorem weight_all {e : TypeId} {l : List (DataW H)} {d : DataW H} (h : d ∈ l) {x : Nat} (hx : x ∈ d.weights Try.prog e) : x ∈ DataW.weightsAll Try.prog e l := by
  induction l with
  | nil => cases h
  | cons y t ih =>
    simp only [DataW.weightsAll, List.mem_append]
    rcases List.mem_cons.1 h with rfl | h
    · exact .inl hx
    · exact .inr (ih h)
set_option maxRecDepth 100000 in
theorem items_len {v : Value} {n : Nat} {d : DataW H} {p : List MemPlace} {X : List It} {F : Nat → Prop} (hf : DataW.trod enc Try.prog w 0 (fun _ => true) true n 25 [v] = some (d, p)) (hx : Its w v X F) (hz : (d.weights Try.prog 25).all (· ≤ reachBytes) = true) : X.length ≤ 8796093022207 := by
  rcases Go.Deep.open_slice Try.underlying25 hf with ⟨hcs, hx'⟩ | ⟨x, len', cap', m, n, D, Pl, hcs, _, hl, hm, hmm, hx', hV⟩
  · obtain rfl : v = .slice none 0 0 := by simpa using hcs
    obtain ⟨ao, cap, e, _⟩ := hx
    injection e with _ e _
    omega
  · obtain rfl : v = .slice (some x) len' cap' := by simpa using hcs
    have hm2 : m = cap' := by simpa using hmm
    subst hm2
    have hd : d = .slice ((List.range len').map D) ((List.range (m - len')).map fun j => D (len' + j)) := by simpa using congrArg Prod.fst hx'
    have hw : (len' + (m - len')) * 16 ≤ reachBytes := by
      have := List.all_eq_true.1 hz ((len' + (m - len')) * 16) (by
        rw [hd]
        simp only [DataW.weights, Try.underlying25, List.length_map, List.length_range]
        have e : Try.prog.bytesOf 30 = 16 := by kernel_rfl
        rw [e]
        exact List.mem_cons_self ..)
      simpa using this
    obtain ⟨ao, cap, e, _⟩ := hx
    injection e with _ e _
    unfold reachBytes at hw
    omega
set_option maxRecDepth 100000 in
theorem opw_of {cs : List Value} {n : Nat} {d : DataW H} {p : List MemPlace} (h : DataW.trod enc Try.prog w 0 (fun _ => true) true n 27 cs = some (d, p)) (hz : (d.weights Try.prog 27).all (· ≤ reachBytes) = true) :
    ∃ q : Op7, cs = [.int .i64 q.1, q.2.2] ∧ Its w q.2.2 q.2.1 (fun b => w.heap.size ≤ b) ∧ q.2.1.length ≤ 8796093022207 := by
  obtain ⟨xs, k, hk, hxy, hcl, hxl, hf⟩ := DataW.trod_struct Try.underlying27 h
  have hcl : cs.length = 2 := hcl.trans (by kernel_rfl)
  have hxl : xs.length = 2 := hxl
  match xs, hxl, cs, hcl with
  | [y0, y1], _, [v0, v1], _ =>
    have g0 := hf 0 _ rfl
    have g1 := hf 1 _ rfl
    have e3 : Try.prog.cellsOf 3 = 1 := by kernel_rfl
    have e22 : Try.prog.cellsOf 25 = 1 := by kernel_rfl
    simp [e3, e22] at g0 g1
    obtain ⟨k0, rfl⟩ := int_of g0
    obtain ⟨X, h1, h2⟩ := items_of (d := y1.1) (p := y1.2) g1
    have hd : d = .agg [y0.1, y1.1] := by simpa using congrArg Prod.fst hxy
    have hz1 : (y1.1.weights Try.prog 25).all (· ≤ reachBytes) = true := by
      rw [List.all_eq_true] at hz ⊢
      intro x hx
      refine hz x ?_
      rw [hd]
      simp only [DataW.weights, Try.underlying27]
      simp [DataW.weightsEach, hx]
    exact ⟨(k0, X, v1), rfl, h1, items_len (d := y1.1) (p := y1.2) g1 h1 hz1⟩
set_option maxRecDepth 100000 in
theorem open_opsw {a : Option Addr} {len cap : Nat} {d : DataW H} {p : List MemPlace} (h : DataW.Trod enc Try.prog w 0 (fun _ => true) true 22 (.slice a len cap) d p) (hz : (d.weights Try.prog 22).all (· ≤ reachBytes) = true) :
    ∃ os, ScrW w (.slice a len cap) os := by
  obtain ⟨fuel, hf⟩ := h
  rcases Go.Deep.open_slice Try.underlying22 hf with ⟨hcs, hx⟩ | ⟨x, len', cap', m, n, D, Pl, hcs, _, hl, hm, hmm, hx, hV⟩
  · simp [Value.cells] at hcs
    obtain ⟨rfl, rfl, rfl⟩ := hcs
    exact ⟨[], ⟨none, 0, rfl, by simp, fun h => absurd h (by simp)⟩, by simp, by simp⟩
  · simp [Value.cells] at hcs
    obtain ⟨rfl, rfl, rfl⟩ := hcs
    have hm2 : m = cap := by simpa using hmm
    subst hm2
    have e5 : Try.prog.cellsOf 27 = 2 := by kernel_rfl
    rw [e5] at hV
    have hd : d = .slice ((List.range len).map D) ((List.range (m - len)).map fun j => D (len + j)) := by simpa using congrArg Prod.fst hx
    have hzi : ∀ i, i < len → ((D i).weights Try.prog 27).all (· ≤ reachBytes) = true := fun i hi => by
      rw [List.all_eq_true] at hz ⊢
      intro y hy
      refine hz y ?_
      rw [hd]
      simp only [DataW.weights, Try.underlying22]
      exact List.mem_cons_of_mem _ (List.mem_append_left _ (weight_all (List.mem_map.2 ⟨i, List.mem_range.2 hi, rfl⟩) hy))
    have hq : ∀ i, i < len → ∃ q : Op7, w.cells? 0 (x.add (i * 2)) 2 = some [.int .i64 q.1, q.2.2] ∧ Its w q.2.2 q.2.1 (fun b => w.heap.size ≤ b) ∧ q.2.1.length ≤ 8796093022207 := fun i hi => by
      obtain ⟨cs', h1, h2⟩ := hV i (by omega)
      obtain ⟨q, rfl, hq⟩ := opw_of h2 (hzi i hi)
      exact ⟨q, h1, hq⟩
    obtain ⟨Q, hQ⟩ := Go.Deep.choose_lt hq
    have hll : ((List.range len).map Q).length = len := by simp
    refine ⟨(List.range len).map Q, ⟨some x, m, by rw [hll], fun p hp => ?_, fun h0 => ?_⟩, by rw [hll]; unfold maxLen at hm; omega, fun p hp => ?_⟩
    · obtain ⟨i, hi, rfl⟩ := List.mem_map.1 hp
      exact (hQ i (List.mem_range.1 hi)).2.1
    · rw [hll] at h0
      obtain ⟨_, _, c00⟩ := World.cells?_some (hQ 0 h0).1
      have h00 := c00 0 (by omega)
      obtain ⟨b, off, spot⟩ := x
      have hspot : spot = none := by simpa [Addr.add] using World.cell?_spot h00
      subst hspot
      refine ⟨b, off, rfl, ?_, fun j p hj => ?_⟩
      · have := World.block_lt_of_cell? w _ h00
        simpa [Addr.add] using this
      · have hjl : j < len := by rw [← hll]; exact (List.getElem?_eq_some_iff.1 hj).1
        simp only [List.getElem?_map, List.getElem?_range hjl, Option.map_some, Option.some.injEq] at hj
        subst hj
        obtain ⟨_, _, cc⟩ := World.cells?_some (hQ j hjl).1
        have q0 := cc 0 (by omega)
        have q1 := cc 1 (by omega)
        simp only [Go.WideShapes.add_plain] at q0 q1
        exact ⟨by simpa using q0, by simpa using q1⟩
    · obtain ⟨i, hi, rfl⟩ := List.mem_map.1 hp
      exact (hQ i (List.mem_range.1 hi)).2.2
end
end Hp
end Go.Proofs.Ytddfljlecnllaab
