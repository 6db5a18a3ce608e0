/- Layer 5: what it is that a script came in. No walk. -/
import Derived.Test.YtdlmpogmoepkjaaDoorPlB
import Derived.ProofKit
import Derived.OpenShut
import Derived.Deep.Slices
import Derived.SizedLaws
namespace Go.Proofs.YtdlmpogmoepkjaaDoor
open Go.RowKit
namespace Rs
theorem laidOut : laidOutB Tryd.prog = true := by kernel_rfl
structure OpAt (w : World) (g o : Nat) (p : Op5 × Value) : Prop where
  c0 : w.cell? ⟨g, o, none⟩ = some (.int .i64 p.1.kd)
  c1 : w.cell? ⟨g, o + 1, none⟩ = some (.int .i64 p.1.run)
  c2 : w.cell? ⟨g, o + 2, none⟩ = some (.int .i64 p.1.at_)
  c3 : w.cell? ⟨g, o + 3, none⟩ = some (.int .i64 p.1.n)
  c4 : w.cell? ⟨g, o + 4, none⟩ = some p.2
structure OpIn (w : World) (p : Op5 × Value) : Prop where
  ok : p.1.Ok
  st : Strs w p.2 p.1.L
  lt : ∀ g off n c, p.2 = .slice (some ⟨g, off, none⟩) n c → 0 < n → g < w.heap.size
def Script (w : World) (v : Value) (os : List (Op5 × Value)) : Prop :=
  ∃ ao cap, v = .slice ao os.length cap ∧ os.length ≤ 9223372036854775807 ∧ (∀ p ∈ os, OpIn w p) ∧ (0 < os.length → ∃ g off, ao = some ⟨g, off, none⟩ ∧ g < w.heap.size ∧ ∀ (j : Nat) p, os[j]? = some p → OpAt w g (off + j * 5) p)
section
variable {H : Type} {enc : TypeId × Value → H} {w : World}
theorem weight_all {e : TypeId} {l : List (DataW H)} {d : DataW H} (h : d ∈ l) {x : Nat} (hx : x ∈ d.weights Tryd.prog e) : x ∈ DataW.weightsAll Tryd.prog e l := by
  induction l with
  | nil => cases h
  | cons y t ih =>
    simp only [DataW.weightsAll, List.mem_append]
    rcases List.mem_cons.1 h with rfl | h
    · exact .inl hx
    · exact .inr (ih h)
theorem strs_of {v : Value} {n : Nat} {d : DataW H} {p : List MemPlace} (h : DataW.trod enc Tryd.prog w 0 (fun _ => true) true n 28 [v] = some (d, p)) (hz : (d.weights Tryd.prog 28).all (· ≤ reachBytes) = true) :
    ∃ L, Strs w v L ∧ L.length ≤ 8796093022208 ∧ ∀ g off n c, v = .slice (some ⟨g, off, none⟩) n c → 0 < n → g < w.heap.size := by
  rcases Go.Deep.open_slice1 Tryd.underlying28 (by kernel_rfl) h with ⟨hcs, hx⟩ | ⟨x, len', cap', m, n', V, D, Pl, hcs, _, hl, hm, hmm, hx, hV⟩
  · obtain rfl : v = .slice none 0 0 := by simpa using hcs
    exact ⟨[], ⟨none, 0, rfl, by simp, fun h => absurd h (by simp)⟩, by simp, fun g off n c e => by cases e⟩
  · obtain rfl : v = .slice (some x) len' cap' := by simpa using hcs
    have hm2 : m = cap' := by simpa using hmm
    subst hm2
    have hs : ∀ i, i < m → ∃ s : ByteArray, V i = .string s := fun i hi => by
      obtain ⟨s, hs, _⟩ := DataW.trod_string Tryd.underlying9 (hV i hi).2
      exact ⟨s, by simpa using hs⟩
    have hd : d = .slice ((List.range len').map D) ((List.range (m - len')).map fun j => D (len' + j)) := by simpa using congrArg Prod.fst hx
    have hw : (len' + (m - len')) * 16 ≤ reachBytes := by
      have := List.all_eq_true.1 hz ((len' + (m - len')) * 16) (by
        rw [hd]
        simp only [DataW.weights, Tryd.underlying28, List.length_map, List.length_range]
        have e : Tryd.prog.bytesOf 9 = 16 := by kernel_rfl
        rw [e]
        exact List.mem_cons_self ..)
      simpa using this
    have hlen : len' ≤ 8796093022208 := by unfold reachBytes at hw; omega
    let L := (List.range len').map fun i => match V i with | .string s => s | _ => ByteArray.empty
    have hLl : L.length = len' := by simp [L]
    have hcell : ∀ (j : Nat) s, L[j]? = some s → w.cell? (x.add j) = some (.string s) := fun j s hj => by
      have hjl : j < len' := by rw [← hLl]; exact (List.getElem?_eq_some_iff.1 hj).1
      obtain ⟨s', hs'⟩ := hs j (by omega)
      have hc := (hV j (by omega)).1
      simp only [L, List.getElem?_map, List.getElem?_range hjl, Option.map_some, hs', Option.some.injEq] at hj
      rw [hc, hs', hj]
    refine ⟨L, ?_, by omega, fun g off n c e h0 => ?_⟩
    · refine ⟨some x, m, by rw [hLl], by omega, fun h0 => ?_⟩
      have h00 := hcell 0 L[0] (List.getElem?_eq_getElem h0)
      obtain ⟨b, off, spot⟩ := x
      have hspot : spot = none := by simpa [Addr.add] using World.cell?_spot h00
      subst hspot
      exact ⟨b, off, rfl, World.block_lt_of_cell? w _ h00, fun j s hj => by
        have := hcell j s hj
        rwa [Go.WideShapes.add_plain] at this⟩
    · injection e with e1 e2 _
      injection e1 with e1
      have h00 := hcell 0 L[0] (List.getElem?_eq_getElem (by omega))
      have := World.block_lt_of_cell? w _ h00
      rw [e1] at this
      simpa [Addr.add] using this
set_option maxRecDepth 100000 in
theorem int_of {v : Value} {n : Nat} {x : DataW H × List MemPlace} (h : DataW.trod enc Tryd.prog w 0 (fun _ => true) true n 3 [v] = some x) : ∃ k : Int, v = .int .i64 k ∧ -9223372036854775808 ≤ k ∧ k ≤ 9223372036854775807 := by
  obtain ⟨k, hk, _, hw⟩ := DataW.trod_int Tryd.underlying3 h
  exact ⟨k, by simpa using hk, bounds_i64 hw⟩
set_option maxRecDepth 100000 in
theorem op_of {cs : List Value} {n : Nat} {d : DataW H} {p : List MemPlace} (h : DataW.trod enc Tryd.prog w 0 (fun _ => true) true n 30 cs = some (d, p)) (hz : (d.weights Tryd.prog 30).all (· ≤ reachBytes) = true) :
    ∃ q : Op5 × Value, cs = [.int .i64 q.1.kd, .int .i64 q.1.run, .int .i64 q.1.at_, .int .i64 q.1.n, q.2] ∧ OpIn w q := by
  obtain ⟨xs, k, hk, hxy, hcl, hxl, hf⟩ := DataW.trod_struct Tryd.underlying30 h
  have hcl : cs.length = 5 := hcl.trans (by kernel_rfl)
  have hxl : xs.length = 5 := hxl
  match xs, hxl, cs, hcl with
  | [y0, y1, y2, y3, y4], _, [v0, v1, v2, v3, v4], _ =>
    have g0 := hf 0 _ rfl
    have g1 := hf 1 _ rfl
    have g2 := hf 2 _ rfl
    have g3 := hf 3 _ rfl
    have g4 := hf 4 _ rfl
    have e3 : Tryd.prog.cellsOf 3 = 1 := by kernel_rfl
    have e28 : Tryd.prog.cellsOf 28 = 1 := by kernel_rfl
    simp [e3, e28] at g0 g1 g2 g3 g4
    obtain ⟨k0, rfl, a0, b0⟩ := int_of g0
    obtain ⟨k1, rfl, a1, b1⟩ := int_of g1
    obtain ⟨k2, rfl, a2, b2⟩ := int_of g2
    obtain ⟨k3, rfl, a3, b3⟩ := int_of g3
    have hd : d = .agg [y0.1, y1.1, y2.1, y3.1, y4.1] := by simpa using congrArg Prod.fst hxy
    have hz4 : (y4.1.weights Tryd.prog 28).all (· ≤ reachBytes) = true := by
      rw [List.all_eq_true] at hz ⊢
      intro x hx
      refine hz x ?_
      rw [hd]
      simp only [DataW.weights, Tryd.underlying30]
      simp [DataW.weightsEach, hx]
    obtain ⟨L, s1, s2, s3⟩ := strs_of (d := y4.1) (p := y4.2) g4 hz4
    exact ⟨(⟨k0, k1, k2, k3, L⟩, v4), rfl, ⟨a0, b0, a1, b1, a2, b2, a3, b3, s2⟩, s1, s3⟩
instance : Inhabited (Op5 × Value) := ⟨(⟨0, 0, 0, 0, []⟩, .nilIface)⟩
set_option maxRecDepth 100000 in
theorem open_script {a : Option Addr} {len cap : Nat} {d : DataW H} {p : List MemPlace} (h : DataW.Trod enc Tryd.prog w 0 (fun _ => true) true 22 (.slice a len cap) d p) (hz : (d.weights Tryd.prog 22).all (· ≤ reachBytes) = true) :
    ∃ os, Script w (.slice a len cap) os := by
  obtain ⟨fuel, hf⟩ := h
  rcases Go.Deep.open_slice Tryd.underlying22 hf with ⟨hcs, hx⟩ | ⟨x, len', cap', m, n, D, Pl, hcs, _, hl, hm, hmm, hx, hV⟩
  · simp [Value.cells] at hcs
    obtain ⟨rfl, rfl, rfl⟩ := hcs
    exact ⟨[], none, 0, rfl, by simp, by simp, fun h => absurd h (by simp)⟩
  · simp [Value.cells] at hcs
    obtain ⟨rfl, rfl, rfl⟩ := hcs
    have hm2 : m = cap := by simpa using hmm
    subst hm2
    have e5 : Tryd.prog.cellsOf 30 = 5 := by kernel_rfl
    rw [e5] at hV
    have hd : d = .slice ((List.range len).map D) ((List.range (m - len)).map fun j => D (len + j)) := by simpa using congrArg Prod.fst hx
    have hzi : ∀ i, i < len → ((D i).weights Tryd.prog 30).all (· ≤ reachBytes) = true := fun i hi => by
      rw [List.all_eq_true] at hz ⊢
      intro y hy
      refine hz y ?_
      rw [hd]
      simp only [DataW.weights, Tryd.underlying22]
      exact List.mem_cons_of_mem _ (List.mem_append_left _ (weight_all (List.mem_map.2 ⟨i, List.mem_range.2 hi, rfl⟩) hy))
    have hq : ∀ i, i < len → ∃ q : Op5 × Value, w.cells? 0 (x.add (i * 5)) 5 = some [.int .i64 q.1.kd, .int .i64 q.1.run, .int .i64 q.1.at_, .int .i64 q.1.n, q.2] ∧ OpIn w q := fun i hi => by
      obtain ⟨cs', h1, h2⟩ := hV i (by omega)
      obtain ⟨q, rfl, hq⟩ := op_of h2 (hzi i hi)
      exact ⟨q, h1, hq⟩
    obtain ⟨Q, hQ⟩ := Go.Deep.choose_lt hq
    have hll : ((List.range len).map Q).length = len := by simp
    refine ⟨(List.range len).map Q, some x, m, by rw [hll], by unfold maxLen at hm; omega, fun p hp => ?_, fun h0 => ?_⟩
    · obtain ⟨i, hi, rfl⟩ := List.mem_map.1 hp
      exact (hQ i (List.mem_range.1 hi)).2
    · rw [hll] at h0
      obtain ⟨_, _, c00⟩ := World.cells?_some (hQ 0 h0).1
      have h00 := c00 0 (by omega)
      obtain ⟨b, off, spot⟩ := x
      have hspot : spot = none := by simpa [Addr.add] using World.cell?_spot h00
      subst hspot
      refine ⟨b, off, rfl, ?_, fun j p hj => ?_⟩
      · have := World.block_lt_of_cell? w _ h00
        simpa [Addr.add] using this
      · have hjl : j < len := by rw [← hll]; exact (List.getElem?_eq_some_iff.1 hj).1
        simp only [List.getElem?_map, List.getElem?_range hjl, Option.map_some, Option.some.injEq] at hj
        subst hj
        obtain ⟨_, _, cc⟩ := World.cells?_some (hQ j hjl).1
        have q0 := cc 0 (by omega)
        have q1 := cc 1 (by omega)
        have q2 := cc 2 (by omega)
        have q3 := cc 3 (by omega)
        have q4 := cc 4 (by omega)
        simp only [Go.WideShapes.add_plain] at q0 q1 q2 q3 q4
        exact ⟨by simpa using q0, by simpa using q1, by simpa using q2, by simpa using q3, by simpa using q4⟩
end
theorem Script.below {w w' : World} {v : Value} {os : List (Op5 × Value)} (h : Script w v os) (hb : Below w.heap.size w w') : Script w' v os := by
  obtain ⟨ao, cap, e, hl, h1, h2⟩ := h
  refine ⟨ao, cap, e, hl, fun p hp => ⟨(h1 p hp).ok, (h1 p hp).st.below hb, fun g off n c e h0 => Nat.lt_of_lt_of_le ((h1 p hp).lt g off n c e h0) hb.size⟩, fun h0 => ?_⟩
  obtain ⟨g, off, e1, hg, hc⟩ := h2 h0
  refine ⟨g, off, e1, Nat.lt_of_lt_of_le hg hb.size, fun j p hj => ?_⟩
  have q := hc j p hj
  have l : ∀ o, w'.cell? ⟨g, o, none⟩ = w.cell? ⟨g, o, none⟩ := fun o => hb.cell (p := ⟨g, o, none⟩) hg
  exact ⟨by rw [l]; exact q.c0, by rw [l]; exact q.c1, by rw [l]; exact q.c2, by rw [l]; exact q.c3, by rw [l]; exact q.c4⟩
end Rs
end Go.Proofs.YtdlmpogmoepkjaaDoor
