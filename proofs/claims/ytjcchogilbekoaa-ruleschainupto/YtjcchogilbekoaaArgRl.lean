/- Layer 15: what it is that a list of rules came in. No walk. -/
import Derived.Test.YtjcchogilbekoaaArgRu
import Derived.Test.YtjcchogilbekoaaTe5
namespace Go.Proofs.Ytjcchogilbekoaa
open Go.RowKit
namespace Hp
theorem laidOut : laidOutB Try.prog = true := by kernel_rfl
section
variable {H : Type} {enc : TypeId × Value → H} {w : World}
open Rv
theorem bulk_pos (d : DataW H) : 1 ≤ Rows.uptoBulk d := by
  cases d with
  | lit l => cases l <;> simp [Rows.uptoBulk]
  | _ => simp [Rows.uptoBulk]
def tw : List RuB → Nat
  | [] => 0
  | x :: t => x.st.size + x.ad.size + 1 + tw t
theorem tw_append : ∀ (A B : List RuB), tw (A ++ B) = tw A + tw B
  | [], B => by simp [tw]
  | x :: A, B => by rw [List.cons_append, tw, tw, tw_append A B]; omega
theorem bulk_all (D : Nat → DataW H) (Q : Nat → RuB) (h : Nat → Prop) : ∀ m, (∀ i, i < m → (Q i).st.size + (Q i).ad.size + 1 ≤ Rows.uptoBulk (D i)) → tw ((List.range m).map Q) ≤ Rows.uptoBulkAll ((List.range m).map D)
  | 0, _ => by simp [tw]
  | m + 1, hm => by
    have ih := bulk_all D Q h m fun i hi => hm i (by omega)
    have e : ∀ (A B : List (DataW H)), Rows.uptoBulkAll (A ++ B) = Rows.uptoBulkAll A + Rows.uptoBulkAll B := fun A B => by
      induction A with
      | nil => simp [Rows.uptoBulkAll]
      | cons a A ih => rw [List.cons_append, Rows.uptoBulkAll, Rows.uptoBulkAll, ih]; omega
    have := hm m (by omega)
    rw [List.range_succ, List.map_append, List.map_append, tw_append, e]
    simp only [List.map_cons, List.map_nil, tw, Rows.uptoBulkAll]
    omega
set_option maxRecDepth 100000 in
set_option maxHeartbeats 1000000 in
theorem rule_of {cs : List Value} {n : Nat} {d : DataW H} {p : List MemPlace} (h : DataW.trod enc Try.prog w 0 (fun _ => true) true n 26 cs = some (d, p)) :
    ∃ q : RuB, cs = q.cs ∧ q.st.size + q.ad.size + 1 ≤ Rows.uptoBulk d := by
  obtain ⟨xs, k, hk, hxy, hcl, hxl, hf⟩ := DataW.trod_struct Try.underlying26 h
  have hcl : cs.length = 7 := hcl.trans (by kernel_rfl)
  have hxl : xs.length = 7 := hxl
  match xs, hxl, cs, hcl with
  | [y0, y1, y2, y3, y4, y5, y6], _, [v0, v1, v2, v3, v4, v5, v6], _ =>
    have g0 := hf 0 _ rfl
    have g1 := hf 1 _ rfl
    have g2 := hf 2 _ rfl
    have g3 := hf 3 _ rfl
    have g4 := hf 4 _ rfl
    have g5 := hf 5 _ rfl
    have g6 := hf 6 _ rfl
    have e3 : Try.prog.cellsOf 3 = 1 := by kernel_rfl
    have e4 : Try.prog.cellsOf 4 = 1 := by kernel_rfl
    have e9 : Try.prog.cellsOf 9 = 1 := by kernel_rfl
    have eF : Try.prog.cellsOf 23 = 1 := by kernel_rfl
    have eL : Try.prog.cellsOf 24 = 1 := by kernel_rfl
    simp [e3, e4, e9, eF, eL] at g0 g1 g2 g3 g4 g5 g6
    obtain ⟨k0, h0, e0, _⟩ := DataW.trod_int Try.underlying3 g0
    obtain ⟨k1, h1, e1, _⟩ := DataW.trod_int Try.underlying23 g1
    obtain ⟨k2, h2, e2⟩ := DataW.trod_bool Try.underlying4 g2
    obtain ⟨k3, h3, e3', _⟩ := DataW.trod_string Try.underlying9 g3
    obtain ⟨k4, h4, e4', _⟩ := DataW.trod_string Try.underlying9 g4
    obtain ⟨k5, h5, e5, _⟩ := DataW.trod_string Try.underlying9 g5
    have h7 : ∃ a len cap, v6 = .slice a len cap := by
      rcases Go.Deep.open_slice1 Try.underlying24 (by kernel_rfl) g6 with ⟨hcs, _⟩ | ⟨x, len', cap', m, n, V, D, Pl, hcs, _⟩
      · exact ⟨_, _, _, by simpa using hcs⟩
      · exact ⟨_, _, _, by simpa using hcs⟩
    obtain ⟨ao, nl, nc, rfl⟩ := h7
    simp only [List.cons.injEq, and_true] at h0 h1 h2 h3 h4 h5
    subst h0; subst h1; subst h2; subst h3; subst h4; subst h5
    refine ⟨⟨k0, k1, k2, k3, k4, k5, ao, nl, nc⟩, rfl, ?_⟩
    have hd : d = .agg [y0.1, y1.1, y2.1, y3.1, y4.1, y5.1, y6.1] := by simpa using congrArg Prod.fst hxy
    rw [hd, e3', e4']
    have s3 : k3.data.toList.length = k3.size := by simp
    have s4 : k4.data.toList.length = k4.size := by simp
    simp only [Rows.uptoBulk, Rows.uptoBulkAll, s3, s4]
    show k3.size + k4.size + 1 ≤ _
    omega
set_option maxRecDepth 100000 in
theorem rules_of {v : Value} {n : Nat} {d : DataW H} {p : List MemPlace} (hf : DataW.trod enc Try.prog w 0 (fun _ => true) true n 36 [v] = some (d, p)) :
    ∃ X, RulesAt w v X w.heap.size ∧ tw X ≤ Rows.uptoBulk d := by
  rcases Go.Deep.open_slice Try.underlying36 hf with ⟨hcs, hx⟩ | ⟨x, len', cap', m, n, D, Pl, hcs, _, hl, hm, hmm, hx, hV⟩
  · obtain rfl : v = .slice none 0 0 := by simpa using hcs
    exact ⟨[], ⟨none, 0, rfl, fun h => absurd h (by simp)⟩, by simp [tw]⟩
  · obtain rfl : v = .slice (some x) len' cap' := by simpa using hcs
    have hm2 : m = cap' := by simpa using hmm
    subst hm2
    have e5 : Try.prog.cellsOf 26 = 7 := by kernel_rfl
    rw [e5] at hV
    have hd : d = .slice ((List.range len').map D) ((List.range (m - len')).map fun j => D (len' + j)) := by simpa using congrArg Prod.fst hx
    have hq : ∀ i, i < len' → ∃ q : RuB, w.cells? 0 (x.add (i * 7)) 7 = some q.cs ∧ q.st.size + q.ad.size + 1 ≤ Rows.uptoBulk (D i) := fun i hi => by
      obtain ⟨cs', h1, h2⟩ := hV i (by omega)
      obtain ⟨q, rfl, hb⟩ := rule_of h2
      exact ⟨q, h1, hb⟩
    have hI : Inhabited RuB := ⟨⟨0, 0, false, ByteArray.empty, ByteArray.empty, ByteArray.empty, none, 0, 0⟩⟩
    obtain ⟨Q, hQ⟩ := Go.Deep.choose_lt hq
    have hll : ((List.range len').map Q).length = len' := by simp
    refine ⟨(List.range len').map Q, ⟨some x, m, by rw [hll], fun h0 => ?_⟩, ?_⟩
    · rw [hll] at h0
      obtain ⟨_, _, c00⟩ := World.cells?_some (hQ 0 h0).1
      have h00 := c00 0 (by omega)
      obtain ⟨b, off, spot⟩ := x
      have hspot : spot = none := by simpa [Addr.add] using World.cell?_spot h00
      subst hspot
      have hbl : b < w.heap.size := by simpa [Addr.add] using World.block_lt_of_cell? w _ h00
      refine ⟨b, off, rfl, hbl, fun j p hj i u hu => ?_⟩
      have hjl : j < len' := by rw [← hll]; exact (List.getElem?_eq_some_iff.1 hj).1
      have hp : p = Q j := by
        rw [List.getElem?_map, List.getElem?_range hjl] at hj
        simpa using hj.symm
      subst hp
      obtain ⟨_, _, cj⟩ := World.cells?_some (hQ j hjl).1
      have hi : i < 7 := (List.getElem?_eq_some_iff.1 hu).1
      have k0 := cj i hi
      rw [Go.WideShapes.add_plain, Go.WideShapes.add_plain] at k0
      rw [k0, ← hu]
    · rw [hd, Rows.uptoBulk]
      have := bulk_all D Q (fun _ => True) len' fun i hi => (hQ i hi).2
      omega
theorem open_rules {a : Option Addr} {len cap : Nat} {d : DataW H} {p : List MemPlace} (h : DataW.Trod enc Try.prog w 0 (fun _ => true) true 36 (.slice a len cap) d p) :
    ∃ X, RulesAt w (.slice a len cap) X w.heap.size ∧ X.length + Rv.tw X ≤ Rows.uptoBulk d := by
  obtain ⟨fuel, hf⟩ := h
  obtain ⟨X, h1, h2⟩ := rules_of hf
  refine ⟨X, h1, Nat.le_trans ?_ h2⟩
  clear h1 h2
  induction X with
  | nil => exact Nat.le_refl _
  | cons x t ih => rw [List.length_cons, Rv.tw, tw]; omega
end
end Hp
end Go.Proofs.Ytjcchogilbekoaa
