/- Layer 7: the walk of HeapKeeps. -/
import Derived.Test.YtddfljlecnllaabKh
namespace Go.Proofs.Ytddfljlecnllaab
open Go.RowKit
namespace Hp
theorem rowI_set (A : List It) (i : Nat) (x : It) : ((rowI A).set (i * 2) (.int .i64 x.1)).set (i * 2 + 1) (.int .i64 x.2) = rowI (A.set i x) := by
  induction A generalizing i with
  | nil => simp [rowI]
  | cons y t ih =>
    rcases i with _ | i
    · rfl
    · have := ih i
      rw [rowI_cons, List.set_cons_succ, rowI_cons, ← this]
      rw [show (i + 1) * 2 = i * 2 + 1 + 1 by omega]
      rfl
/-- a row of items of that length, whatever they are -/
def RowL (w : World) (v : Value) (n : Nat) : Prop := ∃ L : List It, L.length = n ∧ w.ownsRow 0 30 2 v n (rowI L)
/-- an item of it was written -/
theorem RowL.put {w : World} {g n c i : Nat} (h : RowL w (.slice (some ⟨g, 0, none⟩) n c) n) (hi : i < n) (x : It) :
    (∃ u, w.cell? ⟨g, i * 2, none⟩ = some u) ∧ (∃ u, w.cell? ⟨g, i * 2 + 1, none⟩ = some u) ∧ (∀ k, w.frozen? ⟨g, k, none⟩ = false) ∧ RowL ((w.setCell ⟨g, i * 2, none⟩ (.int .i64 x.1)).setCell ⟨g, i * 2 + 1, none⟩ (.int .i64 x.2)) (.slice (some ⟨g, 0, none⟩) n c) n := by
  obtain ⟨L, hl, h⟩ := h
  have hl2 := h.1
  refine ⟨⟨_, (h.cellAt (i * 2) (by omega)).trans (List.getElem?_eq_getElem (by omega))⟩, ⟨_, (h.cellAt (i * 2 + 1) (by omega)).trans (List.getElem?_eq_getElem (by omega))⟩, fun k => h.frozenAt k, L.set i x, by simpa using hl, ?_⟩
  rw [← rowI_set]
  exact ((h.stored (i * 2) _).1.stored (i * 2 + 1) _).1
theorem RowL.slice {w : World} {v : Value} {n : Nat} (h : RowL w v n) : ∃ a c, v = .slice a n c := by
  obtain ⟨L, _, h⟩ := h
  exact own_slice h
theorem RowL.some_ {w : World} {a : Option Addr} {n m c : Nat} (h : RowL w (.slice a n c) m) (h0 : 0 < m) : ∃ g, a = some ⟨g, 0, none⟩ := by
  obtain ⟨L, _, h⟩ := h
  rcases h.2 with ⟨e1, e2⟩ | ⟨g, cap, cur, e1, _⟩
  · omega
  · injection e1 with e1 _ _; exact ⟨g, e1⟩
/-- a row that grows behind the front that it had -/
structure Gr (w0 : World) (v0 : Value) (n : Nat) (v : Value) (k : Nat) (wr : World) : Prop where
  row : RowL wr v (n + k)
  blk : v.ownBlock = v0.ownBlock ∨ ∃ g, v.ownBlock = some g ∧ w0.heap.size ≤ g
  chg : Chg (fun b => v0.ownBlock = some b) w0 wr
theorem Gr.push {w0 wr : World} {v0 v : Value} {n k : Nat} (h : Gr w0 v0 n v k wr) (x : It) (hz : n + k ≤ 1099511627776) (ty : TypeId) :
    ∃ a c W', (Builtin.append_ #[25, 25] ty #[v, .slice (some ⟨wr.heap.size, 0, none⟩) 1 1]).run Try.prog (wr.alloc (.cells #[.int .i64 x.1, .int .i64 x.2] 30)) = .ok (.slice a (n + (k + 1)) c) W' ∧ Gr w0 v0 n (.slice a (n + (k + 1)) c) (k + 1) W' := by
  obtain ⟨L, hl, hrow⟩ := h.row
  have hb : Below wr.heap.size wr (wr.alloc (.cells #[.int .i64 x.1, .int .i64 x.2] 30)) := (Below.refl _ _).alloc (Nat.le_refl _) _
  rw [← hl] at hrow
  have hrow' := own_kept hrow fun g hg => hb.block g (hrow.lt g hg).2
  have hit : Its (wr.alloc (.cells #[.int .i64 x.1, .int .i64 x.2] 30)) (.slice (some ⟨wr.heap.size, 0, none⟩) 1 1) [x] (fun _ => False) := by
    refine ⟨_, _, rfl, fun _ => ⟨_, _, rfl, by simp, fun e => e, fun j y hj => ?_⟩⟩
    rcases j with _ | j
    · simp at hj; subst hj; exact ⟨by simp, by simp⟩
    · simp at hj
  obtain ⟨v', W', hrun, hown, hg, hbk⟩ := push_items hrow' hit (by simp; omega) ty
  obtain ⟨a, c, rfl⟩ := own_slice hown
  have e : (L ++ [x]).length = n + (k + 1) := by simp; omega
  rw [e] at hrun hbk hown
  have s0 := h.chg.size
  refine ⟨a, c, W', hrun, ⟨⟨L ++ [x], e, hown⟩, ?_, (h.chg.then (Chg.of_below hb)).grown hg fun b hb' => ?_⟩⟩
  · rcases hbk with q | q
    · rw [q]; exact h.blk
    · exact .inr ⟨_, q, by simp; omega⟩
  · rcases h.blk with q | ⟨g, q, hq⟩
    · exact .inl (by rw [← q]; exact hb')
    · rw [q] at hb'; injection hb' with hb'; exact .inr (by omega)
theorem its_take {w : World} {g n m c : Nat} {X Y : List It} {F : Nat → Prop} (h : w.ownsRow 0 30 2 (.slice (some ⟨g, 0, none⟩) m c) m (rowI (X ++ Y))) (hm : m = (X ++ Y).length) (hn : n = X.length) (hF : ¬ F g) : Its w (.slice (some ⟨g, 0, none⟩) n c) X F := by
  subst hn
  refine ⟨_, _, rfl, fun _ => ⟨g, 0, rfl, (h.lt g rfl).2, hF, fun j x hj => ?_⟩⟩
  have hjl := (List.getElem?_eq_some_iff.1 hj).1
  have hj' : (X ++ Y)[j]? = some x := by rw [List.getElem?_append_left hjl]; exact hj
  obtain ⟨a1, a2⟩ := rowI_get hj'
  rw [Nat.zero_add]
  have : m = X.length + Y.length := by rw [hm]; simp
  exact ⟨by rw [h.cellAt (j * 2) (by omega)]; exact a1, by rw [h.cellAt (j * 2 + 1) (by omega)]; exact a2⟩
end Hp
end Go.Proofs.Ytddfljlecnllaab
