/- Layer 6: Put. -/
import Derived.Test.YtigffjbefbndnaaDoorWb
import Derived.Deep.RegionHeld3
namespace Go.Proofs.YtigffjbefbndnaaDoor
open Go.RowKit
namespace Rs
/-- while the blocks of the buffer are appended to the run -/
structure Lw (w wr : World) (E : Nat → Addr) (F G : Nat → Prop) (sb wb : Nat) (x : Wri) (m : Sto) (g cap : Nat) (full : List UInt8) (F' : Nat → Prop) : Prop where
  sto : wr.heap[wb]? = some (.cells (wriC E sb x (.slice (some ⟨g, 0, none⟩) full.length cap)) 86 (0, 0))
  row : wr.ownsRow 0 5 1 (.slice (some ⟨g, 0, none⟩) full.length cap) full.length (full.map encB)
  at_ : At wr sb m F'
  sub : ∀ b, F' b → Up F w wr b
  nwb : ¬ F' wb
  ng : ¬ F' g
  gG : G g ∨ w.heap.size ≤ g
  chg : Chg (fun b => F b ∨ G b) w wr
theorem own_base0 {W : World} {B : Nat} {e : TypeId} {size n : Nat} {v : Value} {xs : List Value} (h : W.ownsRow B e size v n xs) : W.ownsRow 0 e size v n xs := by
  obtain ⟨hl, h1 | ⟨g, cap, cur, e1, h1, r⟩⟩ := h
  · exact ⟨hl, .inl h1⟩
  · exact ⟨hl, .inr ⟨g, cap, cur, e1, Nat.zero_le _, r⟩⟩
section
variable {w wr : World} {E : Nat → Addr} {F G : Nat → Prop} {sb wb : Nat} {x : Wri} {m : Sto} {g cap : Nat} {full : List UInt8} {F' : Nat → Prop}
theorem Lw.below {W : World} (h : Lw w wr E F G sb wb x m g cap full F') (hb : Below wr.heap.size wr W) : Lw w W E F G sb wb x m g cap full F' :=
  ⟨(hb.block wb (Array.getElem?_eq_some_iff.1 h.sto).1).trans h.sto, own_kept h.row fun k hk => hb.block k (h.row.lt k hk).2, h.at_.kept (fun b hF => hb.block b (h.at_.lt b hF)) (fun _ x => x) (fun b hF => Nat.lt_of_lt_of_le (h.at_.lt b hF) hb.size), fun b hF => (h.sub b hF).imp id fun y => ⟨y.1, Nat.lt_of_lt_of_le y.2 hb.size⟩, h.nwb, h.ng, h.gG, h.chg.trans (Chg.of_below hb)⟩
/-- behind a call of the store -/
theorem Lw.res {w3 : World} {m' : Sto} (h : Lw w wr E F G sb wb x m g cap full F') (r : Res F' wr sb m' w3) : Lw w w3 E F G sb wb x m' g cap full (Up F' wr w3) := by
  have l1 := (Array.getElem?_eq_some_iff.1 h.sto).1
  have l2 := (h.row.lt g rfl).2
  have l3 := h.chg.size
  have l4 := r.2.size
  refine ⟨(r.2.block wb l1 h.nwb).trans h.sto, own_kept h.row fun k hk => ?_, r.1, fun b hb => ?_, fun hb => ?_, fun hb => ?_, h.gG, h.chg.trans (r.2.mono fun b hb => ?_)⟩
  · injection hk with hk
    subst hk
    exact r.2.block _ l2 h.ng
  · rcases hb with hb | hb
    · exact (h.sub b hb).imp id fun y => ⟨y.1, by omega⟩
    · exact .inr ⟨by omega, hb.2⟩
  · rcases hb with hb | hb
    · exact h.nwb hb
    · omega
  · rcases hb with hb | hb
    · exact h.ng hb
    · omega
  · rcases h.sub b hb with y | y
    · exact .inl (.inl y)
    · exact .inr y
/-- the buffer stays as it is -/
theorem Lw.stay (h : Lw w wr E F G sb wb x m g cap full F') (hG : G wb) (hl : full.length < x.blk) (b1 : 1 ≤ x.blk) (b2 : x.blk ≤ 4096) : WRes F G w E sb wb m { x with buf := full } wr := by
  refine ⟨F', fun b => b = wb ∨ b = g, .slice (some ⟨g, 0, none⟩) full.length cap, h.at_, ⟨fun b hb => ?_, .inl rfl, h.sto, h.row, fun k hk => ?_, hl, b1, b2⟩, fun b hb hg => ?_, h.sub, fun b hb => ?_, h.chg⟩
  · rcases hb with rfl | rfl
    · exact (Array.getElem?_eq_some_iff.1 h.sto).1
    · exact (h.row.lt _ rfl).2
  · injection hk with hk
    exact .inr hk.symm
  · rcases hg with rfl | rfl
    · exact h.nwb hb
    · exact h.ng hb
  · rcases hb with rfl | rfl
    · exact .inl hG
    · exact h.gG.imp id fun y => ⟨y, (h.row.lt _ rfl).2⟩
/-- a new buffer was laid -/
theorem Lw.fresh {W : World} {u : Value} {T : List UInt8} (h : Lw w wr E F G sb wb x m g cap full F') (hG : G wb) (hu : W.ownsRow wr.heap.size 5 1 u T.length (T.map encB)) (hb : Below wr.heap.size wr W) (hl : T.length < x.blk) (b1 : 1 ≤ x.blk) (b2 : x.blk ≤ 4096) : WRes F G w E sb wb m { x with buf := T } (W.setCell ⟨wb, 3, none⟩ u) := by
  have l1 := (Array.getElem?_eq_some_iff.1 h.sto).1
  have l2 := hb.size
  have hW := h.below hb
  have hz : (W.setCell ⟨wb, 3, none⟩ u).heap.size = W.heap.size := by simp
  have hne : ∀ b, b ≠ wb → (W.setCell ⟨wb, 3, none⟩ u).heap[b]? = W.heap[b]? := fun b hb => Below.heap_setCell _ _ _ _ hb
  have hub : ∀ k, u.ownBlock = some k → wr.heap.size ≤ k ∧ k < W.heap.size := fun k hk => hu.lt k hk
  refine ⟨F', fun b => b = wb ∨ u.ownBlock = some b, u, hW.at_.kept (fun b hF => hne b fun e => h.nwb (e ▸ hF)) (fun _ x => x) (fun b hF => by rw [hz]; exact hW.at_.lt b hF), ⟨fun b hb => ?_, .inl rfl, ?_, ?_, fun k hk => .inr hk, hl, b1, b2⟩, fun b hF hg => ?_, fun b hF => ?_, fun b hg => ?_, hW.chg.setCell (.inl (.inr hG)) _⟩
  · rw [hz]
    rcases hb with rfl | hb
    · omega
    · exact (hub b hb).2
  · rw [set_heap1 hW.sto]
    simp [wriC]
  · refine own_kept (own_base0 hu) fun k hk => hne k fun e => ?_
    have := (hub k hk).1
    omega
  · rcases hg with rfl | hg
    · exact h.nwb hF
    · have := h.at_.lt b hF
      have := (hub b hg).1
      omega
  · rw [show Up F w (W.setCell ⟨wb, 3, none⟩ u) b ↔ Up F w W b by unfold Up; rw [hz]]
    exact hW.sub b hF
  · rcases hg with rfl | hg
    · exact .inl hG
    · have := hub b hg
      have := h.chg.size
      exact .inr ⟨by omega, by rw [hz]; omega⟩
/-- the writer died -/
theorem Lw.died {c : Nat} (h : Lw w wr E F G sb wb x m g cap full F') (hG : G wb) (b1 : 1 ≤ x.blk) (b2 : x.blk ≤ 4096) : WRes F G w E sb wb m { x with buf := [], dead := c } ((wr.setCell ⟨wb, 4, none⟩ (errV E c)).setCell ⟨wb, 3, none⟩ (.slice none 0 0)) := by
  have l1 := (Array.getElem?_eq_some_iff.1 h.sto).1
  have hz : ((wr.setCell ⟨wb, 4, none⟩ (errV E c)).setCell ⟨wb, 3, none⟩ (.slice none 0 0)).heap.size = wr.heap.size := by simp
  have hne : ∀ b, b ≠ wb → ((wr.setCell ⟨wb, 4, none⟩ (errV E c)).setCell ⟨wb, 3, none⟩ (.slice none 0 0)).heap[b]? = wr.heap[b]? := fun b hb => by
    rw [Below.heap_setCell _ _ _ _ hb, Below.heap_setCell _ _ _ _ hb]
  refine ⟨F', fun b => b = wb, .slice none 0 0, h.at_.kept (fun b hF => hne b fun e => h.nwb (e ▸ hF)) (fun _ x => x) (fun b hF => by rw [hz]; exact h.at_.lt b hF), ⟨fun b hb => by rw [hz, hb]; exact l1, rfl, ?_, World.ownsRow_nil _ _ _ _, fun k hk => (by cases hk), by simp; omega, b1, b2⟩, fun b hF hg => h.nwb (hg ▸ hF), fun b hF => ?_, fun b hg => .inl (hg ▸ hG), (h.chg.setCell (.inl (.inr hG)) _).setCell (.inl (.inr hG)) _⟩
  · rw [set_heap1 (set_heap1 h.sto _)]
    simp [wriC]
  · rw [show Up F w ((wr.setCell ⟨wb, 4, none⟩ (errV E c)).setCell ⟨wb, 3, none⟩ (.slice none 0 0)) b ↔ Up F w wr b by unfold Up; rw [hz]]
    exact h.sub b hF
end
end Rs
end Go.Proofs.YtigffjbefbndnaaDoor
