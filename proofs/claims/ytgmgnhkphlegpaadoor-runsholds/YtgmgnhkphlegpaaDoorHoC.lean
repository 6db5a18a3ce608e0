/- Layer 5: the store and the book beside each other. No walk. -/
import Derived.Test.YtgmgnhkphlegpaaDoorHoB
namespace Go.Proofs.YtgmgnhkphlegpaaDoor
open Go.RowKit
namespace Rs
/-- a store and the book beside it -/
def Hb (w : World) (sb : Nat) (m : Sto) (v : Value) (bk : List (List UInt8 × Bool)) (wr : World) : Prop :=
  ∃ F, At wr sb m F ∧ (∀ b, F b → w.heap.size ≤ b) ∧ wr.ownsRow w.heap.size 42 2 v bk.length (bkC bk) ∧ (∀ g, v.ownBlock = some g → ¬ F g) ∧ Below w.heap.size w wr
theorem Hb.old {w wr : World} {sb : Nat} {m : Sto} {v : Value} {bk : List (List UInt8 × Bool)} (h : Hb w sb m v bk wr) : Below w.heap.size w wr := by
  obtain ⟨_, _, _, _, _, h⟩ := h
  exact h
theorem Hb.ok {w wr : World} {sb : Nat} {m : Sto} {v : Value} {bk : List (List UInt8 × Bool)} (h : Hb w sb m v bk wr) : m.Ok := by
  obtain ⟨_, h, _⟩ := h
  exact h.ok
theorem Hb.own {w wr : World} {sb : Nat} {m : Sto} {v : Value} {bk : List (List UInt8 × Bool)} (h : Hb w sb m v bk wr) : wr.ownsRow w.heap.size 42 2 v bk.length (bkC bk) := by
  obtain ⟨_, _, _, h, _⟩ := h
  exact h
theorem Hb.below {w wr W : World} {sb : Nat} {m : Sto} {v : Value} {bk : List (List UInt8 × Bool)} (h : Hb w sb m v bk wr) (hb : Below wr.heap.size wr W) : Hb w sb m v bk W := by
  obtain ⟨F, h1, h2, h3, h4, h5⟩ := h
  exact ⟨F, at_below h1 hb, h2, own_kept h3 fun g hg => hb.block g (h3.lt g hg).2, h4, h5.trans (hb.mono h5.size)⟩
theorem Hb.book {w wr : World} {sb : Nat} {m : Sto} {v : Value} {bk : List (List UInt8 × Bool)} (h : Hb w sb m v bk wr) : Book wr v bk := by
  have ho := h.own
  rcases id ho.2 with ⟨e, e0⟩ | ⟨g, cap, cur, e, hg, hx, _⟩
  · exact ⟨none, 0, by rw [e, e0], fun h0 => by omega⟩
  · subst e
    refine ⟨_, _, rfl, fun _ => ⟨g, rfl, (Array.getElem?_eq_some_iff.1 hx).1, fun j t b hj => ?_⟩⟩
    have hjl := (List.getElem?_eq_some_iff.1 hj).1
    obtain ⟨a1, a2⟩ := bkC_get hj
    exact ⟨by rw [ho.cellAt (j * 2) (by omega)]; exact a1, by rw [ho.cellAt (j * 2 + 1) (by omega)]; exact a2⟩
theorem hb_play {w wr W : World} {E : Nat → Addr} {sb : Nat} {m : Sto} {v : Value} {bk : List (List UInt8 × Bool)} {p : Op5 × Value} (V : Env w E w.heap.size) (h : Hb w sb m v bk wr) (hb : Below wr.heap.size wr W) (hin : OpIn w p) :
    Calls Tryd.prog 12 #[.pointer (some ⟨sb, 0, none⟩), opV p.1 p.2] W fun e w' => ∃ lv, e = .returned (ansV (ply m p.1).1 lv) ∧ Hb w sb (ply m p.1).2 v bk w' ∧ IntsN W.heap.size w' lv (ply m p.1).1.l ∧ W.heap.size ≤ w'.heap.size ∧ ∀ b, wr.heap.size ≤ b → b < W.heap.size → w'.heap[b]? = W.heap[b]? := by
  obtain ⟨F0, k1, k2, k3, k4, k5⟩ := h
  have hbw := k5.trans (hb.mono k5.size)
  refine (plays_any (at_below k1 hb) (V.below hbw) k2 hbw.size hin.ok (hin.st.below hbw)).mono ?_
  rintro e w' ⟨lv, rfl, r, i⟩
  have k3' := own_kept k3 (W' := W) fun g hg => hb.block g (k3.lt g hg).2
  refine ⟨lv, rfl, ⟨_, r.1, fun b hb => ?_, own_kept k3' fun g hg => r.2.block g (k3'.lt g hg).2 (k4 g hg), fun g hg hF => ?_, hbw.trans (r.2.below hbw.size k2)⟩, i, r.2.size, fun b x y => r.2.block b y fun hF => by have := k1.lt b hF; omega⟩
  · rcases hb with x | x
    · exact k2 b x
    · have := hbw.size; omega
  · rcases hF with x | x
    · exact k4 g hg x
    · have := (k3'.lt g hg).2; omega
/-- the book grew -/
theorem Hb.push {w wr w5 : World} {sb : Nat} {m : Sto} {v v' : Value} {bk : List (List UInt8 × Bool)} (h : Hb w sb m v bk wr) (ho : w5.ownsRow w.heap.size 42 2 v' (bk.length + 1) (bkC bk ++ [.string (strB []), .bool true])) (hg : wr.grownBy w5 v.ownBlock) (ha : v'.ownBlock = v.ownBlock ∨ v'.ownBlock = some wr.heap.size) : Hb w sb m v' (bk ++ [([], true)]) w5 := by
  obtain ⟨F, h1, h2, h3, h4, h5⟩ := h
  have hc : Chg (fun b => v.ownBlock = some b) wr w5 := (Chg.refl _ wr).grown hg fun k hk => .inl hk
  refine ⟨F, h1.apart hc fun b e hF => h4 b e hF, h2, by rw [bkC_app, List.length_append]; exact ho, fun g hg hF => ?_, h5.trans (hc.below h5.size fun k hk => (h3.lt k hk).1)⟩
  rcases ha with e | e
  · rw [e] at hg; exact h4 g hg hF
  · rw [e] at hg
    injection hg with hg
    have := h1.lt g hF
    omega
/-- a cell of the book was set -/
theorem Hb.set {w wr : World} {sb g cap : Nat} {m : Sto} {bk bk' : List (List UInt8 × Bool)} (h : Hb w sb m (.slice (some ⟨g, 0, none⟩) bk.length cap) bk wr) (j : Nat) (u : Value) (hl : bk'.length = bk.length) (he : (bkC bk).set j u = bkC bk') : Hb w sb m (.slice (some ⟨g, 0, none⟩) bk.length cap) bk' (wr.setCell ⟨g, j, none⟩ u) := by
  obtain ⟨F, h1, h2, h3, h4, h5⟩ := h
  have hc : Chg (fun b => b = g) wr (wr.setCell ⟨g, j, none⟩ u) := (Chg.refl (fun b => b = g) wr).setCell (p := ⟨g, j, none⟩) (.inl rfl) u
  refine ⟨F, h1.apart hc fun b e hF => ?_, h2, by rw [hl, ← he]; exact (h3.stored j u).1, h4, h5.trans (hc.below h5.size fun k hk => ?_)⟩
  · rw [e] at hF; exact h4 g rfl hF
  · rw [hk]; exact (h3.lt g rfl).1
theorem IntsN.sliced {w : World} {v : Value} {K : List Int} {B : Nat} (h : IntsN B w v K) : ∃ a c, v = .slice a K.length c := by
  obtain ⟨⟨a, c, e, _⟩, _⟩ := h
  exact ⟨a, c, e⟩
theorem op_cells {w : World} {g : Nat} {a b c d e : Value} (h : w.heap[g]? = some (.cells #[a, b, c, d, e] 30 (0, 0))) : w.cell? ⟨g, 0, none⟩ = some a ∧ w.cell? ⟨g, 1, none⟩ = some b ∧ w.cell? ⟨g, 4, none⟩ = some e := by
  refine ⟨?_, ?_, ?_⟩ <;> simp [World.cell?, h]
theorem hb_holds {w wr : World} {E : Nat → Addr} {sb : Nat} {m : Sto} {v : Value} {bk : List (List UInt8 × Bool)} {c : Int} (V : Env w E w.heap.size) (h : Hb w sb m v bk wr) (ht : Tells m bk) (hc : (m.cap : Int) ≤ max 0 c) :
    Calls Tryd.prog 16 #[.pointer (some ⟨sb, 0, none⟩), v, .int .i64 c] wr fun e w' => e = .returned (.bool true) ∧ Hb w sb m v bk w' := by
  obtain ⟨F, h1, h2, h3, h4, h5⟩ := id h
  refine (holds_law h1 (V.below h5) h2 h5.size h.book ht hc).mono ?_
  rintro e w' ⟨rfl, hb⟩
  exact ⟨rfl, h.below hb⟩
theorem hb_made {w wr : World} {sb : Nat} {m : Sto} {v : Value} {bk : List (List UInt8 × Bool)} (h : Hb w sb m v bk wr) : Calls Tryd.prog 15 #[.pointer (some ⟨sb, 0, none⟩)] wr fun e w' => e = .returned (.int .i64 m.made) ∧ w' = wr := by
  obtain ⟨F, h1, _⟩ := h
  exact made_any h1
theorem strB_app (t : List UInt8) (s : ByteArray) : strB t ++ s = strB (t ++ s.data.toList) := by
  apply ByteArray.ext
  simp [strB, ByteArray.data_append]
theorem cell_two_new (w : World) (x y : Value) (t : TypeId) : ∀ j u, [x, y][j]? = some u → (w.alloc (.cells #[x, y] t)).cell? ((⟨w.heap.size, 0, none⟩ : Addr).add j) = some u := by
  intro j u hj
  match j, hj with
  | 0, hj =>
    simp at hj
    subst hj
    simp [Addr.add]
  | 1, hj =>
    simp at hj
    subst hj
    simp [Addr.add]
theorem cell_two_at (w : World) (o : Obj) (x y : Value) (t : TypeId) : ∀ j u, [x, y][j]? = some u → ((w.alloc o).alloc (.cells #[x, y] t)).cell? ((⟨w.heap.size + 1, 0, none⟩ : Addr).add j) = some u := by
  have := cell_two_new (w.alloc o) x y t
  simpa using this
theorem book_keeps {w wr w3 w5 : World} {sb : Nat} {m : Sto} {v : Value} {bk : List (List UInt8 × Bool)} {o1 o2 : Obj} (hB : Hb w sb m v bk wr) (hz : wr.heap.size < w3.heap.size) (hg : ((w3.alloc o1).alloc o2).grownBy w5 v.ownBlock) : w5.heap[w3.heap.size]? = some o1 ∧ w5.heap[wr.heap.size]? = w3.heap[wr.heap.size]? := by
  have hl := hB.own.lt
  refine ⟨?_, ?_⟩
  · rw [hg.block w3.heap.size (by simp; omega) (fun e => by have := (hl _ e.symm).2; omega), Below.heap_alloc _ _ _ (by simp)]
    exact (MapKept.heap_alloc w3 o1).1
  · rw [hg.block wr.heap.size (by simp; omega) (fun e => by have := (hl _ e.symm).2; omega), Below.heap_alloc _ _ _ (by simp; omega), Below.heap_alloc _ _ _ hz]
theorem below_drewN (w : World) (n B : Nat) : Below B w (w.drewN n) := ⟨rfl, rfl, rfl, Nat.le_refl _, fun _ _ => rfl⟩
theorem set_same {α : Type} {l : List α} {i : Nat} {x : α} (h : l[i]? = some x) : l.set i x = l := by
  apply List.ext_getElem?
  intro j
  rw [List.getElem?_set]
  by_cases e : i = j
  · subst e
    rw [if_pos rfl, if_pos (List.getElem?_eq_some_iff.1 h).1, h]
  · rw [if_neg e]
theorem set_get {α : Type} {l : List α} {i : Nat} {x : α} (h : i < l.length) : (l.set i x)[i]? = some x := by simp [h]
theorem Hb.at {w wr : World} {sb : Nat} {m : Sto} {ba : Option Addr} {bc : Nat} {bk : List (List UInt8 × Bool)} (h : Hb w sb m (.slice ba bk.length bc) bk wr) (h0 : 0 < bk.length) : ∃ g, ba = some ⟨g, 0, none⟩ ∧ g < wr.heap.size := by
  rcases id h.own.2 with ⟨e, e0⟩ | ⟨g, cap, cur, e, hg, hx, _⟩
  · omega
  · injection e with e _ _
    exact ⟨g, e, (Array.getElem?_eq_some_iff.1 hx).1⟩
theorem Hb.cells {w wr : World} {sb g bc n : Nat} {m : Sto} {bk : List (List UInt8 × Bool)} (h : Hb w sb m (.slice (some ⟨g, 0, none⟩) n bc) bk wr) (hn : n = bk.length) {j : Nat} {t : List UInt8} {b : Bool} (hj : bk[j]? = some (t, b)) : wr.cell? ⟨g, j * 2, none⟩ = some (.string (strB t)) ∧ wr.cell? ⟨g, j * 2 + 1, none⟩ = some (.bool b) ∧ ∀ k, wr.frozen? ⟨g, k, none⟩ = false := by
  subst hn
  have hjl := (List.getElem?_eq_some_iff.1 hj).1
  obtain ⟨a1, a2⟩ := bkC_get hj
  exact ⟨by rw [h.own.cellAt (j * 2) (by omega)]; exact a1, by rw [h.own.cellAt (j * 2 + 1) (by omega)]; exact a2, fun k => h.own.frozenAt k⟩
theorem Hb.setb {w wr : World} {sb g cap n : Nat} {m : Sto} {bk bk' : List (List UInt8 × Bool)} (h : Hb w sb m (.slice (some ⟨g, 0, none⟩) n cap) bk wr) (hn : n = bk.length) (j : Nat) (u : Value) (hl : bk'.length = bk.length) (he : (bkC bk).set j u = bkC bk') : Hb w sb m (.slice (some ⟨g, 0, none⟩) n cap) bk' (wr.setCell ⟨g, j, none⟩ u) := by
  subst hn
  exact h.set j u hl he
theorem info_held : (Tryd.prog.info? 42).map (fun i => (i.zero, i.size, i.bytes)) = some (some (.agg #[.string ByteArray.empty, .bool false]), 2, 24) := by kernel_rfl
end Rs
end Go.Proofs.YtgmgnhkphlegpaaDoor
