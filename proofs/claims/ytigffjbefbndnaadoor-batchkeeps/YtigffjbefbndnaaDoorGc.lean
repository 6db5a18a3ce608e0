/- Layer 9: the document's Of (layer 8's). -/
import Derived.Test.YtigffjbefbndnaaDoorQa
import Derived.Test.YtigffjbefbndnaaDoorUs9
import Derived.Test.YtigffjbefbndnaaDoorFu
namespace Go.Proofs.YtigffjbefbndnaaDoor
open Go.RowKit Go.Shelf
namespace Rs
open Sm (Tx ofS lt lt_def lt_tr lt_tri rs_nil rs_cons rs_snoc rs_ext ofS_rs ofS_mem ofS_len)
namespace Kz

theorem ofS_nil : ofS [] = [] := rs_ext (ofS_rs _) rs_nil fun x => by rw [ofS_mem]
theorem ofS_one (x : Tx) : ofS [x] = [x] := rs_ext (ofS_rs _) (by simp [Sm.Rs]) fun z => by rw [ofS_mem]
theorem ofS_halves (A C : List Tx) : ofS (ofS A ++ ofS C) = ofS (A ++ C) := rs_ext (ofS_rs _) (ofS_rs _) fun z => by rw [ofS_mem, ofS_mem, List.mem_append, List.mem_append, ofS_mem, ofS_mem]
theorem own_one (w : World) (x : Tx) : Own (w.alloc (.cells #[.string x] 9)) (.slice (some ⟨w.heap.size, 0, none⟩) 1 1) [x] :=
  ⟨by simp [txs], .inr ⟨w.heap.size, 1, #[.string x], rfl, Nat.zero_le _, World.alloc_heap_new w _, Nat.le_refl _, by unfold maxLen; omega, rfl, rfl⟩⟩

set_option maxRecDepth 100000 in
set_option maxHeartbeats 2000000 in
theorem rof_any : ∀ (m : Nat) (w : World) (v : Value) (A : List Tx), A.length ≤ m → CRow w v A (fun _ => True) → A.length ≤ 8796093022208 →
    Calls Tryd.prog 20 #[v] w fun e w' => ∃ a c, e = .returned (.slice a (ofS A).length c) ∧ Own w' (.slice a (ofS A).length c) (ofS A) ∧ (∀ g, (Value.slice a (ofS A).length c).ownBlock = some g → w.heap.size ≤ g) ∧ Below w.heap.size w w' := by
  intro m
  induction m with
  | zero =>
    intro w v A hm h hz
    have hA := List.eq_nil_of_length_eq_zero (Nat.le_zero.1 hm)
    subst hA
    obtain ⟨a, c, rfl⟩ := h.slice
    rw [ofS_nil]
    clear h hm hz
    simp only [List.length_nil]
    go_enter Tryd.func20, Tryd.ntmps20
    go_wp2
    go_ret
    exact ⟨none, 0, rfl, World.ownsRow_nil _ _ _ _, (fun g hg => by cases hg), Below.refl _ _⟩
  | succ m ih =>
    intro w v A hm h hz
    obtain ⟨a, c, rfl⟩ := h.slice
    by_cases h0 : A.length = 0
    · have hA := List.eq_nil_of_length_eq_zero h0
      subst hA
      rw [ofS_nil]
      clear h hm hz ih h0
      simp only [List.length_nil]
      go_enter Tryd.func20, Tryd.ntmps20
      go_wp2
      go_ret
      exact ⟨none, 0, rfl, World.ownsRow_nil _ _ _ _, (fun g hg => by cases hg), Below.refl _ _⟩
    · by_cases h1 : A.length = 1
      · obtain ⟨x, rfl⟩ := List.length_eq_one_iff.1 h1
        rw [ofS_one]
        obtain ⟨ao, c', e, hc, hat⟩ := h
        obtain ⟨g, off, rfl, _, hg, hcell⟩ := hat (by simp)
        injection e with e1 e2 e3
        subst e1 e3
        have k1 : w.cell? ⟨g, off, none⟩ = some (.string x) := hcell 0 x rfl
        have HF := hide (own_one w x)
        clear hm hz ih h0 h1 hat hcell hc e2
        simp only [List.length_singleton]
        go_enter Tryd.func20, Tryd.ntmps20
        go_wp2
        go_ret
        exact ⟨some ⟨w.heap.size, 0, none⟩, 1, rfl, unhide HF, fun g' hg' => by have e : w.heap.size = g' := by injection hg'
                                                                                omega, by (repeat (first | exact Below.refl _ _ | refine Below.drew ?_ | refine Below.alloc ?_ (by first | (simp; done) | (simp; omega)) _ | refine Below.setCell ?_ (by first | (simp; done) | (simp; omega)) _))⟩
      · have hn2 : 2 ≤ A.length := by omega
        have hcc : A.length ≤ c := by obtain ⟨ao', c', e, hc, hat⟩ := h; injection e with e1 e2 e3; omega
        obtain ⟨g, off, rfl, hg⟩ : ∃ g off, a = some ⟨g, off, none⟩ ∧ g < w.heap.size := by
          obtain ⟨ao', c', e, hc, hat⟩ := h
          injection e with e1 e2 e3
          obtain ⟨g, off, e4, _, e5, _⟩ := hat (by omega)
          exact ⟨g, off, by rw [e1, e4], e5⟩
        have H1 := hide (ih w (.slice (some ⟨g, off, none⟩) (A.length / 2) c) (A.take (A.length / 2)) (by simp; omega) (h.front (by omega)) (by simp; omega))
        have H2 := hide (fun W (hW : Below w.heap.size w W) => ih W (.slice (some ⟨g, off + A.length / 2, none⟩) (A.length - A.length / 2) (c - A.length / 2)) (A.drop (A.length / 2)) (by simp; omega) ((h.rest (by omega)).below hW) (by simp; omega))
        have HL : Hid (ofS (ofS (A.take (A.length / 2)) ++ ofS (A.drop (A.length / 2))) = ofS A) := by
          have := ofS_halves (A.take (A.length / 2)) (A.drop (A.length / 2))
          rw [List.take_append_drop] at this
          exact this
        have HRS := hide (⟨ofS_rs (A.take (A.length / 2)), ofS_rs (A.drop (A.length / 2))⟩ : _ ∧ _)
        have hl1 := ofS_len (A.take (A.length / 2))
        have hl2 := ofS_len (A.drop (A.length / 2))
        have hls : (ofS (A.take (A.length / 2))).length + (ofS (A.drop (A.length / 2))).length ≤ 8796093022208 := by
          simp only [List.length_take, List.length_drop] at hl1 hl2
          omega
        have hdv : ((A.length : Int)).tdiv 2 = ((A.length / 2 : Nat) : Int) := rfl
        have hh : A.length / 2 ≤ A.length := by omega
        have hh2 : ¬ c = A.length / 2 := by omega
        clear ih h hl1 hl2 hm
        generalize A.length / 2 = hf at *
        generalize ofS (A.take hf) = P1 at *
        generalize ofS (A.drop hf) = P2 at *
        go_enter Tryd.func20, Tryd.ntmps20
        go_wp2_with fail
        refine (unhide H1).mono ?_
        rintro e w1 ⟨a1, c1, rfl, ho1, hn1, hb1⟩
        have HF1 := hide (⟨ho1, hb1⟩ : _ ∧ _)
        clear ho1 hn1 hb1 H1
        go_wp2_with fail
        obtain ⟨ho1, hb1⟩ := unhide HF1
        refine (unhide H2 w1 hb1).mono ?_
        rintro e w2 ⟨a2, c2, rfl, ho2, hn2, hb2⟩
        have s1 := hb1.size
        have HF2 := hide (⟨ho1.below hb2, ho2, hb1.trans (hb2.mono s1)⟩ : _ ∧ _ ∧ _)
        clear HF1 ho1 hb1 ho2 hn2 hb2 H2
        go_wp2_with fail
        obtain ⟨ho1, ho2, hb2⟩ := unhide HF2
        have s2 := hb2.size
        refine (merge_any (own_row ho1) (own_row ho2) (unhide HRS).1 (unhide HRS).2 hls).mono ?_
        rintro e w3 ⟨a3, c3, rfl, ho3, hn3, hb3⟩
        rw [unhide HL] at ho3 hn3 ⊢
        have HF3 := hide (⟨ho3, fun g hg => Nat.le_trans s2 (hn3 g hg), hb2.trans (hb3.mono s2)⟩ : Own w3 (.slice a3 (ofS A).length c3) (ofS A) ∧ (∀ g, (Value.slice a3 (ofS A).length c3).ownBlock = some g → w.heap.size ≤ g) ∧ Below w.heap.size w w3)
        clear HF2 ho1 ho2 hb2 ho3 hn3 hb3
        go_wp2
        go_ret
        exact ⟨a3, c3, rfl, unhide HF3⟩
theorem rof {w : World} {v : Value} {A : List Tx} {G : Nat → Prop} (h : CRow w v A G) (hz : A.length ≤ 8796093022208) :
    Calls Tryd.prog 20 #[v] w fun e w' => ∃ a c, e = .returned (.slice a (ofS A).length c) ∧ Own w' (.slice a (ofS A).length c) (ofS A) ∧ (∀ g, (Value.slice a (ofS A).length c).ownBlock = some g → w.heap.size ≤ g) ∧ Below w.heap.size w w' :=
  rof_any A.length w v A (Nat.le_refl _) h.any hz
end Kz
end Rs
end Go.Proofs.YtigffjbefbndnaaDoor
/- Layer 9: for BatchKeeps: two texts more behind a row; a base that was written into; the document's Of and Frame of a batch. -/
namespace Go.Proofs.YtigffjbefbndnaaDoor
open Go.RowKit
namespace Rs
open Sm (Tx ofS)
theorem own_of {n : Nat} {W : World} {v : Value} {D : List Tx} (h : Um.OwnT n W v D) : Own W v D := by
  refine ⟨h.1, ?_⟩
  rcases h.2 with h | ⟨g, cap, cur, e, _, r⟩
  · exact .inl h
  · exact .inr ⟨g, cap, cur, e, Nat.zero_le _, r⟩
theorem own_txs {W : World} {v : Value} {D : List Tx} (h : Own W v D) : Um.Txs W v D := (show Um.OwnT 0 W v D from h).txs
theorem push_two {W : World} {v : Value} {A : List Tx} (x y : Tx) (hown : Own W v A) (hz : A.length + 2 ≤ 8796093022208) (t ty : TypeId) (ht : Tryd.prog.underlying t = some (.slice 9)) :
    ∃ g c W', (Builtin.append_ #[t, t] ty #[v, .slice (some ⟨W.heap.size, 0, none⟩) 2 2]).run Tryd.prog (W.alloc (.cells #[.string x, .string y] 9)) = .ok (.slice (some ⟨g, 0, none⟩) (A.length + 2) c) W' ∧ Own W' (.slice (some ⟨g, 0, none⟩) (A.length + 2) c) (A ++ [x, y]) ∧ Chg (fun b => v.ownBlock = some b) W W' ∧ (v.ownBlock = some g ∨ W.heap.size ≤ g) := by
  obtain ⟨i, hi, hz'⟩ := Option.map_eq_some_iff.1 info9
  simp only [Prod.mk.injEq] at hz'
  obtain ⟨hz0, hz1, hz2⟩ := hz'
  have hown1 : Own (W.alloc (.cells #[.string x, .string y] 9)) v A := hown.below ((Below.refl _ W).alloc (Nat.le_refl _) _)
  obtain ⟨v', W', hrun, ho, hg, hb⟩ := append_blk (P := Tryd.prog) (W.alloc (.cells #[.string x, .string y] 9)) t ty 9 i _ 1 16 ht hi hz0 hz1 hz2 rfl (by decide) v A.length (txs A) hown1 ⟨W.heap.size, 0, none⟩ 2 2 [.string x, .string y] rfl (fun j u hj => by
    rw [Go.WideShapes.add_plain, Nat.zero_add, World.cell?_alloc_at _ _ _ _ rfl]
    simpa using hj) (by simp [Value.oneCell']) (by unfold maxLen; omega) (by omega)
  obtain ⟨g, c, rfl⟩ := ownsRow_succ ho
  have hc : Chg (fun b => v.ownBlock = some b) W W' := ((Chg.refl _ W).alloc _).grown hg fun k hk => .inl hk
  refine ⟨g, c, W', hrun, ?_, hc, ?_⟩
  · unfold Own txs
    rw [List.length_append, List.map_append]
    exact ho
  · rcases hb with e | e
    · exact .inl e.symm
    · have e : g = (W.alloc (.cells #[.string x, .string y] 9)).heap.size := by simpa [Value.ownBlock] using e
      rw [World.size_alloc] at e
      exact .inr (by omega)
theorem own_front {W : World} {g N c : Nat} {A X : List Tx} (h : Own W (.slice (some ⟨g, 0, none⟩) N c) (A ++ X)) (hN : N = A.length + X.length) : Um.Txs W (.slice (some ⟨g, 0, none⟩) A.length c) A := by
  have hg : g < W.heap.size := (own_lt h (g := g) rfl).2
  obtain ⟨_, cc, e, h1, _⟩ := h.crow
  injection e with _ _ e
  subst e
  refine ⟨_, c, rfl, ?_, (fun h => by cases h), fun _ => ⟨g, 0, rfl, hg, fun j x hj => ?_⟩⟩
  · rw [List.length_append] at h1; omega
  · rw [Nat.zero_add]
    exact own_cell h (by rw [List.length_append]; omega) (by rw [List.getElem?_append_left (List.getElem?_eq_some_iff.1 hj).1]; exact hj)
/-- the first n blocks -/
def cutW (W : World) (n : Nat) : World := { W with heap := W.heap.extract 0 n }
theorem cutW_size {W : World} {n : Nat} (h : n ≤ W.heap.size) : (cutW W n).heap.size = n := by
  unfold cutW
  simp
  omega
theorem cutW_below {W : World} {n : Nat} (h : n ≤ W.heap.size) : Below n (cutW W n) W := by
  refine ⟨rfl, rfl, rfl, by rw [cutW_size h]; exact h, fun k hk => ?_⟩
  have : (cutW W n).heap[k]? = W.heap[k]? := by
    unfold cutW
    show (W.heap.extract 0 n)[k]? = _
    rw [Array.getElem?_extract]
    rw [if_pos (by omega), Nat.zero_add]
  exact this.symm
/-- one thing, over some base that is newer than w -/
def Sb (w : World) (T : Thing) (W : World) : Prop := ∃ B, Below w.heap.size w B ∧ Sep B [T] (fun _ => W.heap.size) W
theorem Sb.old {w W : World} {T : Thing} (h : Sb w T W) : Below w.heap.size w W := by
  obtain ⟨B, h1, h2⟩ := h
  exact h1.trans (h2.old.mono h1.size)
/-- the cells of block g, written into -/
structure Mrk (w7 : World) (g N : Nat) (wr : World) : Prop where
  chg : Chg (fun b => b = g) w7 wr
  size : wr.heap.size = w7.heap.size
  cell : ∀ j, j < N → ∃ y, wr.cell? ⟨g, j, none⟩ = some y
  free : ∀ j, wr.frozen? ⟨g, j, none⟩ = false
theorem Mrk.set {w7 wr : World} {g N : Nat} (h : Mrk w7 g N wr) (j : Nat) (v : Value) : Mrk w7 g N (wr.setCell ⟨g, j, none⟩ v) :=
  ⟨h.chg.setCell (p := ⟨g, j, none⟩) (.inl rfl) v, by rw [World.size_setCell]; exact h.size, fun k hk => by
    obtain ⟨y, hy⟩ := h.cell k hk
    exact cell?_setCell_some hy, fun k => (World.frozen?_setCell _ _ _ _).trans (h.free k)⟩
theorem sb_mark {w2 w4 w7 wr : World} {T : Thing} {g N : Nat} (h24 : Below w2.heap.size w2 w4) (hg2 : w2.heap.size ≤ g) (hg4 : g < w4.heap.size) (h : Sep w4 [T] (fun _ => w7.heap.size) w7) (m : Mrk w7 g N wr) : Sb w2 T wr := by
  obtain ⟨Fs, h1, h2, h3, h4⟩ := h
  have s4 := h4.size
  have s2 := h24.size
  have hn : w4.heap.size ≤ wr.heap.size := by rw [m.size]; exact s4
  have hk : ∀ b, w4.heap.size ≤ b → b < w7.heap.size → wr.heap[b]? = w7.heap[b]? := fun b hb hl => m.chg.block b hl (by omega)
  have hbw : Below w2.heap.size w2 wr := (h24.trans (h4.mono s2)).trans (m.chg.below (by omega) fun k hk => by omega)
  refine ⟨cutW wr w4.heap.size, ⟨hbw.os, hbw.tape, hbw.output, by rw [cutW_size hn]; exact s2, fun k hk => ((cutW_below hn).block k (by omega)).symm.trans (hbw.block k hk)⟩, Fs, fun i U hi => U.kept (h1 i U hi) (fun b hb => hk b (h3 i b hb).1 (h3 i b hb).2.1) (fun _ x => x) (fun b hb => by rw [m.size]; exact (h3 i b hb).2.1), h2, fun i b hb => ?_, ?_⟩
  · rw [cutW_size hn, m.size]
    exact ⟨(h3 i b hb).1, (h3 i b hb).2.1, (h3 i b hb).2.1⟩
  · rw [cutW_size hn]
    exact cutW_below hn
theorem of_prt {W : World} {v : Value} {L : List Tx} (h : Um.Txs W v L) (hl : L.length ≤ 8796093022208) :
    Calls Tryd.prog 20 #[v] W fun e w' => ∃ r, e = .returned r ∧ Um.Txs w' r (ofS L) ∧ Below W.heap.size W w' := by
  refine (Kz.rof (G := fun _ => True) (by
    obtain ⟨ao, cap, e, h1, _, h3⟩ := h
    refine ⟨ao, cap, e, h1, fun h0 => ?_⟩
    obtain ⟨g, off, e1, hg, hc⟩ := h3 h0
    exact ⟨g, off, e1, trivial, hg, hc⟩) hl).mono ?_
  rintro e w' ⟨a, c, rfl, ho, hn, hb⟩
  exact ⟨_, rfl, own_txs ho, hb⟩
theorem frame_prt {W : World} {v : Value} {L : List Tx} (h : Um.Txs W v L) (hs : ∀ x ∈ L, x.size ≤ 255) (hl : L.length ≤ 1073741824) :
    Calls Tryd.prog 19 #[v] W fun e w' => e = .returned (.tuple #[.string (strB (Um.frs (Um.rl L))), .int .i64 0]) ∧ Below W.heap.size W w' := by
  have hfit : Um.fit (Um.rl L) = true := Um.fit_yes fun _ y hy => hs y (List.mem_of_getElem? hy)
  exact Um.ref_frame v L W h hl _ _ (by show _ = _; unfold Um.frA; rw [if_pos hfit]; rfl) (by show _ = _; unfold Um.frE; rw [if_pos hfit])
end Rs
end Go.Proofs.YtigffjbefbndnaaDoor
