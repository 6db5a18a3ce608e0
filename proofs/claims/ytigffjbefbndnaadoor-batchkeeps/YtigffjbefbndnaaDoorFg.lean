/- Layer 9: Add and Finish of a former. -/
import Derived.Test.YtigffjbefbndnaaDoorFe
namespace Go.Proofs.YtigffjbefbndnaaDoor
open Go.RowKit
namespace Rs
open Sm (Tx ofS)
/-- while words are added: the store and the former, as they are by now -/
def Fl (w wr : World) (E : Nat → Addr) (F G : Nat → Prop) (sb fb : Nat) (m : Sto) (f : For) : Prop := FRes F G w E sb fb m f wr
theorem FRes.start {w : World} {E : Nat → Addr} {F G : Nat → Prop} {sb fb : Nat} {m : Sto} {f : For} (h : At w sb m F) (hf : FAt w E sb fb f G) (hd : ∀ b, F b → ¬ G b) : FRes F G w E sb fb m f w := ⟨F, G, h, hf, hd, fun _ x => .inl x, fun _ x => .inl x, Chg.refl _ _⟩
theorem FRes.trans {w w1 w2 : World} {E : Nat → Addr} {F G F1 G1 : Nat → Prop} {sb fb : Nat} {m : Sto} {f : For} (hF : ∀ b, F1 b → Up F w w1 b) (hG : ∀ b, G1 b → Up G w w1 b) (c : Chg (fun b => F b ∨ G b) w w1) (r : FRes F1 G1 w1 E sb fb m f w2) : FRes F G w E sb fb m f w2 := by
  obtain ⟨F', G', q1, q2, q3, q4, q5, q6⟩ := r
  have h1 := c.size
  have h2 := q6.size
  refine ⟨F', G', q1, q2, q3, fun b hb => ?_, fun b hb => ?_, c.trans (q6.mono fun b hb => ?_)⟩
  · rcases q4 b hb with y | y
    · exact (hF b y).imp id fun z => ⟨z.1, by omega⟩
    · exact .inr ⟨by omega, y.2⟩
  · rcases q5 b hb with y | y
    · exact (hG b y).imp id fun z => ⟨z.1, by omega⟩
    · exact .inr ⟨by omega, y.2⟩
  · rcases hb with hb | hb
    · exact (hF b hb).imp .inl id
    · exact (hG b hb).imp .inr id
theorem FRes.below {w w1 w2 : World} {E : Nat → Addr} {F G : Nat → Prop} {sb fb : Nat} {m : Sto} {f : For} (h : FRes F G w E sb fb m f w1) (hb : Below w1.heap.size w1 w2) : FRes F G w E sb fb m f w2 := by
  obtain ⟨F', G', q1, q2, q3, q4, q5, q6⟩ := h
  have h2 := hb.size
  exact ⟨F', G', q1.kept (fun b hF => hb.block b (q1.lt b hF)) (fun _ x => x) (fun b hF => Nat.lt_of_lt_of_le (q1.lt b hF) h2), q2.below hb, q3, fun b hF => (q4 b hF).imp id fun z => ⟨z.1, by omega⟩, fun b hF => (q5 b hF).imp id fun z => ⟨z.1, by omega⟩, q6.trans (Chg.of_below hb)⟩
/-- a batch is written, in the midst of a call -/
theorem fres_write {w wr : World} {E : Nat → Addr} {B : Nat} {F G : Nat → Prop} {sb fb : Nat} {m : Sto} {f : For} (K : Bg w E B F G) (h : FRes F G w E sb fb m f wr) (ok : f.Ok m) (hne : 0 < f.buf.length) (hbl : f.buf.length ≤ 65536) :
    Calls Tryd.prog 24 #[.pointer (some ⟨fb, 0, none⟩)] wr fun e w' => e = .returned (errV E (fwr m f).1) ∧ FRes F G w E sb fb (fwr m f).2.1 (fwr m f).2.2 w' := by
  obtain ⟨F', G', q1, q2, q3, q4, q5, q6⟩ := h
  obtain ⟨bv, mv, hf⟩ := q2.live ok.live
  have hB := K.hB
  have hz := q6.size
  refine (write_any (B := B) ⟨K.V.below (q6.below K.hB fun k hk => hk.elim (K.hF k) (K.hG k)), fun b hb => (q4 b hb).elim (K.hF b) fun y => by omega, fun b hb => (q5 b hb).elim (K.hG b) fun y => by omega, by omega⟩ q1 hf q3 ok hne hbl).mono ?_
  rintro e w' ⟨rfl, r⟩
  exact ⟨rfl, FRes.trans q4 q5 q6 r⟩
set_option maxRecDepth 100000 in
/-- one word more in the buffer -/
theorem fres_push {w wr : World} {E : Nat → Addr} {F G : Nat → Prop} {sb fb : Nat} {m : Sto} {f : For} (h : FRes F G w E sb fb m f wr) (hd : f.dead = 0) (x : Tx) (hz : f.buf.length + 1 ≤ 65536) :
    ∃ a c g c2 W', wr.cell? ⟨fb, 2, none⟩ = some (.slice a f.buf.length c) ∧ fb < wr.heap.size ∧ (∀ ty, (Builtin.append_ #[22, 22] ty #[.slice a f.buf.length c, .slice (some ⟨wr.heap.size, 0, none⟩) 1 1]).run Tryd.prog (wr.alloc (.cells #[.string x] 9)) = .ok (.slice (some ⟨g, 0, none⟩) (f.buf.length + 1) c2) W') ∧ W'.cell? ⟨fb, 2, none⟩ = some (.slice a f.buf.length c) ∧ W'.frozen? ⟨fb, 2, none⟩ = false ∧ fb < W'.heap.size ∧ FRes F G w E sb fb m (f.push x) (W'.setCell ⟨fb, 2, none⟩ (.slice (some ⟨g, 0, none⟩) (f.buf.length + 1) c2)) ∧ (W'.setCell ⟨fb, 2, none⟩ (.slice (some ⟨g, 0, none⟩) (f.buf.length + 1) c2)).cell? ⟨fb, 1, none⟩ = some (.int .i64 f.size) := by
  obtain ⟨F', G', q1, q2, q3, q4, q5, q6⟩ := h
  obtain ⟨bv, mv, hf⟩ := q2.live hd
  obtain ⟨a, c, rfl⟩ := hf.row.slice
  obtain ⟨x0, x1, x2, x3, x4, xf⟩ := fcells hf.sto
  obtain ⟨ap1, ap2, ap3⟩ := hf.apart
  have hfb := hf.lt fb hf.own
  obtain ⟨g, c2, W', hrun, ho, hc, hu, hk⟩ := push_tx x hf.row (by omega) 22 22 Tryd.underlying22
  have hrun' : ∀ ty, (Builtin.append_ #[22, 22] ty #[.slice a f.buf.length c, .slice (some ⟨wr.heap.size, 0, none⟩) 1 1]).run Tryd.prog (wr.alloc (.cells #[.string x] 9)) = .ok (.slice (some ⟨g, 0, none⟩) (f.buf.length + 1) c2) W' := fun ty => hrun
  have hz' := hc.size
  have hW : W'.heap[fb]? = some (.cells (forC sb f (.slice a f.buf.length c) mv) 54 (0, 0)) := (hc.block fb hfb ap1).trans hf.sto
  obtain ⟨y0, y1, y2, y3, y4, yf⟩ := fcells hW
  have hgf : g ≠ fb := fun e => hk fb hfb ap1 e.symm
  have hne : ∀ b, b ≠ fb → (W'.setCell ⟨fb, 2, none⟩ (.slice (some ⟨g, 0, none⟩) (f.buf.length + 1) c2)).heap[b]? = W'.heap[b]? := fun b hb => Below.heap_setCell _ _ _ _ hb
  have hsz : (W'.setCell ⟨fb, 2, none⟩ (.slice (some ⟨g, 0, none⟩) (f.buf.length + 1) c2)).heap.size = W'.heap.size := by simp
  have hsto : (W'.setCell ⟨fb, 2, none⟩ (.slice (some ⟨g, 0, none⟩) (f.buf.length + 1) c2)).heap[fb]? = some (.cells (forC sb (f.push x) (.slice (some ⟨g, 0, none⟩) (f.buf.length + 1) c2) mv) 54 (0, 0)) := by
    rw [set_heap1 hW]
    simp [forC, For.push]
  have hgl : g < W'.heap.size := (own_lt ho (g := g) rfl).2
  have hno : ∀ b, b < wr.heap.size → (Value.slice a f.buf.length c).ownBlock ≠ some b → b ≠ fb → (W'.setCell ⟨fb, 2, none⟩ (.slice (some ⟨g, 0, none⟩) (f.buf.length + 1) c2)).heap[b]? = wr.heap[b]? := fun b h1 h2 h3 => (hne b h3).trans (hc.block b h1 h2)
  have hcz := q6.size
  have hob : ∀ k, (Value.slice (some ⟨g, 0, none⟩) (f.buf.length + 1) c2).ownBlock = some k → k = g := fun k hk => by
    have e : g = k := by simpa [Value.ownBlock] using hk
    exact e.symm
  refine ⟨a, c, g, c2, W', x2, hfb, hrun', y2, yf 2, by omega, ⟨F', fun b => b = fb ∨ b = g ∨ mv.ownBlock = some b, q1.kept (fun b hF => hno b (q1.lt b hF) (fun e => q3 b hF (hf.rowG b e)) (fun e => q3 b hF (e ▸ hf.own))) (fun _ y => y) (fun b hF => by rw [hsz]; exact Nat.lt_of_lt_of_le (q1.lt b hF) hz'), FIn.at (bv := .slice (some ⟨g, 0, none⟩) (f.buf.length + 1) c2) (mv := mv) ⟨fun b hb => ?_, .inl rfl, hsto, ?_, fun k hk => .inr (.inl (hob k hk)), own_kept hf.int fun k hk => hno k (own_lt hf.int hk).2 (fun e => ap3 k e hk) (fun e => ap2 (e ▸ hk)), fun k hk => .inr (.inr hk)⟩ hd, fun b hF hb => ?_, fun b hF => (q4 b hF).imp id fun z => ⟨z.1, by rw [hsz]; omega⟩, fun b hb => ?_, ?_⟩, ?_⟩
  · rw [hsz]
    rcases hb with e | e | e
    · omega
    · omega
    · have := (own_lt hf.int e).2; omega
  · have ho' := ho.kept (W' := W'.setCell ⟨fb, 2, none⟩ (.slice (some ⟨g, 0, none⟩) (f.buf.length + 1) c2)) fun k hk => hne k (by rw [hob k hk]; exact hgf)
    exact ho'
  · rcases hb with e | e | e
    · exact q3 b hF (e ▸ hf.own)
    · subst e
      rcases hu with y | y
      · exact q3 b hF (hf.rowG b y)
      · have := q1.lt b hF; omega
    · exact q3 b hF (hf.intG b e)
  · rcases hb with e | e | e
    · exact (q5 b (e ▸ hf.own)).imp id fun z => ⟨z.1, by rw [hsz]; omega⟩
    · subst e
      rcases hu with y | y
      · exact (q5 b (hf.rowG b y)).imp id fun z => ⟨z.1, by rw [hsz]; omega⟩
      · exact .inr ⟨by omega, by rw [hsz]; exact y.2⟩
    · exact (q5 b (hf.intG b e)).imp id fun z => ⟨z.1, by rw [hsz]; omega⟩
  · refine (q6.trans (hc.mono fun b hb => ?_)).setCell (p := ⟨fb, 2, none⟩) ?_ _
    · exact (q5 b (hf.rowG b hb)).imp .inr id
    · rcases q5 fb hf.own with y | y
      · exact .inl (.inr y)
      · exact .inr y.1
  · simp [World.cell?, hsto, forC, For.push]
/-- words that came in, in blocks that the call does not turn -/
def Wds (w : World) (v : Value) (L : List Tx) (F : Nat → Prop) : Prop := ∃ ao cap, v = .slice ao L.length cap ∧ L.length ≤ cap ∧ (ao = none → cap = 0) ∧ (0 < L.length → ∃ g off, ao = some ⟨g, off, none⟩ ∧ g < w.heap.size ∧ ¬ F g ∧ ∀ (j : Nat) x, L[j]? = some x → w.cell? ⟨g, off + j, none⟩ = some (.string x))
theorem Wds.txs {w : World} {v : Value} {L : List Tx} {F : Nat → Prop} (h : Wds w v L F) : Um.Txs w v L := by
  obtain ⟨ao, cap, e, h1, h2, h3⟩ := h
  refine ⟨ao, cap, e, h1, h2, fun h0 => ?_⟩
  obtain ⟨g, off, e1, e2, _, e4⟩ := h3 h0
  exact ⟨g, off, e1, e2, e4⟩
theorem Wds.of {w : World} {v : Value} {L : List Tx} {F : Nat → Prop} (h : Um.Txs w v L) (hF : ∀ b, F b → ∀ a n c, v = .slice (some a) n c → b ≠ a.block) : Wds w v L F := by
  obtain ⟨ao, cap, e, h1, h2, h3⟩ := h
  refine ⟨ao, cap, e, h1, h2, fun h0 => ?_⟩
  obtain ⟨g, off, e1, e2, e4⟩ := h3 h0
  exact ⟨g, off, e1, e2, fun hf => hF g hf _ _ _ (by rw [e, e1]) rfl, e4⟩
theorem FRes.chg {w w1 : World} {E : Nat → Addr} {F G : Nat → Prop} {sb fb : Nat} {m : Sto} {f : For} (h : FRes F G w E sb fb m f w1) : Chg (fun b => F b ∨ G b) w w1 := by
  obtain ⟨F', G', q1, q2, q3, q4, q5, q6⟩ := h
  exact q6
theorem drewN_below (w : World) (n : Nat) : Below w.heap.size w (w.drewN n) := ⟨rfl, rfl, rfl, Nat.le_refl _, fun _ _ => rfl⟩
theorem wpList_apps {P : Program} {t : TypeId} (w : World) {ops : Array Oper} {rest : List Oper} {o : Oper} {a : Act} {Q : Exit → Act → World → Prop} (hg : o.guard = none) (s x : Operand) (hop : o.op = .call { callee := .builtin .append, args := #[s, x], argTypes := #[t, t] })
    (v u v' : Value) (W' : World) (hs : a.eval s = v) (hx : a.eval x = u) (hrun : (Builtin.append_ #[t, t] o.type #[v, u]).run P w = .ok v' W') (hK : wpList P ops Q rest (a.put o.dst v') W') : wpList P ops Q (o :: rest) a w := by
  refine wpList_plain hg fun K' hK' => ?_
  unfold Oper.wp execOp
  simp only [hop, resolve, invoke, builtin, Sem.run_bind, Sem.run_pure, Result.andThen_ok, List.map_toArray, List.map_cons, List.map_nil, hs, hx, hrun]
  exact hK' _ _ hK
end Rs
end Go.Proofs.YtigffjbefbndnaaDoor
