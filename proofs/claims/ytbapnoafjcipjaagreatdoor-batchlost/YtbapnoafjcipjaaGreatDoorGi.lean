/- Layer 9: Add and Finish of a former. -/
import Derived.Test.YtbapnoafjcipjaaGreatDoorGh
import Derived.BigQuiet
namespace Go.Proofs.YtbapnoafjcipjaaGreatDoor
open Go.RowKit
namespace Rs
open Sm (Tx ofS)
/-- while words are added: the store and the former, as they are by now -/
def Fl (w wr : World) (E : Nat → Addr) (F G : Nat → Prop) (sb fb : Nat) (m : Sto) (f : For) : Prop := FRes F G w E sb fb m f wr
theorem FRes.start {w : World} {E : Nat → Addr} {F G : Nat → Prop} {sb fb : Nat} {m : Sto} {f : For} (h : At w sb m F) (hf : FAt w E sb fb f G) (hd : ∀ b, F b → ¬ G b) : FRes F G w E sb fb m f w := ⟨F, G, h, hf, hd, fun _ x => .inl x, fun _ x => .inl x, Chg.refl _ _⟩
theorem FRes.trans {w w1 w2 : World} {E : Nat → Addr} {F G F1 G1 : Nat → Prop} {sb fb : Nat} {m : Sto} {f : For} (hF : ∀ b, F1 b → Up F w w1 b) (hG : ∀ b, G1 b → Up G w w1 b) (c : Chg (fun b => F b ∨ G b) w w1) (r : FRes F1 G1 w1 E sb fb m f w2) : FRes F G w E sb fb m f w2 := by
  obtain ⟨F', G', q1, q2, q3, q4, q5, q6⟩ := r
  have h1 := c.size
  have h2 := q6.size
  refine ⟨F', G', q1, q2, q3, fun b hb => ?_, fun b hb => ?_, c.trans (q6.mono fun b hb => ?_)⟩
  · rcases q4 b hb with y | y
    · exact (hF b y).imp id fun z => ⟨z.1, by omega⟩
    · exact .inr ⟨by omega, y.2⟩
  · rcases q5 b hb with y | y
    · exact (hG b y).imp id fun z => ⟨z.1, by omega⟩
    · exact .inr ⟨by omega, y.2⟩
  · rcases hb with hb | hb
    · exact (hF b hb).imp .inl id
    · exact (hG b hb).imp .inr id
theorem FRes.below {w w1 w2 : World} {E : Nat → Addr} {F G : Nat → Prop} {sb fb : Nat} {m : Sto} {f : For} (h : FRes F G w E sb fb m f w1) (hb : Below w1.heap.size w1 w2) : FRes F G w E sb fb m f w2 := by
  obtain ⟨F', G', q1, q2, q3, q4, q5, q6⟩ := h
  have h2 := hb.size
  exact ⟨F', G', q1.kept (fun b hF => hb.block b (q1.lt b hF)) (fun _ x => x) (fun b hF => Nat.lt_of_lt_of_le (q1.lt b hF) h2), q2.below hb, q3, fun b hF => (q4 b hF).imp id fun z => ⟨z.1, by omega⟩, fun b hF => (q5 b hF).imp id fun z => ⟨z.1, by omega⟩, q6.trans (Chg.of_below hb)⟩
/-- a batch is written, in the midst of a call -/
theorem fres_write {w wr : World} {E : Nat → Addr} {B : Nat} {F G : Nat → Prop} {sb fb : Nat} {m : Sto} {f : For} (K : Bg w E B F G) (h : FRes F G w E sb fb m f wr) (ok : f.Ok m) (hne : 0 < f.buf.length) (hbl : f.buf.length ≤ 65536) :
    Calls Tryz.prog 35 #[.pointer (some ⟨fb, 0, none⟩)] wr fun e w' => e = .returned (errV E (fwr m f).1) ∧ FRes F G w E sb fb (fwr m f).2.1 (fwr m f).2.2 w' := by
  obtain ⟨F', G', q1, q2, q3, q4, q5, q6⟩ := h
  obtain ⟨bv, mv, hf⟩ := q2.live ok.live
  have hB := K.hB
  have hz := q6.size
  refine (write_any (B := B) ⟨K.V.below (q6.below K.hB fun k hk => hk.elim (K.hF k) (K.hG k)), fun b hb => (q4 b hb).elim (K.hF b) fun y => by omega, fun b hb => (q5 b hb).elim (K.hG b) fun y => by omega, by omega⟩ q1 hf q3 ok hne hbl).mono ?_
  rintro e w' ⟨rfl, r⟩
  exact ⟨rfl, FRes.trans q4 q5 q6 r⟩
set_option maxRecDepth 100000 in
/-- one word more in the buffer -/
theorem fres_push {w wr : World} {E : Nat → Addr} {F G : Nat → Prop} {sb fb : Nat} {m : Sto} {f : For} (h : FRes F G w E sb fb m f wr) (hd : f.dead = 0) (x : Tx) (hz : f.buf.length + 1 ≤ 65536) :
    ∃ a c g c2 W', wr.cell? ⟨fb, 2, none⟩ = some (.slice a f.buf.length c) ∧ fb < wr.heap.size ∧ (∀ ty, (Builtin.append_ #[33, 33] ty #[.slice a f.buf.length c, .slice (some ⟨wr.heap.size, 0, none⟩) 1 1]).run Tryz.prog (wr.alloc (.cells #[.string x] 9)) = .ok (.slice (some ⟨g, 0, none⟩) (f.buf.length + 1) c2) W') ∧ W'.cell? ⟨fb, 2, none⟩ = some (.slice a f.buf.length c) ∧ W'.frozen? ⟨fb, 2, none⟩ = false ∧ fb < W'.heap.size ∧ FRes F G w E sb fb m (f.push x) (W'.setCell ⟨fb, 2, none⟩ (.slice (some ⟨g, 0, none⟩) (f.buf.length + 1) c2)) ∧ (W'.setCell ⟨fb, 2, none⟩ (.slice (some ⟨g, 0, none⟩) (f.buf.length + 1) c2)).cell? ⟨fb, 1, none⟩ = some (.int .i64 f.size) := by
  obtain ⟨F', G', q1, q2, q3, q4, q5, q6⟩ := h
  obtain ⟨bv, mv, hf⟩ := q2.live hd
  obtain ⟨a, c, rfl⟩ := hf.row.slice
  obtain ⟨x0, x1, x2, x3, x4, xf⟩ := fcells hf.sto
  obtain ⟨ap1, ap2, ap3⟩ := hf.apart
  have hfb := hf.lt fb hf.own
  obtain ⟨g, c2, W', hrun, ho, hc, hu, hk⟩ := push_tx x hf.row (by omega) 33 33 Tryz.underlying33
  have hrun' : ∀ ty, (Builtin.append_ #[33, 33] ty #[.slice a f.buf.length c, .slice (some ⟨wr.heap.size, 0, none⟩) 1 1]).run Tryz.prog (wr.alloc (.cells #[.string x] 9)) = .ok (.slice (some ⟨g, 0, none⟩) (f.buf.length + 1) c2) W' := fun ty => hrun
  have hz' := hc.size
  have hW : W'.heap[fb]? = some (.cells (forC sb f (.slice a f.buf.length c) mv) 80 (0, 0)) := (hc.block fb hfb ap1).trans hf.sto
  obtain ⟨y0, y1, y2, y3, y4, yf⟩ := fcells hW
  have hgf : g ≠ fb := fun e => hk fb hfb ap1 e.symm
  have hne : ∀ b, b ≠ fb → (W'.setCell ⟨fb, 2, none⟩ (.slice (some ⟨g, 0, none⟩) (f.buf.length + 1) c2)).heap[b]? = W'.heap[b]? := fun b hb => Below.heap_setCell _ _ _ _ hb
  have hsz : (W'.setCell ⟨fb, 2, none⟩ (.slice (some ⟨g, 0, none⟩) (f.buf.length + 1) c2)).heap.size = W'.heap.size := by simp
  have hsto : (W'.setCell ⟨fb, 2, none⟩ (.slice (some ⟨g, 0, none⟩) (f.buf.length + 1) c2)).heap[fb]? = some (.cells (forC sb (f.push x) (.slice (some ⟨g, 0, none⟩) (f.buf.length + 1) c2) mv) 80 (0, 0)) := by
    rw [set_heap1 hW]
    simp [forC, For.push]
  have hgl : g < W'.heap.size := (own_lt ho (g := g) rfl).2
  have hno : ∀ b, b < wr.heap.size → (Value.slice a f.buf.length c).ownBlock ≠ some b → b ≠ fb → (W'.setCell ⟨fb, 2, none⟩ (.slice (some ⟨g, 0, none⟩) (f.buf.length + 1) c2)).heap[b]? = wr.heap[b]? := fun b h1 h2 h3 => (hne b h3).trans (hc.block b h1 h2)
  have hcz := q6.size
  have hob : ∀ k, (Value.slice (some ⟨g, 0, none⟩) (f.buf.length + 1) c2).ownBlock = some k → k = g := fun k hk => by
    have e : g = k := by simpa [Value.ownBlock] using hk
    exact e.symm
  refine ⟨a, c, g, c2, W', x2, hfb, hrun', y2, yf 2, by omega, ⟨F', fun b => b = fb ∨ b = g ∨ mv.ownBlock = some b, q1.kept (fun b hF => hno b (q1.lt b hF) (fun e => q3 b hF (hf.rowG b e)) (fun e => q3 b hF (e ▸ hf.own))) (fun _ y => y) (fun b hF => by rw [hsz]; exact Nat.lt_of_lt_of_le (q1.lt b hF) hz'), FIn.at (bv := .slice (some ⟨g, 0, none⟩) (f.buf.length + 1) c2) (mv := mv) ⟨fun b hb => ?_, .inl rfl, hsto, ?_, fun k hk => .inr (.inl (hob k hk)), own_kept hf.int fun k hk => hno k (own_lt hf.int hk).2 (fun e => ap3 k e hk) (fun e => ap2 (e ▸ hk)), fun k hk => .inr (.inr hk)⟩ hd, fun b hF hb => ?_, fun b hF => (q4 b hF).imp id fun z => ⟨z.1, by rw [hsz]; omega⟩, fun b hb => ?_, ?_⟩, ?_⟩
  · rw [hsz]
    rcases hb with e | e | e
    · omega
    · omega
    · have := (own_lt hf.int e).2; omega
  · have ho' := ho.kept (W' := W'.setCell ⟨fb, 2, none⟩ (.slice (some ⟨g, 0, none⟩) (f.buf.length + 1) c2)) fun k hk => hne k (by rw [hob k hk]; exact hgf)
    exact ho'
  · rcases hb with e | e | e
    · exact q3 b hF (e ▸ hf.own)
    · subst e
      rcases hu with y | y
      · exact q3 b hF (hf.rowG b y)
      · have := q1.lt b hF; omega
    · exact q3 b hF (hf.intG b e)
  · rcases hb with e | e | e
    · exact (q5 b (e ▸ hf.own)).imp id fun z => ⟨z.1, by rw [hsz]; omega⟩
    · subst e
      rcases hu with y | y
      · exact (q5 b (hf.rowG b y)).imp id fun z => ⟨z.1, by rw [hsz]; omega⟩
      · exact .inr ⟨by omega, by rw [hsz]; exact y.2⟩
    · exact (q5 b (hf.intG b e)).imp id fun z => ⟨z.1, by rw [hsz]; omega⟩
  · refine (q6.trans (hc.mono fun b hb => ?_)).setCell (p := ⟨fb, 2, none⟩) ?_ _
    · exact (q5 b (hf.rowG b hb)).imp .inr id
    · rcases q5 fb hf.own with y | y
      · exact .inl (.inr y)
      · exact .inr y.1
  · simp [World.cell?, hsto, forC, For.push]
/-- words that came in, in blocks that the call does not turn -/
def Wds (w : World) (v : Value) (L : List Tx) (F : Nat → Prop) : Prop := ∃ ao cap, v = .slice ao L.length cap ∧ L.length ≤ cap ∧ (ao = none → cap = 0) ∧ (0 < L.length → ∃ g off, ao = some ⟨g, off, none⟩ ∧ g < w.heap.size ∧ ¬ F g ∧ ∀ (j : Nat) x, L[j]? = some x → w.cell? ⟨g, off + j, none⟩ = some (.string x))
theorem Wds.txs {w : World} {v : Value} {L : List Tx} {F : Nat → Prop} (h : Wds w v L F) : Um.Txs w v L := by
  obtain ⟨ao, cap, e, h1, h2, h3⟩ := h
  refine ⟨ao, cap, e, h1, h2, fun h0 => ?_⟩
  obtain ⟨g, off, e1, e2, _, e4⟩ := h3 h0
  exact ⟨g, off, e1, e2, e4⟩
theorem Wds.of {w : World} {v : Value} {L : List Tx} {F : Nat → Prop} (h : Um.Txs w v L) (hF : ∀ b, F b → ∀ a n c, v = .slice (some a) n c → b ≠ a.block) : Wds w v L F := by
  obtain ⟨ao, cap, e, h1, h2, h3⟩ := h
  refine ⟨ao, cap, e, h1, h2, fun h0 => ?_⟩
  obtain ⟨g, off, e1, e2, e4⟩ := h3 h0
  exact ⟨g, off, e1, e2, fun hf => hF g hf _ _ _ (by rw [e, e1]) rfl, e4⟩
theorem FRes.chg {w w1 : World} {E : Nat → Addr} {F G : Nat → Prop} {sb fb : Nat} {m : Sto} {f : For} (h : FRes F G w E sb fb m f w1) : Chg (fun b => F b ∨ G b) w w1 := by
  obtain ⟨F', G', q1, q2, q3, q4, q5, q6⟩ := h
  exact q6
theorem drewN_below (w : World) (n : Nat) : Below w.heap.size w (w.drewN n) := ⟨rfl, rfl, rfl, Nat.le_refl _, fun _ _ => rfl⟩
theorem wpList_apps {P : Program} {t : TypeId} (w : World) {ops : Array Oper} {rest : List Oper} {o : Oper} {a : Act} {Q : Exit → Act → World → Prop} (hg : o.guard = none) (s x : Operand) (hop : o.op = .call { callee := .builtin .append, args := #[s, x], argTypes := #[t, t] })
    (v u v' : Value) (W' : World) (hs : a.eval s = v) (hx : a.eval x = u) (hrun : (Builtin.append_ #[t, t] o.type #[v, u]).run P w = .ok v' W') (hK : wpList P ops Q rest (a.put o.dst v') W') : wpList P ops Q (o :: rest) a w := by
  refine wpList_plain hg fun K' hK' => ?_
  unfold Oper.wp execOp
  simp only [hop, resolve, invoke, builtin, Sem.run_bind, Sem.run_pure, Result.andThen_ok, List.map_toArray, List.map_cons, List.map_nil, hs, hx, hrun]
  exact hK' _ _ hK
end Rs
end Go.Proofs.YtbapnoafjcipjaaGreatDoor
/- Layer 9: Add of a living former. -/
namespace Go.Proofs.YtbapnoafjcipjaaGreatDoor
open Go.RowKit
namespace Rs
open Sm (Tx ofS)
/-- while words are added -/
def Ad (w wr : World) (E : Nat → Addr) (F G : Nat → Prop) (sb fb : Nat) (size : Nat) (R : Nat × Sto × For) (L : List Tx) : Prop :=
  ∃ m f, R = adds m f L ∧ FRes F G w E sb fb m f wr ∧ f.Ok m ∧ f.buf.length < f.size ∧ f.size = size
set_option maxRecDepth 100000 in
set_option maxHeartbeats 4000000 in
theorem add_go {w : World} {E : Nat → Addr} {B : Nat} {F G : Nat → Prop} {sb fb : Nat} {m : Sto} {f : For} {bv mv v : Value} {L : List Tx} (K : Bg w E B F G) (h : At w sb m F) (hf : FIn w sb fb f G bv mv) (hd : ∀ b, F b → ¬ G b) (ok : f.Ok m) (hful : f.buf.length < f.size) (hT : Wds w v L (fun b => F b ∨ G b)) (hm : L.length ≤ 9223372036854775806) (hs : L.any long = false) :
    Calls Tryz.prog 15 #[.pointer (some ⟨fb, 0, none⟩), v] w fun e w' => e = .returned (errV E (adds m f L).1) ∧ FRes F G w E sb fb (adds m f L).2.1 (adds m f L).2.2 w' := by
  obtain ⟨cA, mA, fA, hR⟩ : ∃ cA mA fA, adds m f L = (cA, mA, fA) := ⟨_, _, _, rfl⟩
  rw [hR]
  show Calls _ _ _ _ fun e w' => e = .returned (errV E cA) ∧ FRes F G w E sb fb mA fA w'
  have HCK := hide (fcheck_live hf)
  have HCO := hide (contains_long hT.txs (by omega))
  rw [hs] at HCO
  have H0 : Hid (Ad w w E F G sb fb f.size (cA, mA, fA) (L.drop 0)) := ⟨m, f, by rw [List.drop_zero, hR], FRes.start h (hf.at ok.live) hd, ok, hful, rfl⟩
  have HSH := hide (long_no hs)
  have HK := hide K
  have hs2 := ok.s2
  obtain ⟨sz, hsz⟩ : ∃ sz, f.size = sz := ⟨_, rfl⟩
  rw [hsz] at H0 hs2
  obtain ⟨ao, cap, rfl, hcap, hnn, hat⟩ := hT
  have HAT := hide hat
  generalize hN : L.length = N at *
  have HN := hide hN
  clear K h hf hd ok hful hat hR hs hN hsz hnn
  go_enter Tryz.func15, Tryz.ntmps15
  go_wp2_with (first
    | (go_at_call 32; refine (unhide HCK).mono ?_; rintro e w1 ⟨rfl, hw1⟩; have hw2 := hw1.symm; subst hw2; clear hw1)
    | (go_at_call 33; refine (unhide HCO).mono ?_; rintro e w1 ⟨rfl, hw1⟩; have hw2 := hw1.symm; subst hw2; clear hw1))
  clear HCK HCO
  go_loopw [19] (fun s19 wr => ∃ k : Nat, s19 = .int .i64 k ∧ k ≤ N ∧ Hid (Ad w wr E F G sb fb sz (cA, mA, fA) (L.drop k))) (fun s19 _ => N - (intOf s19).toNat)
  case atStart => exact ⟨0, rfl, Nat.zero_le _, H0⟩
  case round =>
    clear H0
    obtain ⟨k, rfl, hk, HR⟩ := hrel
    obtain ⟨mk, fk, hA, hRes, hok, hfl, hsk⟩ := unhide HR
    by_cases hlt : k < N
    · have hltz : (k : Int) < (N : Int) := by omega
      have hk0 : 0 ≤ (k : Int) := by omega
      have hlL : k < L.length := by rw [unhide HN]; exact hlt
      obtain ⟨x, hx⟩ : ∃ x, L[k]? = some x := ⟨_, List.getElem?_eq_getElem hlL⟩
      obtain ⟨g, off, rfl, hg, hgF, hc⟩ := unhide HAT (by omega)
      have hcx : wr.cell? ⟨g, off + k, none⟩ = some (.string x) := (World.cell?_of_block (a := ⟨g, off + k, none⟩) (hRes.chg.block g hg hgF)).trans (hc k x hx)
      have hxs := unhide HSH x (List.mem_of_getElem? hx)
      have hdr : L.drop k = x :: L.drop (k + 1) := by rw [List.drop_eq_getElem_cons hlL, (List.getElem?_eq_some_iff.1 hx).2]
      rw [hdr] at hA
      obtain ⟨a1, c1, g2, c2, W', e1, e2, e3, e4, e5, e6, e7, e8⟩ := fres_push hRes hok.live x (by rw [hsk] at hfl; omega)
      have HAP := hide (e3 33)
      have HPU := hide e7
      have hok2 := hok.push hxs
      have hbl : (fk.push x).buf.length = fk.buf.length + 1 := by simp [For.push]
      rw [hsk] at e8 hfl
      obtain ⟨q, hq⟩ : ∃ q, fk.buf.length = q := ⟨_, rfl⟩
      rw [hq] at e1 e4 HAP HPU e8 hfl hbl
      obtain ⟨q1, hq1⟩ : ∃ q1, q + 1 = q1 := ⟨_, rfl⟩
      rw [hq1] at HAP HPU e8 hbl
      have hq1b : q1 ≤ 65536 := by omega
      have HQ := hide hq
      have HQ1 := hide hq1
      have HOK2 := hide hok2
      have HBL := hide hbl
      have HSK := hide hsk
      have HA := hide hA
      clear hRes hok hok2 hbl hq hq1 e3 e7 hx hc hdr hA HR hsk
      by_cases hl : q1 < sz
      · have hlz : (q1 : Int) < (sz : Int) := by omega
        have HNX : Hid (∀ W, Below (W'.setCell ⟨fb, 2, none⟩ (.slice (some ⟨g2, 0, none⟩) q1 c2)).heap.size (W'.setCell ⟨fb, 2, none⟩ (.slice (some ⟨g2, 0, none⟩) q1 c2)) W → Ad w W E F G sb fb sz (cA, mA, fA) (L.drop (k + 1))) := fun W hW =>
          ⟨mk, fk.push x, by rw [unhide HA, adds_room (by rw [unhide HQ, unhide HQ1, unhide HSK]; exact hl)], (unhide HPU).below hW, unhide HOK2, by rw [unhide HBL]; show q1 < fk.size; rw [unhide HSK]; exact hl, unhide HSK⟩
        go_wp2_with (at_builtin; refine wpList_apps _ rfl _ _ rfl _ _ _ _ rfl rfl (by exact unhide HAP) ?_)
        have e9 := World.cell?_setCell_same W' ⟨fb, 2, none⟩ (.slice (some ⟨g2, 0, none⟩) q1 c2) e4
        have HNX2 := HNX
        clear HNX HAP HPU e1 e4
        generalize World.setCell _ _ _ = V at *
        go_quiet (fail)
        have HV := hide (unhide HNX2 _ (drewN_below V nq))
        clear HNX2
        go_wp2
        go_roundw
        case rel => exact ⟨k + 1, by go_num, by omega, HV⟩
        case measure => simp [intOf]; omega
      · have hlz : ¬ (q1 : Int) < (sz : Int) := by omega
        obtain ⟨c, m', f', hw⟩ : ∃ c m' f', fwr mk (fk.push x) = (c, m', f') := ⟨_, _, _, rfl⟩
        have HWR : Hid (∀ W, Below (W'.setCell ⟨fb, 2, none⟩ (.slice (some ⟨g2, 0, none⟩) q1 c2)).heap.size (W'.setCell ⟨fb, 2, none⟩ (.slice (some ⟨g2, 0, none⟩) q1 c2)) W → Calls Tryz.prog 35 #[.pointer (some ⟨fb, 0, none⟩)] W fun e w' => e = .returned (errV E c) ∧ FRes F G w E sb fb m' f' w') := fun W hW => by
          have r := fres_write (unhide HK) ((unhide HPU).below hW) (unhide HOK2) (by rw [unhide HBL, ← unhide HQ1]; omega) (by rw [unhide HBL]; exact hq1b)
          rw [hw] at r
          exact r
        have hnl : ¬ fk.buf.length + 1 < fk.size := by rw [unhide HQ, unhide HQ1, unhide HSK]; exact hl
        by_cases hc : c = 0
        · subst hc
          rw [errV_zero] at HWR
          have HNX : Hid (∀ W, FRes F G w E sb fb m' f' W → Ad w W E F G sb fb sz (cA, mA, fA) (L.drop (k + 1))) := fun W hW => by
            obtain ⟨o1, o2, o3⟩ := (unhide HOK2).wrote (by rw [hw])
            have eA := unhide HA
            rw [adds_go hnl (by rw [hw]), hw] at eA
            rw [hw] at o1 o2 o3
            refine ⟨m', f', eA, hW, o1, ?_, ?_⟩
            · rw [o2, o3]; exact o1.s1 |> fun q => by rw [o3] at q; exact q
            · rw [o3]; exact unhide HSK
          clear hw hnl
          go_wp2_with (at_builtin; refine wpList_apps _ rfl _ _ rfl _ _ _ _ rfl rfl (by exact unhide HAP) ?_)
          have e9 := World.cell?_setCell_same W' ⟨fb, 2, none⟩ (.slice (some ⟨g2, 0, none⟩) q1 c2) e4
          clear HAP HPU e1 e4
          generalize World.setCell _ _ _ = V at *
          go_quiet (fail)
          have HV := hide (unhide HWR _ (drewN_below V nq))
          clear HWR
          go_wp2_with (go_at_call 35; refine (unhide HV).mono ?_; rintro e w5 ⟨rfl, h5⟩; have H5 := hide (unhide HNX _ h5); clear h5)
          go_roundw
          case rel => exact ⟨k + 1, by go_num, by omega, H5⟩
          case measure => simp [intOf]; omega
        · have hfin : (cA, mA, fA) = (c, m', f') := by rw [unhide HA, adds_no hnl (by rw [hw]; exact hc), hw]
          injection hfin with i1 i2
          injection i2 with i2 i3
          subst i1 i2 i3
          have HC0 := hide hc
          rw [errV_er hc] at HWR
          unfold er at *
          clear hw hnl hc
          go_wp2_with (at_builtin; refine wpList_apps _ rfl _ _ rfl _ _ _ _ rfl rfl (by exact unhide HAP) ?_)
          have e9 := World.cell?_setCell_same W' ⟨fb, 2, none⟩ (.slice (some ⟨g2, 0, none⟩) q1 c2) e4
          clear HAP HPU e1 e4
          generalize World.setCell _ _ _ = V at *
          go_quiet (fail)
          have HV := hide (unhide HWR _ (drewN_below V nq))
          clear HWR
          go_wp2_with (go_at_call 35; refine (unhide HV).mono ?_; rintro e w5 ⟨rfl, h5⟩; have H5 := hide h5; clear h5)
          go_ret
          exact ⟨by rw [errV_er (unhide HC0)]; rfl, unhide H5⟩
    · obtain rfl : k = N := by omega
      have hltz : ¬ (k : Int) < (k : Int) := by omega
      rw [List.drop_of_length_le (by rw [unhide HN]; exact Nat.le_refl _), adds_stop] at hA
      injection hA with i1 i2
      injection i2 with i2 i3
      subst i1 i2 i3
      have HF := hide hRes
      clear hRes hok hfl hsk HR
      go_wp2
      go_ret
      exact ⟨rfl, unhide HF⟩
end Rs
end Go.Proofs.YtbapnoafjcipjaaGreatDoor
/- Layer 9: Finish of a living former. -/
namespace Go.Proofs.YtbapnoafjcipjaaGreatDoor
open Go.RowKit
namespace Rs
open Sm (Tx ofS)
/-- behind Finish: the store, the closed former, and the list of the runs -/
def FinR (F G : Nat → Prop) (w : World) (sb fb : Nat) (m : Sto) (l : List Nat) (v : Value) (w' : World) : Prop :=
  ∃ F', At w' sb m F' ∧ FCl w' fb ∧ w'.ownsRow 0 3 1 v l.length (nts l) ∧ ¬ F' fb ∧ (∀ g, v.ownBlock = some g → ¬ F' g ∧ g ≠ fb ∧ Up G w w' g) ∧ (∀ b, F' b → Up F w w' b) ∧ Up G w w' fb ∧ Chg (fun b => F b ∨ G b) w w'
theorem fin_close {w wr : World} {E : Nat → Addr} {F G : Nat → Prop} {sb fb : Nat} {m : Sto} {f : For} (h : FRes F G w E sb fb m f wr) (hd : f.dead = 0) :
    ∃ a c, wr.cell? ⟨fb, 3, none⟩ = some (.slice a f.made.length c) ∧ fb < wr.heap.size ∧ (∃ x0 x1 x2 x4, wr.cell? ⟨fb, 0, none⟩ = some x0 ∧ wr.cell? ⟨fb, 1, none⟩ = some x1 ∧ wr.cell? ⟨fb, 2, none⟩ = some x2 ∧ wr.cell? ⟨fb, 4, none⟩ = some x4) ∧ (∀ k, wr.frozen? ⟨fb, k, none⟩ = false) ∧ FinR F G w sb fb m f.made (.slice a f.made.length c) (((((wr.setCell ⟨fb, 0, none⟩ (.pointer none)).setCell ⟨fb, 1, none⟩ (.int .i64 0)).setCell ⟨fb, 2, none⟩ (.slice none 0 0)).setCell ⟨fb, 3, none⟩ (.slice none 0 0)).setCell ⟨fb, 4, none⟩ .nilIface) := by
  obtain ⟨F', G', q1, q2, q3, q4, q5, q6⟩ := h
  obtain ⟨bv, mv, hf⟩ := q2.live hd
  obtain ⟨a, c, rfl⟩ := own_nums hf.int
  obtain ⟨x0, x1, x2, x3, x4, xf⟩ := fcells hf.sto
  obtain ⟨ap1, ap2, ap3⟩ := hf.apart
  have hfb := hf.lt fb hf.own
  refine ⟨a, c, x3, hfb, ⟨_, _, _, _, x0, x1, x2, x4⟩, xf, ?_⟩
  obtain ⟨W, hW⟩ : ∃ W, (((((wr.setCell ⟨fb, 0, none⟩ (.pointer none)).setCell ⟨fb, 1, none⟩ (.int .i64 0)).setCell ⟨fb, 2, none⟩ (.slice none 0 0)).setCell ⟨fb, 3, none⟩ (.slice none 0 0)).setCell ⟨fb, 4, none⟩ .nilIface) = W := ⟨_, rfl⟩
  have hne : ∀ b, b ≠ fb → W.heap[b]? = wr.heap[b]? := fun b hb => by
    rw [← hW, Below.heap_setCell _ _ _ _ hb, Below.heap_setCell _ _ _ _ hb, Below.heap_setCell _ _ _ _ hb, Below.heap_setCell _ _ _ _ hb, Below.heap_setCell _ _ _ _ hb]
  have hz : W.heap.size = wr.heap.size := by rw [← hW]; simp
  have hfbW : FCl W fb := by
    unfold FCl
    rw [← hW, set_heap1 (set_heap1 (set_heap1 (set_heap1 (set_heap1 hf.sto _) _) _) _) _]
    simp [forC]
  have hu : ∀ b, G' b → Up G w W b := fun b hb => (q5 b hb).imp id fun z => ⟨z.1, by rw [hz]; exact z.2⟩
  have hfu : (fun b => F b ∨ G b) fb ∨ w.heap.size ≤ fb := (q5 fb hf.own).elim (fun y => .inl (.inr y)) fun y => .inr y.1
  have hch : Chg (fun b => F b ∨ G b) w W := by
    rw [← hW]
    exact ((((q6.setCell (p := ⟨fb, 0, none⟩) hfu _).setCell (p := ⟨fb, 1, none⟩) hfu _).setCell (p := ⟨fb, 2, none⟩) hfu _).setCell (p := ⟨fb, 3, none⟩) hfu _).setCell (p := ⟨fb, 4, none⟩) hfu _
  rw [hW]
  exact ⟨F', q1.kept (fun b hF => hne b fun e => q3 b hF (e ▸ hf.own)) (fun _ y => y) (fun b hF => by rw [hz]; exact q1.lt b hF), hfbW, own_kept hf.int fun g hg => hne g fun e => ap2 (e ▸ hg), fun hF => q3 fb hF hf.own, fun g hg => ⟨fun hF => q3 g hF (hf.intG g hg), fun e => ap2 (e ▸ hg), hu g (hf.intG g hg)⟩, fun b hF => (q4 b hF).imp id fun z => ⟨z.1, by rw [hz]; exact z.2⟩, hu fb hf.own, hch⟩
theorem zero_former (w : World) : (zeroValue 80).run Tryz.prog w = .ok (.agg #[.pointer none, .int .i64 0, .slice none 0 0, .slice none 0 0, .nilIface]) w := by kernel_rfl
section
variable {w : World} {E : Nat → Addr} {B : Nat} {F G : Nat → Prop} {sb fb : Nat} {m : Sto} {f : For} {bv mv : Value}
set_option maxRecDepth 100000 in
set_option maxHeartbeats 4000000 in
theorem finish_ok (K : Bg w E B F G) (h : At w sb m F) (hf : FIn w sb fb f G bv mv) (hd : ∀ b, F b → ¬ G b) (ok : f.Ok m) (hful : f.buf.length < f.size) {m' : Sto} {f' : For} (hR : fins m f = (0, m', f')) :
    Calls Tryz.prog 19 #[.pointer (some ⟨fb, 0, none⟩)] w fun e w' => ∃ a c, e = .returned (.tuple #[.slice a f'.made.length c, .nilIface]) ∧ FinR F G w sb fb m' f'.made (.slice a f'.made.length c) w' := by
  have HCK := hide (fcheck_live hf)
  have hzw := zero_former
  obtain ⟨x0, x1, x2, x3, x4, xf⟩ := fcells hf.sto
  obtain ⟨a2, c2, rfl⟩ := hf.row.slice
  have hs2 := ok.s2
  by_cases hb : f.buf = []
  · have e : fins m f = (0, m, f) := by unfold fins; rw [if_pos hb]
    rw [e] at hR
    injection hR with _ hR
    injection hR with r1 r2
    subst r1 r2
    obtain ⟨a, c, d3, d4, ⟨y0, y1, y2, y4, z0, z1, z2, z4⟩, zf, hfin⟩ := fin_close (FRes.start h (hf.at (E := E) ok.live) hd) ok.live
    have HF := hide hfin
    have hl0 : f.buf.length = 0 := by rw [hb]; rfl
    rw [hl0] at x2
    clear K h hf hd ok hful hb e hfin x0 x1 x3 x4 xf z2 hl0
    go_enter Tryz.func19, Tryz.ntmps19
    go_wp2_with (go_at_call 32; refine (unhide HCK).mono ?_; rintro e w1 ⟨rfl, hw1⟩; have hw2 := hw1.symm; subst hw2; clear hw1)
    go_ret2
    exact ⟨a, c, rfl, unhide HF⟩
  · have e : fins m f = fwr m f := by unfold fins; rw [if_neg hb]
    rw [e] at hR
    have hp : 0 < f.buf.length := List.length_pos_iff.2 hb
    have hpz : 0 < (f.buf.length : Int) := by omega
    have hdl : f'.dead = 0 := by have := (ok.wrote (by rw [hR])).1.live; rw [hR] at this; exact this
    have HWR : Hid (Calls Tryz.prog 35 #[.pointer (some ⟨fb, 0, none⟩)] w fun e w' => e = .returned .nilIface ∧ FRes F G w E sb fb m' f' w') := by
      have r := fres_write K (FRes.start h (hf.at ok.live) hd) ok hp (by omega)
      rw [hR] at r
      exact r
    have HDL := hide hdl
    clear K h hf hd ok hful hb e hR x0 x1 x3 x4 xf hdl
    go_enter Tryz.func19, Tryz.ntmps19
    go_wp2_with (first
      | (go_at_call 32; refine (unhide HCK).mono ?_; rintro e w1 ⟨rfl, hw1⟩; have hw2 := hw1.symm; subst hw2; clear hw1)
      | (go_at_call 35; refine (unhide HWR).mono ?_; rintro e w5 ⟨rfl, h5⟩; obtain ⟨a, c, d3, d4, ⟨y0, y1, y2, y4, z0, z1, z2, z4⟩, zf, hfin⟩ := fin_close h5 (unhide HDL); have HF := hide hfin; clear h5 hfin))
    go_ret2
    exact ⟨a, c, rfl, unhide HF⟩
set_option maxRecDepth 100000 in
set_option maxHeartbeats 4000000 in
theorem finish_fail (K : Bg w E B F G) (h : At w sb m F) (hf : FIn w sb fb f G bv mv) (hd : ∀ b, F b → ¬ G b) (ok : f.Ok m) (hful : f.buf.length < f.size) {c : Nat} {m' : Sto} {f' : For} (hR : fins m f = (c, m', f')) (hc : c ≠ 0) :
    Calls Tryz.prog 19 #[.pointer (some ⟨fb, 0, none⟩)] w fun e w' => e = .returned (.tuple #[.slice none 0 0, er E c]) ∧ FRes F G w E sb fb m' f' w' := by
  have HCK := hide (fcheck_live hf)
  obtain ⟨x0, x1, x2, x3, x4, xf⟩ := fcells hf.sto
  obtain ⟨a2, c2, rfl⟩ := hf.row.slice
  have hs2 := ok.s2
  have hb : f.buf ≠ [] := fun hb => by
    have e : fins m f = (0, m, f) := by unfold fins; rw [if_pos hb]
    rw [e] at hR
    injection hR with hR _
    exact hc hR.symm
  have e : fins m f = fwr m f := by unfold fins; rw [if_neg hb]
  rw [e] at hR
  have hp : 0 < f.buf.length := List.length_pos_iff.2 hb
  have hpz : 0 < (f.buf.length : Int) := by omega
  have HWR : Hid (Calls Tryz.prog 35 #[.pointer (some ⟨fb, 0, none⟩)] w fun e w' => e = .returned (er E c) ∧ FRes F G w E sb fb m' f' w') := by
    have r := fres_write K (FRes.start h (hf.at ok.live) hd) ok hp (by omega)
    rw [hR] at r
    rw [← errV_er hc]
    exact r
  unfold er at *
  clear K h hf hd ok hful hb e hR x0 x1 x3 x4 xf
  go_enter Tryz.func19, Tryz.ntmps19
  go_wp2_with (first
    | (go_at_call 32; refine (unhide HCK).mono ?_; rintro e w1 ⟨rfl, hw1⟩; have hw2 := hw1.symm; subst hw2; clear hw1)
    | (go_at_call 35; refine (unhide HWR).mono ?_; rintro e w5 ⟨rfl, h5⟩; have HF := hide h5; clear h5))
  go_ret2
  exact ⟨rfl, unhide HF⟩
end
end Rs
end Go.Proofs.YtbapnoafjcipjaaGreatDoor
