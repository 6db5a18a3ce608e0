/- Layer 9: the writer's calls while a batch is written. -/
import Derived.Test.YtbapnoafjcipjaaGreatDoorGg
import Derived.Test.YtbapnoafjcipjaaGreatDoorWe
import Derived.Lib.SliceRun
import Derived.Deep.RegionLaw
namespace Go.Proofs.YtbapnoafjcipjaaGreatDoor
open Go.RowKit
namespace Rs
open Sm (Tx ofS)
set_option maxRecDepth 100000 in
theorem wdrop_nil (w : World) : Calls Tryz.prog 46 #[.pointer none] w fun e w' => e = .returned (.tuple #[]) ∧ w' = w := by
  go_enter Tryz.func46, Tryz.ntmps46
  go_wp2
  (try simp only [Exit.inBlock, Exit.then])
  refine bodyPost_ret (results_none rfl _ _ _) rfl ?_
  exact ⟨rfl, rfl⟩
/-- what is known of a batch that is written -/
structure Bg (w : World) (E : Nat → Addr) (B : Nat) (F G : Nat → Prop) : Prop where
  V : Env w E B
  hF : ∀ b, F b → B ≤ b
  hG : ∀ b, G b → B ≤ b
  hB : B ≤ w.heap.size
section
variable {w wr : World} {E : Nat → Addr} {B : Nat} {F G : Nat → Prop} {sb fb eb wb : Nat} {f : For} {A : List Tx} {bv mv ev wv : Value} {m : Sto} {x : Wri} {F' : Nat → Prop}
theorem bw_open_fail (K : Bg w E B F G) (h : Bw w wr F G sb fb eb f A bv mv ev wv m F') {c : Nat} {m2 : Sto} (hc : crt m = ((0, c), m2)) (hc0 : c ≠ 0) :
    Calls Tryz.prog 49 #[.pointer (some ⟨sb, 0, none⟩), .int .i64 512] wr fun e w' => e = .returned (.tuple #[.pointer none, er E c]) ∧ ∃ F2, Bw w w' F G sb fb eb f A bv mv ev wv m2 F2 := by
  refine (open_fail (b := 512) (h.env K.V K.hF K.hG K.hB) (h.lo K.hF K.hB) h.at_ (by decide) (by decide) hc hc0).mono ?_
  rintro e w' ⟨rfl, r⟩
  exact ⟨rfl, _, h.res r⟩
theorem bw_open_go (K : Bg w E B F G) (h : Bw w wr F G sb fb eb f A bv mv ev wv m F') {n : Nat} {m2 : Sto} (hc : crt m = (((n : Int), 0), m2)) :
    Calls Tryz.prog 49 #[.pointer (some ⟨sb, 0, none⟩), .int .i64 512] wr fun e w' => ∃ wb, e = .returned (.tuple #[.pointer (some ⟨wb, 0, none⟩), .nilIface]) ∧ (∃ F2, Bw w w' F G sb fb eb f A bv mv ev wv m2 F2) ∧ Bx w ((w'.setCell ⟨eb + 2, 0, none⟩ (.pointer (some ⟨wb, 0, none⟩))).setCell ⟨eb + 1, 0, none⟩ .nilIface) E F G sb fb eb wb f A bv mv .nilIface m2 ⟨n, 512, [], 0⟩ := by
  refine (open_go (b := 512) (h.env K.V K.hF K.hG K.hB) (h.lo K.hF K.hB) h.at_ (by decide) (by decide) hc).mono ?_
  rintro e w' ⟨wb, rfl, F2, H, wbv, q1, q2, q3, q4, q5, q6⟩
  have hb := h.turn q1 (fun b hb => (q4 b hb).imp id fun y => y.1) (q6.mono fun b hb => .inl hb)
  have l3 := h.lt3
  obtain ⟨r1, r2⟩ := row_lt h
  refine ⟨wb, rfl, ⟨F2, hb⟩, F2, H, wbv, (hb.setW (.pointer (some ⟨wb, 0, none⟩))).setE .nilIface, q2.kept (fun b hH => ?_) (fun _ y => y) (fun b hH => by simpa using q2.lt b hH), q3, fun b hH => ?_⟩
  · have := q5 b hH
    rw [Below.heap_setCell _ _ _ _ (by show b ≠ eb + 1; omega), Below.heap_setCell _ _ _ _ (by show b ≠ eb + 2; omega)]
  · have := q5 b hH
    exact ⟨by omega, fun g hg e => by have := r1 g hg; omega, fun g hg e => by have := r2 g hg; omega⟩
theorem bx_put (K : Bg w E B F G) (h : Bx w wr E F G sb fb eb wb f A bv mv ev m x) (hx : x.dead = 0) (hrun : x.run ≤ 16777216) {v : Value} {t : Tx} (hT : Um.Txs wr v [t]) (ht : t.size ≤ 255) {c : Nat} {m' : Sto} {rest : List UInt8} (HP : Hid (wputs x.run x.blk m (x.buf ++ Um.frs (Um.rl [t])) = (c, m', rest))) :
    Calls Tryz.prog 50 #[.pointer (some ⟨wb, 0, none⟩), v] wr fun e w' => e = .returned (errV E c) ∧ Bx w w' E F G sb fb eb wb f A bv mv ev m' (putX x c rest) := by
  obtain ⟨F', H, wbv, h1, h2, h3, h4⟩ := h
  have heb := h1.heb
  have hb := K.hB
  refine (put_go (h1.env K.V K.hF K.hG K.hB) (h1.lo K.hF K.hB) (fun b hH => by have := (h4 b hH).1; omega) (Nat.le_trans hb h1.chg.size) h1.at_ h2 h3 hx hrun hT (by simp) (Um.fit_yes fun k y hk => ?_) (by simp) c m' rest HP).mono ?_
  · have := List.mem_of_getElem? hk
    rw [List.mem_singleton] at this
    rw [this]; exact ht
  · rintro e w' ⟨rfl, r⟩
    exact ⟨rfl, Bx.wres h1 h4 r⟩
theorem bx_close_go (K : Bg w E B F G) (h : Bx w wr E F G sb fb eb wb f A bv mv ev m x) (hx : x.dead = 0) (hrun : x.run ≤ 16777216) {m2 : Sto} (hP : wclo x.run m x.buf = (0, m2)) :
    Calls Tryz.prog 51 #[.pointer (some ⟨wb, 0, none⟩)] wr fun e w' => e = .returned (.tuple #[.int .i64 x.run, .nilIface]) ∧ ∃ F2, Bw w w' F G sb fb eb f A bv mv ev (.pointer (some ⟨wb, 0, none⟩)) m2 F2 := by
  obtain ⟨F', H, wbv, h1, h2, h3, h4⟩ := h
  have heb := h1.heb
  have hb := K.hB
  have key : ∃ m1, (x.buf = [] → m1 = m) ∧ (x.buf ≠ [] → app m x.run [strB x.buf] = (0, m1)) ∧ sel m1 x.run = (0, m2) := by
    unfold wclo at hP
    by_cases hb : x.buf = []
    · rw [if_pos hb] at hP
      exact ⟨m, fun _ => rfl, fun e => absurd hb e, hP⟩
    · rw [if_neg hb] at hP
      by_cases h0 : (app m x.run [strB x.buf]).1 = 0
      · rw [if_pos h0] at hP
        exact ⟨_, fun e => absurd e hb, fun _ => Prod.ext h0 rfl, hP⟩
      · rw [if_neg h0] at hP
        exact absurd (by rw [hP]) h0
  obtain ⟨m1, a1, a2, a3⟩ := key
  refine (close_go (h1.env K.V K.hF K.hG K.hB) (h1.lo K.hF K.hB) (fun b hH => by have := (h4 b hH).1; omega) (Nat.le_trans hb h1.chg.size) h1.at_ h2 h3 hx hrun m1 a1 a2 a3).mono ?_
  rintro e w' ⟨rfl, r⟩
  exact ⟨rfl, Bx.cres h1 h4 r⟩
theorem bx_close_fail (K : Bg w E B F G) (h : Bx w wr E F G sb fb eb wb f A bv mv ev m x) (hx : x.dead = 0) (hrun : x.run ≤ 16777216) {c : Nat} {m2 : Sto} (hP : wclo x.run m x.buf = (c, m2)) (hc : c ≠ 0) :
    Calls Tryz.prog 51 #[.pointer (some ⟨wb, 0, none⟩)] wr fun e w' => e = .returned (.tuple #[.int .i64 0, er E c]) ∧ Bx w w' E F G sb fb eb wb f A bv mv ev m2 { x with buf := [], dead := c } := by
  obtain ⟨F', H, wbv, h1, h2, h3, h4⟩ := h
  have heb := h1.heb
  have hb := K.hB
  refine (close_fail (h1.env K.V K.hF K.hG K.hB) (h1.lo K.hF K.hB) (fun b hH => by have := (h4 b hH).1; omega) (Nat.le_trans hb h1.chg.size) h1.at_ h2 h3 hx hrun c m2 hP hc).mono ?_
  rintro e w' ⟨rfl, r⟩
  exact ⟨rfl, Bx.wres h1 h4 r⟩
theorem bx_drop (K : Bg w E B F G) (h : Bx w wr E F G sb fb eb wb f A bv mv ev m x) (hrun : x.run ≤ 16777216) :
    Calls Tryz.prog 46 #[.pointer (some ⟨wb, 0, none⟩)] wr fun e w' => e = .returned (.tuple #[]) ∧ ∃ F2, Bw w w' F G sb fb eb f A bv mv ev (.pointer (some ⟨wb, 0, none⟩)) (rem m x.run).2 F2 := by
  obtain ⟨F', H, wbv, h1, h2, h3, h4⟩ := h
  refine (drop_go (h1.env K.V K.hF K.hG K.hB) (h1.lo K.hF K.hB) h1.at_ h2 h3 hrun).mono ?_
  rintro e w' ⟨rfl, r⟩
  exact ⟨rfl, Bx.cres h1 h4 r⟩
theorem bw_drop (h : Bw w wr F G sb fb eb f A bv mv ev wv m F') : Calls Tryz.prog 46 #[.pointer none] wr fun e w' => e = .returned (.tuple #[]) ∧ ∃ F2, Bw w w' F G sb fb eb f A bv mv ev wv m F2 := by
  refine (wdrop_nil wr).mono ?_
  rintro e w' ⟨rfl, rfl⟩
  exact ⟨rfl, F', h⟩
/-- the start of write: its three variables are laid -/
theorem Bw.start (h : At w sb m F) (hf : FIn w sb fb f G bv mv) (hd : ∀ b, F b → ¬ G b) (he : eb = w.heap.size) : Bw w (((w.alloc (.cells #[.pointer (some ⟨fb, 0, none⟩)] 42)).alloc (.cells #[.nilIface] 44)).alloc (.cells #[.pointer none] 98)) F G sb fb eb f f.buf bv mv .nilIface (.pointer none) m F := by
  obtain ⟨W, hW⟩ : ∃ W, (((w.alloc (.cells #[.pointer (some ⟨fb, 0, none⟩)] 42)).alloc (.cells #[.nilIface] 44)).alloc (.cells #[.pointer none] 98)) = W := ⟨_, rfl⟩
  have hb : Below w.heap.size w W := by rw [← hW]; (repeat (first | exact Below.refl _ _ | refine Below.drew ?_ | refine Below.alloc ?_ (by first | (simp; done) | (simp; omega)) _ | refine Below.setCell ?_ (by first | (simp; done) | (simp; omega)) _))
  have hz : W.heap.size = eb + 3 := by rw [← hW, he]; simp
  have e0 : W.heap[eb]? = some (.cells #[.pointer (some ⟨fb, 0, none⟩)] 42 (0, 0)) := by
    rw [← hW, he, Below.heap_alloc _ _ _ (by simp; omega), Below.heap_alloc _ _ _ (by simp)]
    exact (MapKept.heap_alloc w _).1
  have e1 : W.heap[eb + 1]? = some (.cells #[.nilIface] 44 (0, 0)) := by
    rw [← hW, he, Below.heap_alloc _ _ _ (by simp)]
    have := (MapKept.heap_alloc (w.alloc (.cells #[.pointer (some ⟨fb, 0, none⟩)] 42)) (.cells #[.nilIface] 44)).1
    rwa [World.size_alloc] at this
  have e2 : W.heap[eb + 2]? = some (.cells #[.pointer none] 98 (0, 0)) := by
    rw [← hW, he]
    have := (MapKept.heap_alloc ((w.alloc (.cells #[.pointer (some ⟨fb, 0, none⟩)] 42)).alloc (.cells #[.nilIface] 44)) (.cells #[.pointer none] 98)).1
    rwa [World.size_alloc, World.size_alloc] at this
  rw [hW]
  have hlt : ∀ b, G b → b < eb := fun b hG => by rw [he]; exact hf.lt b hG
  exact ⟨h.kept (fun b hF => hb.block b (h.lt b hF)) (fun _ y => y) (fun b hF => Nat.lt_of_lt_of_le (h.lt b hF) hb.size), fun b hF => .inl hF, (hb.block fb (hf.lt fb hf.own)).trans hf.sto, rfl, hf.row.below hb, own_kept hf.int fun g hg => hb.block g (own_lt hf.int hg).2, fun hF => hd fb hF hf.own, fun g hg hF => hd g hF (hf.rowG g hg), fun g hg hF => hd g hF (hf.intG g hg), fun b h1 _ hF => by have := h.lt b hF; omega, e0, e1, e2, ⟨hf.own, hlt fb hf.own⟩, fun g hg => .inl ⟨hf.rowG g hg, hlt g (hf.rowG g hg)⟩, fun g hg => .inl ⟨hf.intG g hg, hlt g (hf.intG g hg)⟩, he, Chg.of_below hb⟩
end
end Rs
end Go.Proofs.YtbapnoafjcipjaaGreatDoor
/- Layer 9: the end of a batch that was written: the run's number is kept, the buffer is cleared. No walk. -/
namespace Go.Proofs.YtbapnoafjcipjaaGreatDoor
open Go.RowKit
namespace Rs
open Sm (Tx ofS)
theorem info3 : (Tryz.prog.info? 3).map (fun i => (i.zero, i.size, i.bytes)) = some (some (.int .i64 0), 1, 8) := by kernel_rfl
theorem push_num {W : World} {v : Value} {l : List Nat} (n : Nat) (hown : W.ownsRow 0 3 1 v l.length (nts l)) (hz : l.length + 1 ≤ 8796093022208) (ty : TypeId) :
    ∃ g c W', (Builtin.append_ #[56, 56] ty #[v, .slice (some ⟨W.heap.size, 0, none⟩) 1 1]).run Tryz.prog (W.alloc (.cells #[.int .i64 n] 3)) = .ok (.slice (some ⟨g, 0, none⟩) (l.length + 1) c) W' ∧ W'.ownsRow 0 3 1 (.slice (some ⟨g, 0, none⟩) (l.length + 1) c) (l ++ [n]).length (nts (l ++ [n])) ∧ Chg (fun b => v.ownBlock = some b) W W' ∧ (v.ownBlock = some g ∨ W.heap.size ≤ g) := by
  obtain ⟨i, hi, hz'⟩ := Option.map_eq_some_iff.1 info3
  simp only [Prod.mk.injEq] at hz'
  obtain ⟨hz0, hz1, hz2⟩ := hz'
  have hb : Below W.heap.size W (W.alloc (.cells #[.int .i64 n] 3)) := (Below.refl _ W).alloc (Nat.le_refl _) _
  have hown1 : (W.alloc (.cells #[.int .i64 n] 3)).ownsRow 0 3 1 v l.length (nts l) := own_kept hown fun g hg => hb.block g (own_lt hown hg).2
  obtain ⟨v', W', hrun, ho, hg, hbk⟩ := append_blk (P := Tryz.prog) (W.alloc (.cells #[.int .i64 n] 3)) 56 ty 3 i _ 1 8 Tryz.underlying56 hi hz0 hz1 hz2 rfl (by decide) v l.length (nts l) hown1 ⟨W.heap.size, 0, none⟩ 1 1 [.int .i64 n] rfl (cell_one_new _ _ _) (by simp [Value.oneCell']) (by unfold maxLen; omega) (by omega)
  obtain ⟨g, c, rfl⟩ := ownsRow_succ ho
  refine ⟨g, c, W', hrun, ?_, ((Chg.refl _ W).alloc _).grown hg fun k hk => .inl hk, ?_⟩
  · rw [List.length_append, show nts (l ++ [n]) = nts l ++ [.int .i64 n] by simp [nts]]
    exact ho
  · rcases hbk with e | e
    · exact .inl e.symm
    · have e : g = (W.alloc (.cells #[.int .i64 n] 3)).heap.size := by simpa [Value.ownBlock] using e
      rw [World.size_alloc] at e
      exact .inr (by omega)
theorem zero9 (w : World) : (zeroValue 9).run Tryz.prog w = .ok (.string ⟨#[]⟩) w := by kernel_rfl
theorem step_app {P : Program} {ops : Array Oper} {o : Oper} {a : Act} {w : World} {K : Act → World → Prop} {Q : Exit → Act → World → Prop} {E : Prop}
    (hg : o.guard = none) (s x : Operand) (t : TypeId) (hop : o.op = Op.call { callee := Callee.builtin Builtin.append, args := #[s, x], argTypes := #[t, t] })
    (v u v' : Value) (w' : World) (hs : a.eval s = v) (hx : a.eval x = u) (hrun : (Builtin.append_ #[t, t] o.type #[v, u]).run P w = .ok v' w') (hK : K (a.put o.dst v') w') :
    if Region.wanted o (yielded ops a.tmps) = true then Oper.wp P o a w K Q else E := by
  have hw : Region.wanted o (yielded ops a.tmps) = true := by simp [Region.wanted, hg]
  rw [if_pos hw]
  unfold Oper.wp
  simp [execOp, hop, resolve, invoke, builtin, hs, hx, hrun, Result.andThen]
  exact hK
def For.add (f : For) (n : Nat) : For := { f with made := f.made ++ [n] }
def For.wipe (f : For) : For := { f with buf := [] }
theorem wrote_eq (f : For) (n : Nat) : (f.add n).wipe = f.wrote n := rfl
section
variable {w wr : World} {E : Nat → Addr} {F G : Nat → Prop} {sb fb eb : Nat} {f : For} {A : List Tx} {bv mv ev wv : Value} {m : Sto} {F' : Nat → Prop}
theorem Bw.drew (h : Bw w wr F G sb fb eb f A bv mv ev wv m F') : Bw w wr.drew F G sb fb eb f A bv mv ev wv m F' := h.below ⟨rfl, rfl, rfl, Nat.le_refl _, fun _ _ => rfl⟩
theorem Bw.pushed {W : World} {v' : Value} {n : Nat} (h : Bw w wr F G sb fb eb f A bv mv ev wv m F') (hown : W.ownsRow 0 3 1 v' (f.made ++ [n]).length (nts (f.made ++ [n]))) (hc : Chg (fun b => mv.ownBlock = some b) wr W) (hv : ∀ g, v'.ownBlock = some g → mv.ownBlock = some g ∨ wr.heap.size ≤ g) :
    W.cell? ⟨fb, 3, none⟩ = some mv ∧ W.frozen? ⟨fb, 3, none⟩ = false ∧ fb < W.heap.size ∧ W.cell? ⟨eb, 0, none⟩ = some (.pointer (some ⟨fb, 0, none⟩)) ∧ Bw w (W.setCell ⟨fb, 3, none⟩ v') F G sb fb eb (f.add n) A bv v' ev wv m F' := by
  have l3 := h.lt3
  have heb := h.heb
  have hlfb := h.lfb
  have hz := hc.size
  obtain ⟨a1, a2, a3⟩ := h.apart
  obtain ⟨r1, r2⟩ := row_lt h
  have hfbW : W.heap[fb]? = some (.cells (forC sb f bv mv) 80 (0, 0)) := (hc.block fb (by omega) a2).trans h.sto
  obtain ⟨c0, c1, c2, c3, c4, cf⟩ := fcells hfbW
  have hne : ∀ b, b ≠ fb → (W.setCell ⟨fb, 3, none⟩ v').heap[b]? = W.heap[b]? := fun b hb => Below.heap_setCell _ _ _ _ hb
  have hz2 : (W.setCell ⟨fb, 3, none⟩ v').heap.size = W.heap.size := by simp
  have hno : ∀ b, b < wr.heap.size → mv.ownBlock ≠ some b → b ≠ fb → (W.setCell ⟨fb, 3, none⟩ v').heap[b]? = wr.heap[b]? := fun b h1 h2 h3 => (hne b h3).trans (hc.block b h1 h2)
  have hmv : ∀ b, eb ≤ b → b < eb + 3 → mv.ownBlock ≠ some b := fun b h1 h2 e => by rcases h.lint b e with y | y <;> omega
  have e0 : W.heap[eb]? = wr.heap[eb]? := hc.block eb (by omega) (hmv eb (by omega) (by omega))
  have hvfb : ∀ g, v'.ownBlock = some g → g ≠ fb := fun g hg e => by
    rcases hv g hg with y | y
    · exact a2 (e ▸ y)
    · omega
  refine ⟨c3, cf 3, by omega, (World.cell?_of_block (a := ⟨eb, 0, none⟩) e0).trans h.cells.1, h.at_.kept (fun b hF => hno b (h.at_.lt b hF) (fun e => h.nint b e hF) fun e => h.nfb (e ▸ hF)) (fun _ y => y) (fun b hF => by rw [hz2]; exact Nat.lt_of_lt_of_le (h.at_.lt b hF) hz), fun b hb => (h.sub b hb).imp id fun y => ⟨y.1, by rw [hz2]; omega⟩, ?_, h.len, h.row.kept fun g hg => hno g (r1 g hg) (a3 g hg).2 (a3 g hg).1, own_kept hown fun g hg => hne g (hvfb g hg), h.nfb, h.nrow, fun g hg hF => ?_, h.nbx, (hno eb (by omega) (hmv eb (by omega) (by omega)) (by omega)).trans h.b0, (hno (eb + 1) (by omega) (hmv _ (by omega) (by omega)) (by omega)).trans h.b1, (hno (eb + 2) (by omega) (hmv _ (by omega) (by omega)) (by omega)).trans h.b2, h.lfb, h.lrow, fun g hg => ?_, h.heb, ?_⟩
  · rw [set_heap1 hfbW]
    simp [forC, For.add]
  · rcases hv g hg with y | y
    · exact h.nint g y hF
    · have := h.at_.lt g hF; omega
  · rcases hv g hg with y | y
    · exact h.lint g y
    · exact .inr (by omega)
  · refine (h.chg.trans (hc.mono fun b hb => ?_)).setCell (p := ⟨fb, 3, none⟩) (.inl (.inr hlfb.1)) _
    rcases h.lint b hb with y | y
    · exact .inl (.inr y.1)
    · exact .inr ⟨by omega, r2 b hb⟩
/-- the buffer's texts are wiped -/
theorem Bw.cleared {g N c : Nat} (h : Bw w wr F G sb fb eb f A (.slice (some ⟨g, 0, none⟩) N c) mv ev wv m F') (hN : 0 < f.buf.length) :
    ∃ W, (∀ ty, (Builtin.clear_ #[33] ty #[.slice (some ⟨g, 0, none⟩) N c]).run Tryz.prog wr = .ok (.tuple #[]) W) ∧ ∃ A2, Bw w W F G sb fb eb f A2 (.slice (some ⟨g, 0, none⟩) N c) mv ev wv m F' := by
  have hrow := h.row
  have hl := h.len
  obtain ⟨hlen, ⟨e, _⟩ | ⟨g', cap, cur, e, hbs, hb, h1, h2, h3, h4⟩⟩ := hrow
  · cases e
  · injection e with e1 e2 e3
    injection e1 with e1
    injection e1 with e1 _ _
    subst e1 e2 e3
    rw [Nat.mul_one] at h3 h4
    have hrun := fun ty => Lib.run_clear_slice (P := Tryz.prog) wr 33 9 ty (.string ⟨#[]⟩) Tryz.underlying33 zero9 rfl rfl g 0 A.length c (by omega) (fun j hj => by simp [World.cell?, hb]; omega) (fun j hj => by simp [World.frozen?, hb])
    have hh := setCells_heap g 9 (0, 0) (List.replicate A.length (Value.string ⟨#[]⟩)) 0 wr cur hb (by rw [List.length_replicate]; omega)
    obtain ⟨k1, k2, k3, k4, k5⟩ := setCells_size g (List.replicate A.length (Value.string ⟨#[]⟩)) 0 wr
    have hown : Own (wr.setCells g 0 (List.replicate A.length (Value.string ⟨#[]⟩))) (.slice (some ⟨g, 0, none⟩) A.length c) (List.replicate A.length (⟨#[]⟩ : Tx)) := by
      refine ⟨by simp [txs], .inr ⟨g, c, _, by rw [List.length_replicate], Nat.zero_le _, hh, by rw [List.length_replicate]; omega, h2, ?_, ?_⟩⟩
      · simp; omega
      · simp [txs]
    exact ⟨_, hrun, _, h.sorted hown (by rw [List.length_replicate]; exact hl) ⟨k2, k3, k4, by omega, fun b _ hn => k5 b fun e => hn (by rw [e]; rfl)⟩ h.apart.2.2⟩
/-- the buffer is cut -/
theorem Bw.cut {g N c : Nat} (h : Bw w wr F G sb fb eb f A (.slice (some ⟨g, 0, none⟩) N c) mv ev wv m F') : Bw w (wr.setCell ⟨fb, 2, none⟩ (.slice (some ⟨g, 0, none⟩) 0 c)) F G sb fb eb f.wipe [] (.slice (some ⟨g, 0, none⟩) 0 c) mv ev wv m F' := by
  have l3 := h.lt3
  have heb := h.heb
  have hlfb := h.lfb
  obtain ⟨a1, a2, a3⟩ := h.apart
  obtain ⟨r1, r2⟩ := row_lt h
  have hne : ∀ b, b ≠ fb → (wr.setCell ⟨fb, 2, none⟩ (.slice (some ⟨g, 0, none⟩) 0 c)).heap[b]? = wr.heap[b]? := fun b hb => Below.heap_setCell _ _ _ _ hb
  have hz2 : (wr.setCell ⟨fb, 2, none⟩ (.slice (some ⟨g, 0, none⟩) 0 c)).heap.size = wr.heap.size := by simp
  have hgf : g ≠ fb := (a3 g rfl).1
  refine ⟨h.at_.kept (fun b hF => hne b fun e => h.nfb (e ▸ hF)) (fun _ y => y) (fun b hF => by rw [hz2]; exact h.at_.lt b hF), fun b hb => (h.sub b hb).imp id fun y => ⟨y.1, by rw [hz2]; exact y.2⟩, ?_, rfl, ?_, own_kept h.int fun k hk => hne k fun e => a2 (e ▸ hk), h.nfb, h.nrow, h.nint, h.nbx, (hne eb (by omega)).trans h.b0, (hne (eb + 1) (by omega)).trans h.b1, (hne (eb + 2) (by omega)).trans h.b2, h.lfb, h.lrow, h.lint, h.heb, h.chg.setCell (p := ⟨fb, 2, none⟩) (.inl (.inr hlfb.1)) _⟩
  · rw [set_heap1 h.sto]
    simp [forC, For.wipe]
  · have hrow := h.row
    obtain ⟨hlen, ⟨e, _⟩ | ⟨g', cap, cur, e, hbs, hb, h1, h2, h3, h4⟩⟩ := hrow
    · cases e
    · injection e with e1 e2 e3
      injection e1 with e1
      injection e1 with e1 _ _
      subst e1 e2 e3
      exact ⟨rfl, .inr ⟨g, c, cur, rfl, Nat.zero_le _, (hne g hgf).trans hb, Nat.zero_le _, h2, h3, by simp⟩⟩
theorem Bw.fin (h : Bw w wr F G sb fb eb f f.buf bv mv ev wv m F') (hd : f.dead = 0) : FRes F G w E sb fb m f wr := by
  obtain ⟨r1, r2⟩ := row_lt h
  have l3 := h.lt3
  have heb := h.heb
  have hlfb := h.lfb
  have hlt : ∀ b, (b = fb ∨ bv.ownBlock = some b ∨ mv.ownBlock = some b) → b < wr.heap.size := fun b hb => by
    rcases hb with e | e | e
    · omega
    · exact r1 b e
    · exact r2 b e
  refine ⟨F', fun b => b = fb ∨ bv.ownBlock = some b ∨ mv.ownBlock = some b, h.at_, FIn.at (bv := bv) (mv := mv) ⟨hlt, .inl rfl, h.sto, h.row, fun g hg => .inr (.inl hg), h.int, fun g hg => .inr (.inr hg)⟩ hd, fun b hb e => ?_, h.sub, fun b hb => ?_, h.chg⟩
  · rcases e with e | e | e
    · exact h.nfb (e ▸ hb)
    · exact h.nrow b e hb
    · exact h.nint b e hb
  · have hl := hlt b hb
    rcases hb with e | e | e
    · exact .inl (e ▸ hlfb.1)
    · rcases h.lrow b e with y | y
      · exact .inl y.1
      · exact .inr ⟨by omega, hl⟩
    · rcases h.lint b e with y | y
      · exact .inl y.1
      · exact .inr ⟨by omega, hl⟩
end
end Rs
end Go.Proofs.YtbapnoafjcipjaaGreatDoor
/- Layer 9: write: a batch becomes a run. -/
namespace Go.Proofs.YtbapnoafjcipjaaGreatDoor
open Go.RowKit
namespace Rs
open Sm (Tx ofS)
theorem crt_le (m : Sto) : (crt m).1.2 ≤ 9 := by
  unfold crt
  split
  · simp
  · split <;> simp
theorem app_le9 (m : Sto) (k : Int) (L : List ByteArray) : (app m k L).1 ≤ 9 := by
  unfold app
  split
  · exact Nat.le_refl _
  · split
    · simp
    · split
      · simp
      · split <;> simp
theorem sel_le9 (m : Sto) (k : Int) : (sel m k).1 ≤ 9 := by
  unfold sel
  split
  · exact Nat.le_refl _
  · split
    · simp
    · split <;> simp
theorem puts_le9 : ∀ (n : Nat) (k : Int) (bs : Nat) (m : Sto) (T : List UInt8), T.length ≤ n → 1 ≤ bs → (wputs k bs m T).1 ≤ 9 := by
  intro n
  induction n with
  | zero =>
    intro k bs m T hT h1
    rw [wputs_stop (by omega)]
    simp
  | succ n ih =>
    intro k bs m T hT h1
    by_cases hl : T.length < bs
    · rw [wputs_stop hl]; simp
    · by_cases h0 : (app m k [strB (T.take bs)]).1 = 0
      · rw [wputs_go h1 hl h0]
        exact ih k bs _ _ (by rw [List.length_drop]; omega) h1
      · rw [wputs_no h1 hl h0]
        exact app_le9 _ _ _
theorem clo_le9 (k : Int) (m : Sto) (buf : List UInt8) : (wclo k m buf).1 ≤ 9 := by
  unfold wclo
  split
  · exact sel_le9 _ _
  · split
    · exact sel_le9 _ _
    · exact app_le9 _ _ _
theorem fwr_a {m m2 : Sto} {f : For} {c : Nat} (h : crt m = ((0, c), m2)) (hc : c ≠ 0) : fwr m f = (c, remAll m2 f.made, f.die c) := by
  have e : bat m (ofS f.buf) = (c, m2, 0) := by unfold bat; rw [h, if_pos hc]
  unfold fwr
  rw [e, if_neg hc]
theorem bat_b {m m1 : Sto} {n : Nat} {L : List Tx} (h : crt m = (((n : Int), 0), m1)) (hn : n = m.made + 1) : bat m L = batN n m1 L := by
  unfold bat
  rw [h, if_neg (by simp), ← hn]
theorem fwr_b {m m1 m2 : Sto} {f : For} {n c : Nat} (h : crt m = (((n : Int), 0), m1)) (hn : n = m.made + 1) (hp : (wputs n 512 m1 (Um.frs (Um.rl (ofS f.buf)))).1 = c) (hp2 : (wputs n 512 m1 (Um.frs (Um.rl (ofS f.buf)))).2.1 = m2) (hc : c ≠ 0) : fwr m f = (c, remAll (rem m2 n).2 f.made, f.die c) := by
  have e : bat m (ofS f.buf) = (c, (rem m2 n).2, 0) := by
    rw [bat_b h hn]
    unfold batN
    rw [hp, hp2, if_pos hc]
  unfold fwr
  rw [e, if_neg hc]
theorem fwr_c {m m1 m2 m3 : Sto} {f : For} {n c : Nat} {rest : List UInt8} (h : crt m = (((n : Int), 0), m1)) (hn : n = m.made + 1) (hp : wputs n 512 m1 (Um.frs (Um.rl (ofS f.buf))) = (0, m2, rest)) (hq : wclo n m2 rest = (c, m3)) (hc : c ≠ 0) : fwr m f = (c, remAll (rem m3 n).2 f.made, f.die c) := by
  have e : bat m (ofS f.buf) = (c, (rem m3 n).2, 0) := by
    rw [bat_b h hn]
    unfold batN
    rw [hp, if_neg (by simp), hq, if_pos hc]
  unfold fwr
  rw [e, if_neg hc]
theorem fwr_d {m m1 m2 m3 : Sto} {f : For} {n : Nat} {rest : List UInt8} (h : crt m = (((n : Int), 0), m1)) (hn : n = m.made + 1) (hp : wputs n 512 m1 (Um.frs (Um.rl (ofS f.buf))) = (0, m2, rest)) (hq : wclo n m2 rest = (0, m3)) : fwr m f = (0, m3, f.wrote n) := by
  have e : bat m (ofS f.buf) = (0, m3, n) := by
    rw [bat_b h hn]
    unfold batN
    rw [hp, if_neg (by simp), hq, if_neg (by simp)]
  unfold fwr
  rw [e, if_pos rfl]
theorem txs_lit1 (W : World) (x : Tx) : Um.Txs (W.alloc (.cells #[.string x] 9)) (.slice (some ⟨W.heap.size, 0, none⟩) 1 1) [x] := by
  refine ⟨_, 1, rfl, by simp, (fun h => by cases h), fun _ => ⟨W.heap.size, 0, rfl, by simp, fun j z hz => ?_⟩⟩
  rw [Nat.zero_add, World.cell?_alloc_at _ _ _ _ rfl]
  have hj := (List.getElem?_eq_some_iff.1 hz).1
  simp at hj
  subst hj
  simp at hz; subst hz; rfl
theorem rl_take {L : List Tx} {k : Nat} {x : Tx} (h : L[k]? = some x) : Um.frs (Um.rl (L.take (k + 1))) = Um.frs (Um.rl (L.take k)) ++ Um.frs (Um.rl [x]) := by
  have hk := (List.getElem?_eq_some_iff.1 h).1
  rw [List.take_succ_eq_append_getElem hk, (List.getElem?_eq_some_iff.1 h).2, Um.rl, List.map_append, Um.frs_app]
  rfl
theorem rl_split (L : List Tx) (k : Nat) : Um.frs (Um.rl L) = Um.frs (Um.rl (L.take k)) ++ Um.frs (Um.rl (L.drop k)) := by
  conv => lhs; rw [← List.take_append_drop k L, Um.rl, List.map_append, Um.frs_app]
  rfl
/-- the end of a region that has one -/
def One (A : Act) (W : World) (e : Exit) (a : Act) (w : World) : Prop := e = .normal ∧ a = A ∧ w = W
theorem one_intro {A : Act} {W : World} : NoPanic (One A W) .normal A W := ⟨rfl, rfl, rfl⟩
theorem wp_one {P : Program} {c : Code} {Q : Exit → Act → World → Prop} {a A : Act} {w W : World} (h : c.wp P (NoPanic (One A W)) a w) (hQ : Q .normal A W) : c.wp P Q a w :=
  Code.wp_mono (fun e a w hh => by
    have h2 := NoPanic.imp e a w hh
    obtain ⟨rfl, rfl, rfl⟩ := h2
    exact hQ) h
theorem gen_d {P : Program} {f : Func} {R : Ending → World → Prop} {e : Exit} {a : Act} {W : World} (h : ∀ V, V = W → bodyPostD P f R e a V) : bodyPostD P f R e a W := h W rfl
theorem results_err {fn : Func} (h : fn.results = #[.cell 2 44]) {tmps : Array Value} {w : World} {a : Addr} {v : Value} (hp : tmps.getD 2 undef = .pointer (some a)) (hc : w.cell? a = some v) : (results fn tmps).run Tryz.prog w = .ok v w := by
  have hp2 : tmps[2]?.getD undef = .pointer (some a) := by simpa using hp
  simp [results, h, hp2, go_sem, hc]
theorem crt_num {m m1 : Sto} {n : Int} (h : crt m = ((n, 0), m1)) : n = ((m.made + 1 : Nat) : Int) ∧ m.made + 1 ≤ 16777216 := by
  unfold crt at h
  split at h
  · injection h with h _; injection h with _ h; cases h
  · split at h
    · injection h with h _; injection h with _ h; cases h
    · injection h with h _; injection h with h _; exact ⟨h.symm, by omega⟩
set_option maxRecDepth 100000 in
set_option maxHeartbeats 4000000 in
theorem write_any {w : World} {E : Nat → Addr} {B : Nat} {F G : Nat → Prop} {sb fb : Nat} {m : Sto} {f : For} {bv mv : Value} (K : Bg w E B F G) (h : At w sb m F) (hf : FIn w sb fb f G bv mv) (hd : ∀ b, F b → ¬ G b) (ok : f.Ok m) (hne : 0 < f.buf.length) (hbl : f.buf.length ≤ 65536) :
    Calls Tryz.prog 35 #[.pointer (some ⟨fb, 0, none⟩)] w fun e w' => e = .returned (errV E (fwr m f).1) ∧ FRes F G w E sb fb (fwr m f).2.1 (fwr m f).2.2 w' := by
  have hmf : ∀ (fn : Fn) (first cap : Array Value) (w : World), (Instr.makeFunc fn first cap).run Tryz.prog w = .ok (.func fn first cap) w := fun _ _ _ _ => rfl
  have HML : Hid (f.made.length ≤ 16777216) := Nat.le_trans ok.made h.ok.made
  have HMN : Hid (∀ n ∈ f.made, n ≤ 16777216) := fun n hn => Nat.le_trans (ok.nums n hn) h.ok.made
  have HLV := hide ok.live
  obtain ⟨eb, heb⟩ : ∃ eb, eb = w.heap.size := ⟨_, rfl⟩
  have HB0 := hide (Bw.start h hf hd heb)
  have HK := hide K
  obtain ⟨g, N, cap, hbv⟩ : ∃ g N cap, bv = .slice (some ⟨g, 0, none⟩) N cap := by
    rcases hf.row.2 with ⟨_, e⟩ | ⟨g, cap, cur, e, _⟩
    · omega
    · exact ⟨g, _, cap, e⟩
  subst hbv
  obtain ⟨L, hL⟩ : ∃ L, ofS f.buf = L := ⟨_, rfl⟩
  have HSH : Hid (∀ x ∈ L, x.size ≤ 255) := fun x hx => ok.short x (Sm.ofS_mem.1 (hL ▸ hx))
  have HSO : Hid (∀ {W : World} {F' : Nat → Prop}, Bw w W F G sb fb eb f f.buf (.slice (some ⟨g, 0, none⟩) N cap) mv .nilIface (.pointer none) m F' → Calls Tryz.prog 47 #[.slice (some ⟨g, 0, none⟩) N cap] W fun e w' => e = .returned (.tuple #[]) ∧ Bw w w' F G sb fb eb f (srt f.buf) (.slice (some ⟨g, 0, none⟩) N cap) mv .nilIface (.pointer none) m F') := fun {W F'} hW => by
    refine (sort_tx hW.row (by omega)).mono ?_
    rintro e w' ⟨rfl, h2, h3⟩
    exact ⟨rfl, hW.sorted h2 (srt_len _) h3 hW.apart.2.2⟩
  have HCO : Hid (∀ {W : World} {F' : Nat → Prop}, Bw w W F G sb fb eb f (srt f.buf) (.slice (some ⟨g, 0, none⟩) N cap) mv .nilIface (.pointer none) m F' → Calls Tryz.prog 48 #[.slice (some ⟨g, 0, none⟩) N cap] W fun e w' => e = .returned (.slice (some ⟨g, 0, none⟩) L.length cap) ∧ ∃ T, Bw w w' F G sb fb eb f (L ++ T) (.slice (some ⟨g, 0, none⟩) N cap) mv .nilIface (.pointer none) m F') := fun {W F'} hW => by
    refine (compact_tx hW.row (by rw [srt_len]; omega)).mono ?_
    rintro e w' ⟨v', rfl, -, h3, T, h4, h5, h6⟩
    obtain ⟨a, c, e1, e2⟩ := h6 (by rw [srt_len]; exact hne)
    injection e1 with e1 _ e3
    subst e1 e3
    rw [compact_srt, hL] at h4 h5 e2
    exact ⟨by rw [e2], T, hW.sorted h5 (by rw [h4, srt_len]) h3 hW.apart.2.2⟩
  have hLL : L.length ≤ 65536 := by rw [← hL]; have := Sm.ofS_len f.buf; omega
  have HL := hide hL
  have HDN : Hid (∀ {W : World} {A2 : List Tx} {b2 m2 wv : Value} {mm : Sto} {F2 : Nat → Prop} {f2 : For}, Bw w W F G sb fb eb f2 A2 b2 m2 .nilIface wv mm F2 → W.cell? ⟨eb + 1, 0, none⟩ = some .nilIface) := fun hW => hW.cells.2.1
  obtain ⟨c0, m1, hcr⟩ : ∃ c0 m1, crt m = (c0, m1) := ⟨_, _, rfl⟩
  obtain ⟨q0, q1⟩ := made_crt m
  rw [hcr] at q0 q1
  obtain ⟨n0, c⟩ := c0
  have hc9 : c ≤ 9 := by have := crt_le m; rw [hcr] at this; exact this
  have hfsz : N ≤ 65536 := by
    rcases hf.row.2 with ⟨_, e⟩ | ⟨g, cap, cur, e, _⟩
    · omega
    · injection e with _ e _; omega
  obtain ⟨cF, mF, fF, hfw⟩ : ∃ cF mF fF, fwr m f = (cF, mF, fF) := ⟨_, _, _, rfl⟩
  rw [hfw]
  show Calls _ _ _ _ fun e w' => e = .returned (errV E cF) ∧ FRes F G w E sb fb mF fF w'
  have hmade := ok.made
  obtain ⟨x0, x1, x2, x3, x4, xf⟩ := fcells (unhide HB0).sto
  have HEB := hide heb
  by_cases hc : c = 0
  · subst hc
    obtain ⟨en, hn6⟩ := crt_num hcr
    obtain ⟨n, hn⟩ : ∃ n, n = m.made + 1 := ⟨_, rfl⟩
    rw [← hn] at en hn6
    subst en
    have HFB : Hid (∀ {c m2}, (wputs n 512 m1 (Um.frs (Um.rl L))).1 = c → (wputs n 512 m1 (Um.frs (Um.rl L))).2.1 = m2 → c ≠ 0 → cF = c ∧ mF = remAll (rem m2 n).2 f.made ∧ fF = f.die c) := fun {c m2} e1 e2 e3 => by
      have q := fwr_b (f := f) (c := c) (m2 := m2) hcr hn (by rw [hL]; exact e1) (by rw [hL]; exact e2) e3
      rw [hfw] at q
      simpa using q
    have HFC : Hid (∀ {m2 rest c m3}, wputs n 512 m1 (Um.frs (Um.rl L)) = (0, m2, rest) → wclo n m2 rest = (c, m3) → c ≠ 0 → cF = c ∧ mF = remAll (rem m3 n).2 f.made ∧ fF = f.die c) := fun {m2 rest c m3} e1 e2 e3 => by
      have q := fwr_c (f := f) hcr hn (by rw [hL]; exact e1) e2 e3
      rw [hfw] at q
      simpa using q
    have HFD : Hid (∀ {m2 rest m3}, wputs n 512 m1 (Um.frs (Um.rl L)) = (0, m2, rest) → wclo n m2 rest = (0, m3) → cF = 0 ∧ mF = m3 ∧ fF = f.wrote n) := fun {m2 rest m3} e1 e2 => by
      have q := fwr_d (f := f) hcr hn (by rw [hL]; exact e1) e2
      rw [hfw] at q
      simpa using q
    have HOP : Hid (∀ {W : World} {T : List Tx} {F' : Nat → Prop}, Bw w W F G sb fb eb f (L ++ T) (.slice (some ⟨g, 0, none⟩) N cap) mv .nilIface (.pointer none) m F' → Calls Tryz.prog 49 #[.pointer (some ⟨sb, 0, none⟩), .int .i64 512] W fun e w' => ∃ wb, e = .returned (.tuple #[.pointer (some ⟨wb, 0, none⟩), .nilIface]) ∧ (∃ F2, Bw w w' F G sb fb eb f (L ++ T) (.slice (some ⟨g, 0, none⟩) N cap) mv .nilIface (.pointer none) m1 F2) ∧ Bx w ((w'.setCell ⟨eb + 2, 0, none⟩ (.pointer (some ⟨wb, 0, none⟩))).setCell ⟨eb + 1, 0, none⟩ .nilIface) E F G sb fb eb wb f (L ++ T) (.slice (some ⟨g, 0, none⟩) N cap) mv .nilIface m1 ⟨n, 512, [], 0⟩) := fun hW => bw_open_go (unhide HK) hW hcr
    have HPU : Hid (∀ {W : World} {T : List Tx} {wb : Nat} {mk m' : Sto} {rk rest : List UInt8} {c k : Nat} {x : Tx}, L[k]? = some x → Bx w W E F G sb fb eb wb f (L ++ T) (.slice (some ⟨g, 0, none⟩) N cap) mv .nilIface mk ⟨n, 512, rk, 0⟩ → wputs n 512 mk (rk ++ Um.frs (Um.rl [x])) = (c, m', rest) → Calls Tryz.prog 50 #[.pointer (some ⟨wb, 0, none⟩), .slice (some ⟨W.heap.size, 0, none⟩) 1 1] (W.alloc (.cells #[.string x] 9)) fun e w' => e = .returned (errV E c) ∧ Bx w w' E F G sb fb eb wb f (L ++ T) (.slice (some ⟨g, 0, none⟩) N cap) mv .nilIface m' (putX ⟨n, 512, rk, 0⟩ c rest)) := fun {W T wb mk m' rk rest c k x} hx hW hP =>
      bx_put (unhide HK) (hW.below ((Below.refl _ W).alloc (Nat.le_refl _) _)) rfl hn6 (txs_lit1 W x) (unhide HSH x (List.mem_of_getElem? hx)) (hide hP)
    have HDX : Hid (∀ {W : World} {T : List Tx} {wb : Nat} {mm : Sto} {x : Wri} {c : Nat} (u : FrameMode), x.run = n → c ≠ 0 → c ≤ 9 → Bx w W E F G sb fb eb wb f (L ++ T) (.slice (some ⟨g, 0, none⟩) N cap) mv (er E c) mm x → CallsD Tryz.prog 45 #[.pointer (some ⟨eb + 1, 0, none⟩), .pointer (some ⟨eb + 2, 0, none⟩), .pointer (some ⟨eb, 0, none⟩)] u W fun e u' w' => u' = u ∧ (e = .returned (.tuple #[]) ∧ w'.cell? ⟨eb + 1, 0, none⟩ = some (er E c) ∧ FRes F G w E sb fb (remAll (rem mm n).2 f.made) (f.die c) w')) := fun {W T wb mm x c} u hr hc hc9 hW => by
      obtain ⟨F', hB⟩ := hW.bw
      have q := bx_drop (unhide HK) hW (by rw [hr]; exact hn6)
      rw [hr] at q
      exact clos_err (unhide HK).V (unhide HK).hF (unhide HK).hG (unhide HK).hB hB q (unhide HMN) (unhide HML) hc (by omega) u
    have HCG : Hid (∀ {W : World} {T : List Tx} {wb : Nat} {mk m3 : Sto} {rk : List UInt8}, Bx w W E F G sb fb eb wb f (L ++ T) (.slice (some ⟨g, 0, none⟩) N cap) mv .nilIface mk ⟨n, 512, rk, 0⟩ → wclo n mk rk = (0, m3) → Calls Tryz.prog 51 #[.pointer (some ⟨wb, 0, none⟩)] W fun e w' => e = .returned (.tuple #[.int .i64 n, .nilIface]) ∧ ∃ F2, Bw w w' F G sb fb eb f (L ++ T) (.slice (some ⟨g, 0, none⟩) N cap) mv .nilIface (.pointer (some ⟨wb, 0, none⟩)) m3 F2) := fun hW hP => bx_close_go (unhide HK) hW rfl hn6 hP
    have HCF : Hid (∀ {W : World} {T : List Tx} {wb : Nat} {mk m3 : Sto} {rk : List UInt8} {c : Nat}, Bx w W E F G sb fb eb wb f (L ++ T) (.slice (some ⟨g, 0, none⟩) N cap) mv .nilIface mk ⟨n, 512, rk, 0⟩ → wclo n mk rk = (c, m3) → c ≠ 0 → Calls Tryz.prog 51 #[.pointer (some ⟨wb, 0, none⟩)] W fun e w' => e = .returned (.tuple #[.int .i64 0, er E c]) ∧ Bx w w' E F G sb fb eb wb f (L ++ T) (.slice (some ⟨g, 0, none⟩) N cap) mv .nilIface m3 ⟨n, 512, [], c⟩) := fun hW hP hc => bx_close_fail (unhide HK) hW rfl hn6 hP hc
    clear h hf hd ok K hcr q0 q1 hfw hL heb hn
    go_enter_defers Tryz.func35, Tryz.ntmps35
    go_wp2_with fail
    refine (unhide HSO (unhide HB0)).mono ?_
    rintro e w1 ⟨rfl, h1⟩
    rw [show w.heap.size + 1 + 1 = eb + 2 by rw [unhide HEB], ← unhide HEB]
    have HB1 := hide h1
    obtain ⟨d0, d1, d2, d3, d4⟩ := h1.cells
    obtain ⟨f0, f1, f2, f3, f4, ff⟩ := fcells h1.sto
    clear h1 HB0 HSO x0 x1 x2 x3 x4 xf
    go_wp2_with (first
      | (go_at_call 48; refine (unhide HCO (unhide HB1)).mono ?_; rintro e w2 ⟨rfl, T, h2⟩; have HB2 := hide h2; obtain ⟨y0, y1, y2, y3, y4⟩ := h2.cells; obtain ⟨b0, b1, b2, b3, b4, bf⟩ := fcells h2.sto; clear h2)
      | (go_at_call 49; refine (unhide HOP (unhide HB2)).mono ?_; rintro e w3 ⟨wb, rfl, h3, h3x⟩; have HX3 := hide h3x; obtain ⟨F3, h3⟩ := h3; obtain ⟨u0, u1, u2, u3, u4⟩ := h3.cells; have ul := h3.lt3; clear h3 h3x))
    clear HOP HCO HB1 HB2 d0 d1 d2 d3 d4 f0 f1 f2 f3 f4 ff y0 y1 y2 y3 y4 b0 b1 b2 b3 b4 bf
    have HS : Hid (∃ mk rk, wputs n 512 m1 (Um.frs (Um.rl (L.take 0))) = (0, mk, rk) ∧ Bx w ((w3.setCell ⟨eb + 2, 0, none⟩ (.pointer (some ⟨wb, 0, none⟩))).setCell ⟨eb + 1, 0, none⟩ .nilIface) E F G sb fb eb wb f (L ++ T) (.slice (some ⟨g, 0, none⟩) N cap) mv .nilIface mk ⟨n, 512, rk, 0⟩) :=
      ⟨m1, [], by rw [List.take_zero]; exact wputs_stop (by simp [Um.rl, Um.frs]), unhide HX3⟩
    generalize hM : L.length = M at *
    have HM := hide hM
    clear hM HX3
    go_loopw [32] (fun s32 wr => ∃ k : Nat, s32 = .int .i64 k ∧ k ≤ M ∧ Hid (∃ mk rk, wputs n 512 m1 (Um.frs (Um.rl (L.take k))) = (0, mk, rk) ∧ Bx w wr E F G sb fb eb wb f (L ++ T) (.slice (some ⟨g, 0, none⟩) N cap) mv .nilIface mk ⟨n, 512, rk, 0⟩)) (fun s32 _ => M - (intOf s32).toNat)
    case atStart => exact ⟨0, rfl, Nat.zero_le _, HS⟩
    case round =>
      clear HS u0 u1 u2 u3 u4 ul
      obtain ⟨k, rfl, hk, HR⟩ := hrel
      obtain ⟨mk, rk, hP, hX⟩ := unhide HR
      have HP := hide hP
      have HX := hide hX
      obtain ⟨F4, h4⟩ := hX.bw
      obtain ⟨u0, u1, u2, u3, u4⟩ := h4.cells
      have ul := h4.lt3
      by_cases hlt : k < M
      · have hltz : (k : Int) < (M : Int) := by omega
        have hk0 : 0 ≤ (k : Int) := by omega
        obtain ⟨x, hx⟩ : ∃ x, L[k]? = some x := ⟨_, List.getElem?_eq_getElem (by rw [unhide HM]; exact hlt)⟩
        have hcx : wr.cell? ⟨g, k, none⟩ = some (.string x) := by
          have hlen := h4.row.1
          obtain ⟨_, _, es⟩ := h4.row.slice
          have hN2 : (L ++ T).length = N := by injection es with _ es _; exact es.symm
          exact own_cell h4.row hN2 (by rw [List.getElem?_append_left (by rw [unhide HM]; exact hlt)]; exact hx)
        obtain ⟨c, m', rest, hq⟩ : ∃ c m' rest, wputs n 512 mk (rk ++ Um.frs (Um.rl [x])) = (c, m', rest) := ⟨_, _, _, rfl⟩
        have HPK := hide (unhide HPU hx hX hq)
        have hnext : wputs n 512 m1 (Um.frs (Um.rl (L.take (k + 1)))) = (c, m', rest) := by
          rw [rl_take hx]
          have q := (wputs_cat _ n 512 m1 (Um.frs (Um.rl (L.take k))) (Um.frs (Um.rl [x])) (Nat.le_refl _) (by decide)).1 (by rw [hP])
          rw [q, hP]
          exact hq
        have hc9' : c ≤ 9 := by have := puts_le9 _ n 512 mk (rk ++ Um.frs (Um.rl [x])) (Nat.le_refl _) (by decide); rw [hq] at this; exact this
        have HNX := hide hnext
        clear hP hX h4 hx hq hnext HR
        by_cases hc : c = 0
        · subst hc
          rw [errV_zero] at HPK
          have e0 : putX ⟨n, 512, rk, 0⟩ 0 rest = ⟨n, 512, rest, 0⟩ := rfl
          rw [e0] at HPK
          clear e0
          go_wp2_with (go_at_call 50; refine (unhide HPK).mono ?_; rintro e w5 ⟨rfl, h5⟩; have HX5 := hide (h5.setE .nilIface); obtain ⟨F5, h5⟩ := h5.bw; obtain ⟨v0, v1, v2, v3, v4⟩ := h5.cells; have vl := h5.lt3; clear h5)
          go_roundw
          case rel => exact ⟨k + 1, by go_num, by omega, ⟨m', rest, unhide HNX, unhide HX5⟩⟩
          case measure => simp [intOf]; omega
        · have e0 : putX ⟨n, 512, rk, 0⟩ c rest = ⟨n, 512, [], c⟩ := putX_no hc
          rw [e0, errV_er hc] at HPK
          have hfin : cF = c ∧ mF = remAll (rem m' n).2 f.made ∧ fF = f.die c := by
            have q := (wputs_cat _ n 512 m1 (Um.frs (Um.rl (L.take (k + 1)))) (Um.frs (Um.rl (L.drop (k + 1)))) (Nat.le_refl _) (by decide)).2 (by rw [unhide HNX]; exact hc)
            rw [← rl_split, unhide HNX] at q
            exact unhide HFB q.1 q.2 hc
          have HFN := hide hfin
          have HC0 := hide hc
          have HC9 := hide hc9'
          clear hfin hc hc9' e0
          unfold er at *
          go_wp2_with (go_at_call 50; refine (unhide HPK).mono ?_; rintro e w5 ⟨rfl, h5⟩; have HX5 := hide ((h5.setE (.iface 168 (.pointer (some (E c))))).setE (.iface 168 (.pointer (some (E c))))); obtain ⟨F5, h5⟩ := h5.bw; obtain ⟨v0, v1, v2, v3, v4⟩ := h5.cells; have vl := h5.lt3; clear h5)
          refine leaves_cons (f := 45) (args := #[.pointer (some ⟨eb + 1, 0, none⟩), .pointer (some ⟨eb + 2, 0, none⟩), .pointer (some ⟨eb, 0, none⟩)]) (by simp) (by simp [go_sem]) ?_
          refine (unhide HDX .returning rfl (unhide HC0) (unhide HC9) (unhide HX5)).mono ?_
          rintro e u' w'' ⟨rfl, rfl, hce, hfr⟩
          obtain ⟨rfl, rfl, rfl⟩ := unhide HFN
          exact ⟨_, results_err rfl rfl hce, by rw [errV_er (unhide HC0)], hfr⟩
      · obtain rfl : k = M := by omega
        have hltz : ¬ (k : Int) < (k : Int) := by omega
        have hP2 : wputs n 512 m1 (Um.frs (Um.rl L)) = (0, mk, rk) := by rw [← unhide HM, List.take_length] at hP; exact hP
        obtain ⟨c, m3, hq⟩ : ∃ c m3, wclo n mk rk = (c, m3) := ⟨_, _, rfl⟩
        have hc9' : c ≤ 9 := by have := clo_le9 n mk rk; rw [hq] at this; exact this
        by_cases hc : c = 0
        · subst hc
          have HFN := hide (unhide HFD hP2 hq)
          have HCL := hide (unhide HCG hX hq)
          clear hP hX h4 hq hP2 HR hc9'
          go_wp2_with (go_at_call 51; refine (unhide HCL).mono ?_; rintro e w5 ⟨rfl, F5, h5⟩; have HX5 := hide (h5.setE .nilIface); obtain ⟨v0, v1, v2, v3, v4⟩ := h5.cells; have vl := h5.lt3; clear h5)
          refine gen_world ?_
          intro V hV
          have h6 : Bw w V F G sb fb eb f (L ++ T) (.slice (some ⟨g, 0, none⟩) N cap) mv .nilIface (.pointer (some ⟨wb, 0, none⟩)) m3 F5 := by rw [hV]; exact unhide HX5
          clear hV v0 v1 v2 v3 v4 vl HX5
          obtain ⟨g5, c5, W5, hap, hown5, hc5, hv5⟩ := push_num (W := V.drew) n h6.drew.int (by have := unhide HML; omega) 56
          obtain ⟨p1, p2, p3, p4, p5⟩ := h6.drew.pushed hown5 hc5 (fun k hk => by injection hk with hk; subst hk; exact hv5)
          obtain ⟨r0, r1, r2, r3, r4⟩ := h6.cells
          obtain ⟨s0, s1, s2, s3, s4, sf⟩ := fcells h6.sto
          have HAP := hide hap
          have HP5 := hide p5
          have l6 := h6.lt3
          have lf := h6.lfb.2
          have lfV : fb < V.heap.size := by omega
          have leV : eb < V.heap.size := by omega
          have leV1 : eb + 1 < V.heap.size := by omega
          clear hap hown5 hc5 hv5 p5 h6
          apply wp_one
          · go_region_law (refine step_app (by rfl) _ _ _ (by rfl) _ _ _ _ (by rfl) (by rfl) (by exact unhide HAP) ?_)
            all_goals exact one_intro
          · clear p1 p2 p3 p4 r0 r1 r2 r3 r4 s0 s1 s2 s3 s4 sf HAP
            have HP6 := unhide HP5
            generalize World.setCell _ _ _ = V6 at HP6 ⊢
            obtain ⟨W7, hcl, A2, h7⟩ := HP6.cleared hne
            obtain ⟨r0, r1, r2, r3, r4⟩ := HP6.cells
            obtain ⟨s0, s1, s2, s3, s4, sf⟩ := fcells HP6.sto
            obtain ⟨t0, t1, t2, t3, t4⟩ := h7.cells
            obtain ⟨y0, y1, y2, y3, y4, yf⟩ := fcells h7.sto
            have l7 := h7.lt3
            have lf7 := h7.lfb.2
            have HF8 := hide ((h7.cut).setE .nilIface).drew
            clear HP6 h7
            go_wp2
            apply wp_one
            · go_region
              all_goals exact one_intro
            · go_wp2
              refine gen_d ?_
              intro V9 hV9
              have h9 := unhide HF8
              rw [← hV9] at h9
              refine leaves_cons (f := 45) (args := #[.pointer (some ⟨eb + 1, 0, none⟩), .pointer (some ⟨eb + 2, 0, none⟩), .pointer (some ⟨eb, 0, none⟩)]) (by simp) (by simp [go_sem]) ?_
              refine (clos_nil .returning h9.cells.2.1).mono ?_
              rintro e u' w'' ⟨rfl, rfl, rfl⟩
              obtain ⟨rfl, rfl, rfl⟩ := unhide HFN
              exact ⟨_, results_err rfl rfl h9.cells.2.1, rfl, h9.fin (unhide HLV)⟩
        · have HFN := hide (unhide HFC hP2 hq hc)
          have HCL := hide (unhide HCF hX hq hc)
          have HC0 := hide hc
          have HC9 := hide hc9'
          clear hP hX h4 hq hP2 HR hc9' hc
          unfold er at *
          go_wp2_with (go_at_call 51; refine (unhide HCL).mono ?_; rintro e w5 ⟨rfl, h5⟩; have HX5 := hide ((h5.setE (.iface 168 (.pointer (some (E c))))).setE (.iface 168 (.pointer (some (E c))))); obtain ⟨F5, h5⟩ := h5.bw; obtain ⟨v0, v1, v2, v3, v4⟩ := h5.cells; have vl := h5.lt3; clear h5)
          refine leaves_cons (f := 45) (args := #[.pointer (some ⟨eb + 1, 0, none⟩), .pointer (some ⟨eb + 2, 0, none⟩), .pointer (some ⟨eb, 0, none⟩)]) (by simp) (by simp [go_sem]) ?_
          refine (unhide HDX .returning rfl (unhide HC0) (unhide HC9) (unhide HX5)).mono ?_
          rintro e u' w'' ⟨rfl, rfl, hce, hfr⟩
          obtain ⟨rfl, rfl, rfl⟩ := unhide HFN
          exact ⟨_, results_err rfl rfl hce, by rw [errV_er (unhide HC0)], hfr⟩
  · have en : n0 = 0 := (q1 hc).2
    subst en
    have hfw2 := fwr_a (f := f) hcr hc
    rw [hfw] at hfw2
    injection hfw2 with k1 k2
    injection k2 with k2 k3
    subst k1 k2 k3
    have HOP : Hid (∀ {W : World} {T : List Tx} {F' : Nat → Prop}, Bw w W F G sb fb eb f (L ++ T) (.slice (some ⟨g, 0, none⟩) N cap) mv .nilIface (.pointer none) m F' → Calls Tryz.prog 49 #[.pointer (some ⟨sb, 0, none⟩), .int .i64 512] W fun e w' => e = .returned (.tuple #[.pointer none, er E cF]) ∧ ∃ F2, Bw w w' F G sb fb eb f (L ++ T) (.slice (some ⟨g, 0, none⟩) N cap) mv .nilIface (.pointer none) m1 F2) := fun hW => bw_open_fail (unhide HK) hW hcr hc
    have HDO : Hid (∀ {W : World} {T : List Tx} {F' : Nat → Prop} (u : FrameMode), Bw w W F G sb fb eb f (L ++ T) (.slice (some ⟨g, 0, none⟩) N cap) mv (er E cF) (.pointer none) m1 F' → CallsD Tryz.prog 45 #[.pointer (some ⟨eb + 1, 0, none⟩), .pointer (some ⟨eb + 2, 0, none⟩), .pointer (some ⟨eb, 0, none⟩)] u W fun e u' w' => u' = u ∧ (e = .returned (.tuple #[]) ∧ w'.cell? ⟨eb + 1, 0, none⟩ = some (er E cF) ∧ FRes F G w E sb fb (remAll m1 f.made) (f.die cF) w')) := fun u hW =>
      clos_err (unhide HK).V (unhide HK).hF (unhide HK).hG (unhide HK).hB hW (bw_drop hW) (unhide HMN) (unhide HML) hc (by omega) u
    rw [errV_er hc]
    unfold er at *
    clear h hf hd ok K hcr q0 q1 hfw hL heb
    go_enter_defers Tryz.func35, Tryz.ntmps35
    go_wp2_with fail
    refine (unhide HSO (unhide HB0)).mono ?_
    rintro e w1 ⟨rfl, h1⟩
    rw [show w.heap.size + 1 + 1 = eb + 2 by rw [unhide HEB], ← unhide HEB]
    have HB1 := hide h1
    obtain ⟨d0, d1, d2, d3, d4⟩ := h1.cells
    obtain ⟨f0, f1, f2, f3, f4, ff⟩ := fcells h1.sto
    clear h1 HB0 HSO x0 x1 x2 x3 x4 xf
    go_wp2_with (first
      | (go_at_call 48; refine (unhide HCO (unhide HB1)).mono ?_; rintro e w2 ⟨rfl, T, h2⟩; have HB2 := hide h2; obtain ⟨y0, y1, y2, y3, y4⟩ := h2.cells; obtain ⟨b0, b1, b2, b3, b4, bf⟩ := fcells h2.sto; clear h2)
      | (go_at_call 49; refine (unhide HOP (unhide HB2)).mono ?_; rintro e w3 ⟨rfl, F3, h3⟩; have HB3 := hide (((h3.setW (.pointer none)).setE (.iface 168 (.pointer (some (E cF))))).setE (.iface 168 (.pointer (some (E cF))))); obtain ⟨u0, u1, u2, u3, u4⟩ := h3.cells; have ul := h3.lt3; clear h3))
    refine leaves_cons (f := 45) (args := #[.pointer (some ⟨eb + 1, 0, none⟩), .pointer (some ⟨eb + 2, 0, none⟩), .pointer (some ⟨eb, 0, none⟩)]) (by simp) (by simp [go_sem]) ?_
    refine (unhide HDO .returning (unhide HB3)).mono ?_
    rintro e u' w'' ⟨rfl, rfl, hce, hfr⟩
    exact ⟨_, results_err rfl rfl hce, rfl, hfr⟩
end Rs
end Go.Proofs.YtbapnoafjcipjaaGreatDoor
