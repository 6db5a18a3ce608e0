/- Layer 9: the writer's calls while a batch is written. -/
import Derived.Test.YtohfhkdhccpoaaaGreatDoorGh
import Derived.Lib.SliceRun
import Derived.Deep.RegionLaw
import Derived.BigQuiet
namespace Go.Proofs.YtohfhkdhccpoaaaGreatDoor
open Go.RowKit
namespace Rs
open Sm (Tx ofS)
set_option maxRecDepth 100000 in
theorem wdrop_nil (w : World) : Calls Tryz.prog 80 #[.pointer none] w fun e w' => e = .returned (.tuple #[]) ∧ w' = w := by
  go_enter Tryz.func80, Tryz.ntmps80
  go_wp2
  (try simp only [Exit.inBlock, Exit.then])
  refine bodyPost_ret (results_none rfl _ _ _) rfl ?_
  exact ⟨rfl, rfl⟩
/-- what is known of a batch that is written -/
structure Bg (w : World) (E : Nat → Addr) (B : Nat) (F G : Nat → Prop) : Prop where
  V : Env w E B
  hF : ∀ b, F b → B ≤ b
  hG : ∀ b, G b → B ≤ b
  hB : B ≤ w.heap.size
section
variable {w wr : World} {E : Nat → Addr} {B : Nat} {F G : Nat → Prop} {sb fb eb wb : Nat} {f : For} {A : List Tx} {bv mv ev wv : Value} {m : Sto} {x : Wri} {F' : Nat → Prop}
theorem bw_open_fail (K : Bg w E B F G) (h : Bw w wr F G sb fb eb f A bv mv ev wv m F') {c : Nat} {m2 : Sto} (hc : crt m = ((0, c), m2)) (hc0 : c ≠ 0) :
    Calls Tryz.prog 77 #[.pointer (some ⟨sb, 0, none⟩), .int .i64 512] wr fun e w' => e = .returned (.tuple #[.pointer none, er E c]) ∧ ∃ F2, Bw w w' F G sb fb eb f A bv mv ev wv m2 F2 := by
  refine (open_fail (b := 512) (h.env K.V K.hF K.hG K.hB) (h.lo K.hF K.hB) h.at_ (by decide) (by decide) hc hc0).mono ?_
  rintro e w' ⟨rfl, r⟩
  exact ⟨rfl, _, h.res r⟩
theorem bw_open_go (K : Bg w E B F G) (h : Bw w wr F G sb fb eb f A bv mv ev wv m F') {n : Nat} {m2 : Sto} (hc : crt m = (((n : Int), 0), m2)) :
    Calls Tryz.prog 77 #[.pointer (some ⟨sb, 0, none⟩), .int .i64 512] wr fun e w' => ∃ wb, e = .returned (.tuple #[.pointer (some ⟨wb, 0, none⟩), .nilIface]) ∧ (∃ F2, Bw w w' F G sb fb eb f A bv mv ev wv m2 F2) ∧ Bx w ((w'.setCell ⟨eb + 2, 0, none⟩ (.pointer (some ⟨wb, 0, none⟩))).setCell ⟨eb + 1, 0, none⟩ .nilIface) E F G sb fb eb wb f A bv mv .nilIface m2 ⟨n, 512, [], 0⟩ := by
  refine (open_go (b := 512) (h.env K.V K.hF K.hG K.hB) (h.lo K.hF K.hB) h.at_ (by decide) (by decide) hc).mono ?_
  rintro e w' ⟨wb, rfl, F2, H, wbv, q1, q2, q3, q4, q5, q6⟩
  have hb := h.turn q1 (fun b hb => (q4 b hb).imp id fun y => y.1) (q6.mono fun b hb => .inl hb)
  have l3 := h.lt3
  obtain ⟨r1, r2⟩ := row_lt h
  refine ⟨wb, rfl, ⟨F2, hb⟩, F2, H, wbv, (hb.setW (.pointer (some ⟨wb, 0, none⟩))).setE .nilIface, q2.kept (fun b hH => ?_) (fun _ y => y) (fun b hH => by simpa using q2.lt b hH), q3, fun b hH => ?_⟩
  · have := q5 b hH
    rw [Below.heap_setCell _ _ _ _ (by show b ≠ eb + 1; omega), Below.heap_setCell _ _ _ _ (by show b ≠ eb + 2; omega)]
  · have := q5 b hH
    exact ⟨by omega, fun g hg e => by have := r1 g hg; omega, fun g hg e => by have := r2 g hg; omega⟩
theorem bx_put (K : Bg w E B F G) (h : Bx w wr E F G sb fb eb wb f A bv mv ev m x) (hx : x.dead = 0) (hrun : x.run ≤ 16777216) {v : Value} {t : Tx} (hT : Um.Txs wr v [t]) (ht : t.size ≤ 255) {c : Nat} {m' : Sto} {rest : List UInt8} (HP : Hid (wputs x.run x.blk m (x.buf ++ Um.frs (Um.rl [t])) = (c, m', rest))) :
    Calls Tryz.prog 79 #[.pointer (some ⟨wb, 0, none⟩), v] wr fun e w' => e = .returned (errV E c) ∧ Bx w w' E F G sb fb eb wb f A bv mv ev m' (putX x c rest) := by
  obtain ⟨F', H, wbv, h1, h2, h3, h4⟩ := h
  have heb := h1.heb
  have hb := K.hB
  refine (put_go (h1.env K.V K.hF K.hG K.hB) (h1.lo K.hF K.hB) (fun b hH => by have := (h4 b hH).1; omega) (Nat.le_trans hb h1.chg.size) h1.at_ h2 h3 hx hrun hT (by simp) (Um.fit_yes fun k y hk => ?_) (by simp) c m' rest HP).mono ?_
  · have := List.mem_of_getElem? hk
    rw [List.mem_singleton] at this
    rw [this]; exact ht
  · rintro e w' ⟨rfl, r⟩
    exact ⟨rfl, Bx.wres h1 h4 r⟩
theorem bx_close_go (K : Bg w E B F G) (h : Bx w wr E F G sb fb eb wb f A bv mv ev m x) (hx : x.dead = 0) (hrun : x.run ≤ 16777216) {m2 : Sto} (hP : wclo x.run m x.buf = (0, m2)) :
    Calls Tryz.prog 81 #[.pointer (some ⟨wb, 0, none⟩)] wr fun e w' => e = .returned (.tuple #[.int .i64 x.run, .nilIface]) ∧ ∃ F2, Bw w w' F G sb fb eb f A bv mv ev (.pointer (some ⟨wb, 0, none⟩)) m2 F2 := by
  obtain ⟨F', H, wbv, h1, h2, h3, h4⟩ := h
  have heb := h1.heb
  have hb := K.hB
  have key : ∃ m1, (x.buf = [] → m1 = m) ∧ (x.buf ≠ [] → app m x.run [strB x.buf] = (0, m1)) ∧ sel m1 x.run = (0, m2) := by
    unfold wclo at hP
    by_cases hb : x.buf = []
    · rw [if_pos hb] at hP
      exact ⟨m, fun _ => rfl, fun e => absurd hb e, hP⟩
    · rw [if_neg hb] at hP
      by_cases h0 : (app m x.run [strB x.buf]).1 = 0
      · rw [if_pos h0] at hP
        exact ⟨_, fun e => absurd e hb, fun _ => Prod.ext h0 rfl, hP⟩
      · rw [if_neg h0] at hP
        exact absurd (by rw [hP]) h0
  obtain ⟨m1, a1, a2, a3⟩ := key
  refine (close_go (h1.env K.V K.hF K.hG K.hB) (h1.lo K.hF K.hB) (fun b hH => by have := (h4 b hH).1; omega) (Nat.le_trans hb h1.chg.size) h1.at_ h2 h3 hx hrun m1 a1 a2 a3).mono ?_
  rintro e w' ⟨rfl, r⟩
  exact ⟨rfl, Bx.cres h1 h4 r⟩
theorem bx_close_fail (K : Bg w E B F G) (h : Bx w wr E F G sb fb eb wb f A bv mv ev m x) (hx : x.dead = 0) (hrun : x.run ≤ 16777216) {c : Nat} {m2 : Sto} (hP : wclo x.run m x.buf = (c, m2)) (hc : c ≠ 0) :
    Calls Tryz.prog 81 #[.pointer (some ⟨wb, 0, none⟩)] wr fun e w' => e = .returned (.tuple #[.int .i64 0, er E c]) ∧ Bx w w' E F G sb fb eb wb f A bv mv ev m2 { x with buf := [], dead := c } := by
  obtain ⟨F', H, wbv, h1, h2, h3, h4⟩ := h
  have heb := h1.heb
  have hb := K.hB
  refine (close_fail (h1.env K.V K.hF K.hG K.hB) (h1.lo K.hF K.hB) (fun b hH => by have := (h4 b hH).1; omega) (Nat.le_trans hb h1.chg.size) h1.at_ h2 h3 hx hrun c m2 hP hc).mono ?_
  rintro e w' ⟨rfl, r⟩
  exact ⟨rfl, Bx.wres h1 h4 r⟩
theorem bx_drop (K : Bg w E B F G) (h : Bx w wr E F G sb fb eb wb f A bv mv ev m x) (hrun : x.run ≤ 16777216) :
    Calls Tryz.prog 80 #[.pointer (some ⟨wb, 0, none⟩)] wr fun e w' => e = .returned (.tuple #[]) ∧ ∃ F2, Bw w w' F G sb fb eb f A bv mv ev (.pointer (some ⟨wb, 0, none⟩)) (rem m x.run).2 F2 := by
  obtain ⟨F', H, wbv, h1, h2, h3, h4⟩ := h
  refine (drop_go (h1.env K.V K.hF K.hG K.hB) (h1.lo K.hF K.hB) h1.at_ h2 h3 hrun).mono ?_
  rintro e w' ⟨rfl, r⟩
  exact ⟨rfl, Bx.cres h1 h4 r⟩
theorem bw_drop (h : Bw w wr F G sb fb eb f A bv mv ev wv m F') : Calls Tryz.prog 80 #[.pointer none] wr fun e w' => e = .returned (.tuple #[]) ∧ ∃ F2, Bw w w' F G sb fb eb f A bv mv ev wv m F2 := by
  refine (wdrop_nil wr).mono ?_
  rintro e w' ⟨rfl, rfl⟩
  exact ⟨rfl, F', h⟩
/-- the start of write: its three variables are laid -/
theorem Bw.start (h : At w sb m F) (hf : FIn w sb fb f G bv mv) (hd : ∀ b, F b → ¬ G b) (he : eb = w.heap.size) : Bw w (((w.alloc (.cells #[.pointer (some ⟨fb, 0, none⟩)] 80)).alloc (.cells #[.nilIface] 38)).alloc (.cells #[.pointer none] 139)) F G sb fb eb f f.buf bv mv .nilIface (.pointer none) m F := by
  obtain ⟨W, hW⟩ : ∃ W, (((w.alloc (.cells #[.pointer (some ⟨fb, 0, none⟩)] 80)).alloc (.cells #[.nilIface] 38)).alloc (.cells #[.pointer none] 139)) = W := ⟨_, rfl⟩
  have hb : Below w.heap.size w W := by rw [← hW]; (repeat (first | exact Below.refl _ _ | refine Below.drew ?_ | refine Below.alloc ?_ (by first | (simp; done) | (simp; omega)) _ | refine Below.setCell ?_ (by first | (simp; done) | (simp; omega)) _))
  have hz : W.heap.size = eb + 3 := by rw [← hW, he]; simp
  have e0 : W.heap[eb]? = some (.cells #[.pointer (some ⟨fb, 0, none⟩)] 80 (0, 0)) := by
    rw [← hW, he, Below.heap_alloc _ _ _ (by simp; omega), Below.heap_alloc _ _ _ (by simp)]
    exact (MapKept.heap_alloc w _).1
  have e1 : W.heap[eb + 1]? = some (.cells #[.nilIface] 38 (0, 0)) := by
    rw [← hW, he, Below.heap_alloc _ _ _ (by simp)]
    have := (MapKept.heap_alloc (w.alloc (.cells #[.pointer (some ⟨fb, 0, none⟩)] 80)) (.cells #[.nilIface] 38)).1
    rwa [World.size_alloc] at this
  have e2 : W.heap[eb + 2]? = some (.cells #[.pointer none] 139 (0, 0)) := by
    rw [← hW, he]
    have := (MapKept.heap_alloc ((w.alloc (.cells #[.pointer (some ⟨fb, 0, none⟩)] 80)).alloc (.cells #[.nilIface] 38)) (.cells #[.pointer none] 139)).1
    rwa [World.size_alloc, World.size_alloc] at this
  rw [hW]
  have hlt : ∀ b, G b → b < eb := fun b hG => by rw [he]; exact hf.lt b hG
  exact ⟨h.kept (fun b hF => hb.block b (h.lt b hF)) (fun _ y => y) (fun b hF => Nat.lt_of_lt_of_le (h.lt b hF) hb.size), fun b hF => .inl hF, (hb.block fb (hf.lt fb hf.own)).trans hf.sto, rfl, hf.row.below hb, own_kept hf.int fun g hg => hb.block g (own_lt hf.int hg).2, fun hF => hd fb hF hf.own, fun g hg hF => hd g hF (hf.rowG g hg), fun g hg hF => hd g hF (hf.intG g hg), fun b h1 _ hF => by have := h.lt b hF; omega, e0, e1, e2, ⟨hf.own, hlt fb hf.own⟩, fun g hg => .inl ⟨hf.rowG g hg, hlt g (hf.rowG g hg)⟩, fun g hg => .inl ⟨hf.intG g hg, hlt g (hf.intG g hg)⟩, he, Chg.of_below hb⟩
end
end Rs
end Go.Proofs.YtohfhkdhccpoaaaGreatDoor
/- Layer 9: the end of a batch that was written: the run's number is kept, the buffer is cleared. No walk. -/
namespace Go.Proofs.YtohfhkdhccpoaaaGreatDoor
open Go.RowKit
namespace Rs
open Sm (Tx ofS)
theorem info3 : (Tryz.prog.info? 3).map (fun i => (i.zero, i.size, i.bytes)) = some (some (.int .i64 0), 1, 8) := by kernel_rfl
theorem push_num {W : World} {v : Value} {l : List Nat} (n : Nat) (hown : W.ownsRow 0 3 1 v l.length (nts l)) (hz : l.length + 1 ≤ 8796093022208) (ty : TypeId) :
    ∃ g c W', (Builtin.append_ #[28, 28] ty #[v, .slice (some ⟨W.heap.size, 0, none⟩) 1 1]).run Tryz.prog (W.alloc (.cells #[.int .i64 n] 3)) = .ok (.slice (some ⟨g, 0, none⟩) (l.length + 1) c) W' ∧ W'.ownsRow 0 3 1 (.slice (some ⟨g, 0, none⟩) (l.length + 1) c) (l ++ [n]).length (nts (l ++ [n])) ∧ Chg (fun b => v.ownBlock = some b) W W' ∧ (v.ownBlock = some g ∨ W.heap.size ≤ g) := by
  obtain ⟨i, hi, hz'⟩ := Option.map_eq_some_iff.1 info3
  simp only [Prod.mk.injEq] at hz'
  obtain ⟨hz0, hz1, hz2⟩ := hz'
  have hb : Below W.heap.size W (W.alloc (.cells #[.int .i64 n] 3)) := (Below.refl _ W).alloc (Nat.le_refl _) _
  have hown1 : (W.alloc (.cells #[.int .i64 n] 3)).ownsRow 0 3 1 v l.length (nts l) := own_kept hown fun g hg => hb.block g (own_lt hown hg).2
  obtain ⟨v', W', hrun, ho, hg, hbk⟩ := append_blk (P := Tryz.prog) (W.alloc (.cells #[.int .i64 n] 3)) 28 ty 3 i _ 1 8 Tryz.underlying28 hi hz0 hz1 hz2 rfl (by decide) v l.length (nts l) hown1 ⟨W.heap.size, 0, none⟩ 1 1 [.int .i64 n] rfl (cell_one_new _ _ _) (by simp [Value.oneCell']) (by unfold maxLen; omega) (by omega)
  obtain ⟨g, c, rfl⟩ := ownsRow_succ ho
  refine ⟨g, c, W', hrun, ?_, ((Chg.refl _ W).alloc _).grown hg fun k hk => .inl hk, ?_⟩
  · rw [List.length_append, show nts (l ++ [n]) = nts l ++ [.int .i64 n] by simp [nts]]
    exact ho
  · rcases hbk with e | e
    · exact .inl e.symm
    · have e : g = (W.alloc (.cells #[.int .i64 n] 3)).heap.size := by simpa [Value.ownBlock] using e
      rw [World.size_alloc] at e
      exact .inr (by omega)
theorem zero9 (w : World) : (zeroValue 9).run Tryz.prog w = .ok (.string ⟨#[]⟩) w := by kernel_rfl
theorem step_app {P : Program} {ops : Array Oper} {o : Oper} {a : Act} {w : World} {K : Act → World → Prop} {Q : Exit → Act → World → Prop} {E : Prop}
    (hg : o.guard = none) (s x : Operand) (t : TypeId) (hop : o.op = Op.call { callee := Callee.builtin Builtin.append, args := #[s, x], argTypes := #[t, t] })
    (v u v' : Value) (w' : World) (hs : a.eval s = v) (hx : a.eval x = u) (hrun : (Builtin.append_ #[t, t] o.type #[v, u]).run P w = .ok v' w') (hK : K (a.put o.dst v') w') :
    if Region.wanted o (yielded ops a.tmps) = true then Oper.wp P o a w K Q else E := by
  have hw : Region.wanted o (yielded ops a.tmps) = true := by simp [Region.wanted, hg]
  rw [if_pos hw]
  unfold Oper.wp
  simp [execOp, hop, resolve, invoke, builtin, hs, hx, hrun, Result.andThen]
  exact hK
def For.add (f : For) (n : Nat) : For := { f with made := f.made ++ [n] }
def For.wipe (f : For) : For := { f with buf := [] }
theorem wrote_eq (f : For) (n : Nat) : (f.add n).wipe = f.wrote n := rfl
section
variable {w wr : World} {E : Nat → Addr} {F G : Nat → Prop} {sb fb eb : Nat} {f : For} {A : List Tx} {bv mv ev wv : Value} {m : Sto} {F' : Nat → Prop}
theorem Bw.drew (h : Bw w wr F G sb fb eb f A bv mv ev wv m F') : Bw w wr.drew F G sb fb eb f A bv mv ev wv m F' := h.below ⟨rfl, rfl, rfl, Nat.le_refl _, fun _ _ => rfl⟩
theorem Bw.pushed {W : World} {v' : Value} {n : Nat} (h : Bw w wr F G sb fb eb f A bv mv ev wv m F') (hown : W.ownsRow 0 3 1 v' (f.made ++ [n]).length (nts (f.made ++ [n]))) (hc : Chg (fun b => mv.ownBlock = some b) wr W) (hv : ∀ g, v'.ownBlock = some g → mv.ownBlock = some g ∨ wr.heap.size ≤ g) :
    W.cell? ⟨fb, 3, none⟩ = some mv ∧ W.frozen? ⟨fb, 3, none⟩ = false ∧ fb < W.heap.size ∧ W.cell? ⟨eb, 0, none⟩ = some (.pointer (some ⟨fb, 0, none⟩)) ∧ Bw w (W.setCell ⟨fb, 3, none⟩ v') F G sb fb eb (f.add n) A bv v' ev wv m F' := by
  have l3 := h.lt3
  have heb := h.heb
  have hlfb := h.lfb
  have hz := hc.size
  obtain ⟨a1, a2, a3⟩ := h.apart
  obtain ⟨r1, r2⟩ := row_lt h
  have hfbW : W.heap[fb]? = some (.cells (forC sb f bv mv) 117 (0, 0)) := (hc.block fb (by omega) a2).trans h.sto
  obtain ⟨c0, c1, c2, c3, c4, cf⟩ := fcells hfbW
  have hne : ∀ b, b ≠ fb → (W.setCell ⟨fb, 3, none⟩ v').heap[b]? = W.heap[b]? := fun b hb => Below.heap_setCell _ _ _ _ hb
  have hz2 : (W.setCell ⟨fb, 3, none⟩ v').heap.size = W.heap.size := by simp
  have hno : ∀ b, b < wr.heap.size → mv.ownBlock ≠ some b → b ≠ fb → (W.setCell ⟨fb, 3, none⟩ v').heap[b]? = wr.heap[b]? := fun b h1 h2 h3 => (hne b h3).trans (hc.block b h1 h2)
  have hmv : ∀ b, eb ≤ b → b < eb + 3 → mv.ownBlock ≠ some b := fun b h1 h2 e => by rcases h.lint b e with y | y <;> omega
  have e0 : W.heap[eb]? = wr.heap[eb]? := hc.block eb (by omega) (hmv eb (by omega) (by omega))
  have hvfb : ∀ g, v'.ownBlock = some g → g ≠ fb := fun g hg e => by
    rcases hv g hg with y | y
    · exact a2 (e ▸ y)
    · omega
  refine ⟨c3, cf 3, by omega, (World.cell?_of_block (a := ⟨eb, 0, none⟩) e0).trans h.cells.1, h.at_.kept (fun b hF => hno b (h.at_.lt b hF) (fun e => h.nint b e hF) fun e => h.nfb (e ▸ hF)) (fun _ y => y) (fun b hF => by rw [hz2]; exact Nat.lt_of_lt_of_le (h.at_.lt b hF) hz), fun b hb => (h.sub b hb).imp id fun y => ⟨y.1, by rw [hz2]; omega⟩, ?_, h.len, h.row.kept fun g hg => hno g (r1 g hg) (a3 g hg).2 (a3 g hg).1, own_kept hown fun g hg => hne g (hvfb g hg), h.nfb, h.nrow, fun g hg hF => ?_, h.nbx, (hno eb (by omega) (hmv eb (by omega) (by omega)) (by omega)).trans h.b0, (hno (eb + 1) (by omega) (hmv _ (by omega) (by omega)) (by omega)).trans h.b1, (hno (eb + 2) (by omega) (hmv _ (by omega) (by omega)) (by omega)).trans h.b2, h.lfb, h.lrow, fun g hg => ?_, h.heb, ?_⟩
  · rw [set_heap1 hfbW]
    simp [forC, For.add]
  · rcases hv g hg with y | y
    · exact h.nint g y hF
    · have := h.at_.lt g hF; omega
  · rcases hv g hg with y | y
    · exact h.lint g y
    · exact .inr (by omega)
  · refine (h.chg.trans (hc.mono fun b hb => ?_)).setCell (p := ⟨fb, 3, none⟩) (.inl (.inr hlfb.1)) _
    rcases h.lint b hb with y | y
    · exact .inl (.inr y.1)
    · exact .inr ⟨by omega, r2 b hb⟩
/-- the buffer's texts are wiped -/
theorem Bw.cleared {g N c : Nat} (h : Bw w wr F G sb fb eb f A (.slice (some ⟨g, 0, none⟩) N c) mv ev wv m F') (hN : 0 < f.buf.length) :
    ∃ W, (∀ ty, (Builtin.clear_ #[29] ty #[.slice (some ⟨g, 0, none⟩) N c]).run Tryz.prog wr = .ok (.tuple #[]) W) ∧ ∃ A2, Bw w W F G sb fb eb f A2 (.slice (some ⟨g, 0, none⟩) N c) mv ev wv m F' := by
  have hrow := h.row
  have hl := h.len
  obtain ⟨hlen, ⟨e, _⟩ | ⟨g', cap, cur, e, hbs, hb, h1, h2, h3, h4⟩⟩ := hrow
  · cases e
  · injection e with e1 e2 e3
    injection e1 with e1
    injection e1 with e1 _ _
    subst e1 e2 e3
    rw [Nat.mul_one] at h3 h4
    have hrun := fun ty => Lib.run_clear_slice (P := Tryz.prog) wr 29 9 ty (.string ⟨#[]⟩) Tryz.underlying29 zero9 rfl rfl g 0 A.length c (by omega) (fun j hj => by simp [World.cell?, hb]; omega) (fun j hj => by simp [World.frozen?, hb])
    have hh := setCells_heap g 9 (0, 0) (List.replicate A.length (Value.string ⟨#[]⟩)) 0 wr cur hb (by rw [List.length_replicate]; omega)
    obtain ⟨k1, k2, k3, k4, k5⟩ := setCells_size g (List.replicate A.length (Value.string ⟨#[]⟩)) 0 wr
    have hown : Own (wr.setCells g 0 (List.replicate A.length (Value.string ⟨#[]⟩))) (.slice (some ⟨g, 0, none⟩) A.length c) (List.replicate A.length (⟨#[]⟩ : Tx)) := by
      refine ⟨by simp [txs], .inr ⟨g, c, _, by rw [List.length_replicate], Nat.zero_le _, hh, by rw [List.length_replicate]; omega, h2, ?_, ?_⟩⟩
      · simp; omega
      · simp [txs]
    exact ⟨_, hrun, _, h.sorted hown (by rw [List.length_replicate]; exact hl) ⟨k2, k3, k4, by omega, fun b _ hn => k5 b fun e => hn (by rw [e]; rfl)⟩ h.apart.2.2⟩
/-- the buffer is cut -/
theorem Bw.cut {g N c : Nat} (h : Bw w wr F G sb fb eb f A (.slice (some ⟨g, 0, none⟩) N c) mv ev wv m F') : Bw w (wr.setCell ⟨fb, 2, none⟩ (.slice (some ⟨g, 0, none⟩) 0 c)) F G sb fb eb f.wipe [] (.slice (some ⟨g, 0, none⟩) 0 c) mv ev wv m F' := by
  have l3 := h.lt3
  have heb := h.heb
  have hlfb := h.lfb
  obtain ⟨a1, a2, a3⟩ := h.apart
  obtain ⟨r1, r2⟩ := row_lt h
  have hne : ∀ b, b ≠ fb → (wr.setCell ⟨fb, 2, none⟩ (.slice (some ⟨g, 0, none⟩) 0 c)).heap[b]? = wr.heap[b]? := fun b hb => Below.heap_setCell _ _ _ _ hb
  have hz2 : (wr.setCell ⟨fb, 2, none⟩ (.slice (some ⟨g, 0, none⟩) 0 c)).heap.size = wr.heap.size := by simp
  have hgf : g ≠ fb := (a3 g rfl).1
  refine ⟨h.at_.kept (fun b hF => hne b fun e => h.nfb (e ▸ hF)) (fun _ y => y) (fun b hF => by rw [hz2]; exact h.at_.lt b hF), fun b hb => (h.sub b hb).imp id fun y => ⟨y.1, by rw [hz2]; exact y.2⟩, ?_, rfl, ?_, own_kept h.int fun k hk => hne k fun e => a2 (e ▸ hk), h.nfb, h.nrow, h.nint, h.nbx, (hne eb (by omega)).trans h.b0, (hne (eb + 1) (by omega)).trans h.b1, (hne (eb + 2) (by omega)).trans h.b2, h.lfb, h.lrow, h.lint, h.heb, h.chg.setCell (p := ⟨fb, 2, none⟩) (.inl (.inr hlfb.1)) _⟩
  · rw [set_heap1 h.sto]
    simp [forC, For.wipe]
  · have hrow := h.row
    obtain ⟨hlen, ⟨e, _⟩ | ⟨g', cap, cur, e, hbs, hb, h1, h2, h3, h4⟩⟩ := hrow
    · cases e
    · injection e with e1 e2 e3
      injection e1 with e1
      injection e1 with e1 _ _
      subst e1 e2 e3
      exact ⟨rfl, .inr ⟨g, c, cur, rfl, Nat.zero_le _, (hne g hgf).trans hb, Nat.zero_le _, h2, h3, by simp⟩⟩
theorem Bw.fin (h : Bw w wr F G sb fb eb f f.buf bv mv ev wv m F') (hd : f.dead = 0) : FRes F G w E sb fb m f wr := by
  obtain ⟨r1, r2⟩ := row_lt h
  have l3 := h.lt3
  have heb := h.heb
  have hlfb := h.lfb
  have hlt : ∀ b, (b = fb ∨ bv.ownBlock = some b ∨ mv.ownBlock = some b) → b < wr.heap.size := fun b hb => by
    rcases hb with e | e | e
    · omega
    · exact r1 b e
    · exact r2 b e
  refine ⟨F', fun b => b = fb ∨ bv.ownBlock = some b ∨ mv.ownBlock = some b, h.at_, FIn.at (bv := bv) (mv := mv) ⟨hlt, .inl rfl, h.sto, h.row, fun g hg => .inr (.inl hg), h.int, fun g hg => .inr (.inr hg)⟩ hd, fun b hb e => ?_, h.sub, fun b hb => ?_, h.chg⟩
  · rcases e with e | e | e
    · exact h.nfb (e ▸ hb)
    · exact h.nrow b e hb
    · exact h.nint b e hb
  · have hl := hlt b hb
    rcases hb with e | e | e
    · exact .inl (e ▸ hlfb.1)
    · rcases h.lrow b e with y | y
      · exact .inl y.1
      · exact .inr ⟨by omega, hl⟩
    · rcases h.lint b e with y | y
      · exact .inl y.1
      · exact .inr ⟨by omega, hl⟩
end
end Rs
end Go.Proofs.YtohfhkdhccpoaaaGreatDoor
/- Layer 9: write: a batch becomes a run. -/
namespace Go.Proofs.YtohfhkdhccpoaaaGreatDoor
open Go.RowKit
namespace Rs
open Sm (Tx ofS)
theorem crt_le (m : Sto) : (crt m).1.2 ≤ 9 := by
  unfold crt
  split
  · simp
  · split <;> simp
theorem app_le9 (m : Sto) (k : Int) (L : List ByteArray) : (app m k L).1 ≤ 9 := by
  unfold app
  split
  · exact Nat.le_refl _
  · split
    · simp
    · split
      · simp
      · split <;> simp
theorem sel_le9 (m : Sto) (k : Int) : (sel m k).1 ≤ 9 := by
  unfold sel
  split
  · exact Nat.le_refl _
  · split
    · simp
    · split <;> simp
theorem puts_le9 : ∀ (n : Nat) (k : Int) (bs : Nat) (m : Sto) (T : List UInt8), T.length ≤ n → 1 ≤ bs → (wputs k bs m T).1 ≤ 9 := by
  intro n
  induction n with
  | zero =>
    intro k bs m T hT h1
    rw [wputs_stop (by omega)]
    simp
  | succ n ih =>
    intro k bs m T hT h1
    by_cases hl : T.length < bs
    · rw [wputs_stop hl]; simp
    · by_cases h0 : (app m k [strB (T.take bs)]).1 = 0
      · rw [wputs_go h1 hl h0]
        exact ih k bs _ _ (by rw [List.length_drop]; omega) h1
      · rw [wputs_no h1 hl h0]
        exact app_le9 _ _ _
theorem clo_le9 (k : Int) (m : Sto) (buf : List UInt8) : (wclo k m buf).1 ≤ 9 := by
  unfold wclo
  split
  · exact sel_le9 _ _
  · split
    · exact sel_le9 _ _
    · exact app_le9 _ _ _
theorem fwr_a {m m2 : Sto} {f : For} {c : Nat} (h : crt m = ((0, c), m2)) (hc : c ≠ 0) : fwr m f = (c, remAll m2 f.made, f.die c) := by
  have e : bat m (ofS f.buf) = (c, m2, 0) := by unfold bat; rw [h, if_pos hc]
  unfold fwr
  rw [e, if_neg hc]
theorem bat_b {m m1 : Sto} {n : Nat} {L : List Tx} (h : crt m = (((n : Int), 0), m1)) (hn : n = m.made + 1) : bat m L = batN n m1 L := by
  unfold bat
  rw [h, if_neg (by simp), ← hn]
theorem fwr_b {m m1 m2 : Sto} {f : For} {n c : Nat} (h : crt m = (((n : Int), 0), m1)) (hn : n = m.made + 1) (hp : (wputs n 512 m1 (Um.frs (Um.rl (ofS f.buf)))).1 = c) (hp2 : (wputs n 512 m1 (Um.frs (Um.rl (ofS f.buf)))).2.1 = m2) (hc : c ≠ 0) : fwr m f = (c, remAll (rem m2 n).2 f.made, f.die c) := by
  have e : bat m (ofS f.buf) = (c, (rem m2 n).2, 0) := by
    rw [bat_b h hn]
    unfold batN
    rw [hp, hp2, if_pos hc]
  unfold fwr
  rw [e, if_neg hc]
theorem fwr_c {m m1 m2 m3 : Sto} {f : For} {n c : Nat} {rest : List UInt8} (h : crt m = (((n : Int), 0), m1)) (hn : n = m.made + 1) (hp : wputs n 512 m1 (Um.frs (Um.rl (ofS f.buf))) = (0, m2, rest)) (hq : wclo n m2 rest = (c, m3)) (hc : c ≠ 0) : fwr m f = (c, remAll (rem m3 n).2 f.made, f.die c) := by
  have e : bat m (ofS f.buf) = (c, (rem m3 n).2, 0) := by
    rw [bat_b h hn]
    unfold batN
    rw [hp, if_neg (by simp), hq, if_pos hc]
  unfold fwr
  rw [e, if_neg hc]
theorem fwr_d {m m1 m2 m3 : Sto} {f : For} {n : Nat} {rest : List UInt8} (h : crt m = (((n : Int), 0), m1)) (hn : n = m.made + 1) (hp : wputs n 512 m1 (Um.frs (Um.rl (ofS f.buf))) = (0, m2, rest)) (hq : wclo n m2 rest = (0, m3)) : fwr m f = (0, m3, f.wrote n) := by
  have e : bat m (ofS f.buf) = (0, m3, n) := by
    rw [bat_b h hn]
    unfold batN
    rw [hp, if_neg (by simp), hq, if_neg (by simp)]
  unfold fwr
  rw [e, if_pos rfl]
theorem txs_lit1 (W : World) (x : Tx) : Um.Txs (W.alloc (.cells #[.string x] 9)) (.slice (some ⟨W.heap.size, 0, none⟩) 1 1) [x] := by
  refine ⟨_, 1, rfl, by simp, (fun h => by cases h), fun _ => ⟨W.heap.size, 0, rfl, by simp, fun j z hz => ?_⟩⟩
  rw [Nat.zero_add, World.cell?_alloc_at _ _ _ _ rfl]
  have hj := (List.getElem?_eq_some_iff.1 hz).1
  simp at hj
  subst hj
  simp at hz; subst hz; rfl
theorem rl_take {L : List Tx} {k : Nat} {x : Tx} (h : L[k]? = some x) : Um.frs (Um.rl (L.take (k + 1))) = Um.frs (Um.rl (L.take k)) ++ Um.frs (Um.rl [x]) := by
  have hk := (List.getElem?_eq_some_iff.1 h).1
  rw [List.take_succ_eq_append_getElem hk, (List.getElem?_eq_some_iff.1 h).2, Um.rl, List.map_append, Um.frs_app]
  rfl
theorem rl_split (L : List Tx) (k : Nat) : Um.frs (Um.rl L) = Um.frs (Um.rl (L.take k)) ++ Um.frs (Um.rl (L.drop k)) := by
  conv => lhs; rw [← List.take_append_drop k L, Um.rl, List.map_append, Um.frs_app]
  rfl
/-- the end of a region that has one -/
def One (A : Act) (W : World) (e : Exit) (a : Act) (w : World) : Prop := e = .normal ∧ a = A ∧ w = W
theorem one_intro {A : Act} {W : World} : NoPanic (One A W) .normal A W := ⟨rfl, rfl, rfl⟩
theorem wp_one {P : Program} {c : Code} {Q : Exit → Act → World → Prop} {a A : Act} {w W : World} (h : c.wp P (NoPanic (One A W)) a w) (hQ : Q .normal A W) : c.wp P Q a w :=
  Code.wp_mono (fun e a w hh => by
    have h2 := NoPanic.imp e a w hh
    obtain ⟨rfl, rfl, rfl⟩ := h2
    exact hQ) h
theorem gen_d {P : Program} {f : Func} {R : Ending → World → Prop} {e : Exit} {a : Act} {W : World} (h : ∀ V, V = W → bodyPostD P f R e a V) : bodyPostD P f R e a W := h W rfl
theorem results_err {fn : Func} (h : fn.results = #[.cell 2 38]) {tmps : Array Value} {w : World} {a : Addr} {v : Value} (hp : tmps.getD 2 undef = .pointer (some a)) (hc : w.cell? a = some v) : (results fn tmps).run Tryz.prog w = .ok v w := by
  have hp2 : tmps[2]?.getD undef = .pointer (some a) := by simpa using hp
  simp [results, h, hp2, go_sem, hc]
theorem crt_num {m m1 : Sto} {n : Int} (h : crt m = ((n, 0), m1)) : n = ((m.made + 1 : Nat) : Int) ∧ m.made + 1 ≤ 16777216 := by
  unfold crt at h
  split at h
  · injection h with h _; injection h with _ h; cases h
  · split at h
    · injection h with h _; injection h with _ h; cases h
    · injection h with h _; injection h with h _; exact ⟨h.symm, by omega⟩
set_option maxRecDepth 100000 in
set_option maxHeartbeats 4000000 in
theorem write_any {w : World} {E : Nat → Addr} {B : Nat} {F G : Nat → Prop} {sb fb : Nat} {m : Sto} {f : For} {bv mv : Value} (K : Bg w E B F G) (h : At w sb m F) (hf : FIn w sb fb f G bv mv) (hd : ∀ b, F b → ¬ G b) (ok : f.Ok m) (hne : 0 < f.buf.length) (hbl : f.buf.length ≤ 65536) :
    Calls Tryz.prog 66 #[.pointer (some ⟨fb, 0, none⟩)] w fun e w' => e = .returned (errV E (fwr m f).1) ∧ FRes F G w E sb fb (fwr m f).2.1 (fwr m f).2.2 w' := by
  have hmf : ∀ (fn : Fn) (first cap : Array Value) (w : World), (Instr.makeFunc fn first cap).run Tryz.prog w = .ok (.func fn first cap) w := fun _ _ _ _ => rfl
  have HML : Hid (f.made.length ≤ 16777216) := Nat.le_trans ok.made h.ok.made
  have HMN : Hid (∀ n ∈ f.made, n ≤ 16777216) := fun n hn => Nat.le_trans (ok.nums n hn) h.ok.made
  have HLV := hide ok.live
  obtain ⟨eb, heb⟩ : ∃ eb, eb = w.heap.size := ⟨_, rfl⟩
  have HB0 := hide (Bw.start h hf hd heb)
  have HK := hide K
  obtain ⟨g, N, cap, hbv⟩ : ∃ g N cap, bv = .slice (some ⟨g, 0, none⟩) N cap := by
    rcases hf.row.2 with ⟨_, e⟩ | ⟨g, cap, cur, e, _⟩
    · omega
    · exact ⟨g, _, cap, e⟩
  subst hbv
  obtain ⟨L, hL⟩ : ∃ L, ofS f.buf = L := ⟨_, rfl⟩
  have HSH : Hid (∀ x ∈ L, x.size ≤ 255) := fun x hx => ok.short x (Sm.ofS_mem.1 (hL ▸ hx))
  have HSO : Hid (∀ {W : World} {F' : Nat → Prop}, Bw w W F G sb fb eb f f.buf (.slice (some ⟨g, 0, none⟩) N cap) mv .nilIface (.pointer none) m F' → Calls Tryz.prog 96 #[.slice (some ⟨g, 0, none⟩) N cap] W fun e w' => e = .returned (.tuple #[]) ∧ Bw w w' F G sb fb eb f (srt f.buf) (.slice (some ⟨g, 0, none⟩) N cap) mv .nilIface (.pointer none) m F') := fun {W F'} hW => by
    refine (sort_tx hW.row (by omega)).mono ?_
    rintro e w' ⟨rfl, h2, h3⟩
    exact ⟨rfl, hW.sorted h2 (srt_len _) h3 hW.apart.2.2⟩
  have HCO : Hid (∀ {W : World} {F' : Nat → Prop}, Bw w W F G sb fb eb f (srt f.buf) (.slice (some ⟨g, 0, none⟩) N cap) mv .nilIface (.pointer none) m F' → Calls Tryz.prog 97 #[.slice (some ⟨g, 0, none⟩) N cap] W fun e w' => e = .returned (.slice (some ⟨g, 0, none⟩) L.length cap) ∧ ∃ T, Bw w w' F G sb fb eb f (L ++ T) (.slice (some ⟨g, 0, none⟩) N cap) mv .nilIface (.pointer none) m F') := fun {W F'} hW => by
    refine (compact_tx hW.row (by rw [srt_len]; omega)).mono ?_
    rintro e w' ⟨v', rfl, -, h3, T, h4, h5, h6⟩
    obtain ⟨a, c, e1, e2⟩ := h6 (by rw [srt_len]; exact hne)
    injection e1 with e1 _ e3
    subst e1 e3
    rw [compact_srt, hL] at h4 h5 e2
    exact ⟨by rw [e2], T, hW.sorted h5 (by rw [h4, srt_len]) h3 hW.apart.2.2⟩
  have hLL : L.length ≤ 65536 := by rw [← hL]; have := Sm.ofS_len f.buf; omega
  have HL := hide hL
  have HDN : Hid (∀ {W : World} {A2 : List Tx} {b2 m2 wv : Value} {mm : Sto} {F2 : Nat → Prop} {f2 : For}, Bw w W F G sb fb eb f2 A2 b2 m2 .nilIface wv mm F2 → W.cell? ⟨eb + 1, 0, none⟩ = some .nilIface) := fun hW => hW.cells.2.1
  obtain ⟨c0, m1, hcr⟩ : ∃ c0 m1, crt m = (c0, m1) := ⟨_, _, rfl⟩
  obtain ⟨q0, q1⟩ := made_crt m
  rw [hcr] at q0 q1
  obtain ⟨n0, c⟩ := c0
  have hc9 : c ≤ 9 := by have := crt_le m; rw [hcr] at this; exact this
  have hfsz : N ≤ 65536 := by
    rcases hf.row.2 with ⟨_, e⟩ | ⟨g, cap, cur, e, _⟩
    · omega
    · injection e with _ e _; omega
  obtain ⟨cF, mF, fF, hfw⟩ : ∃ cF mF fF, fwr m f = (cF, mF, fF) := ⟨_, _, _, rfl⟩
  rw [hfw]
  show Calls _ _ _ _ fun e w' => e = .returned (errV E cF) ∧ FRes F G w E sb fb mF fF w'
  have hmade := ok.made
  obtain ⟨x0, x1, x2, x3, x4, xf⟩ := fcells (unhide HB0).sto
  have HEB := hide heb
  by_cases hc : c = 0
  · subst hc
    obtain ⟨en, hn6⟩ := crt_num hcr
    obtain ⟨n, hn⟩ : ∃ n, n = m.made + 1 := ⟨_, rfl⟩
    rw [← hn] at en hn6
    subst en
    have HFB : Hid (∀ {c m2}, (wputs n 512 m1 (Um.frs (Um.rl L))).1 = c → (wputs n 512 m1 (Um.frs (Um.rl L))).2.1 = m2 → c ≠ 0 → cF = c ∧ mF = remAll (rem m2 n).2 f.made ∧ fF = f.die c) := fun {c m2} e1 e2 e3 => by
      have q := fwr_b (f := f) (c := c) (m2 := m2) hcr hn (by rw [hL]; exact e1) (by rw [hL]; exact e2) e3
      rw [hfw] at q
      simpa using q
    have HFC : Hid (∀ {m2 rest c m3}, wputs n 512 m1 (Um.frs (Um.rl L)) = (0, m2, rest) → wclo n m2 rest = (c, m3) → c ≠ 0 → cF = c ∧ mF = remAll (rem m3 n).2 f.made ∧ fF = f.die c) := fun {m2 rest c m3} e1 e2 e3 => by
      have q := fwr_c (f := f) hcr hn (by rw [hL]; exact e1) e2 e3
      rw [hfw] at q
      simpa using q
    have HFD : Hid (∀ {m2 rest m3}, wputs n 512 m1 (Um.frs (Um.rl L)) = (0, m2, rest) → wclo n m2 rest = (0, m3) → cF = 0 ∧ mF = m3 ∧ fF = f.wrote n) := fun {m2 rest m3} e1 e2 => by
      have q := fwr_d (f := f) hcr hn (by rw [hL]; exact e1) e2
      rw [hfw] at q
      simpa using q
    have HOP : Hid (∀ {W : World} {T : List Tx} {F' : Nat → Prop}, Bw w W F G sb fb eb f (L ++ T) (.slice (some ⟨g, 0, none⟩) N cap) mv .nilIface (.pointer none) m F' → Calls Tryz.prog 77 #[.pointer (some ⟨sb, 0, none⟩), .int .i64 512] W fun e w' => ∃ wb, e = .returned (.tuple #[.pointer (some ⟨wb, 0, none⟩), .nilIface]) ∧ (∃ F2, Bw w w' F G sb fb eb f (L ++ T) (.slice (some ⟨g, 0, none⟩) N cap) mv .nilIface (.pointer none) m1 F2) ∧ Bx w ((w'.setCell ⟨eb + 2, 0, none⟩ (.pointer (some ⟨wb, 0, none⟩))).setCell ⟨eb + 1, 0, none⟩ .nilIface) E F G sb fb eb wb f (L ++ T) (.slice (some ⟨g, 0, none⟩) N cap) mv .nilIface m1 ⟨n, 512, [], 0⟩) := fun hW => bw_open_go (unhide HK) hW hcr
    have HPU : Hid (∀ {W : World} {T : List Tx} {wb : Nat} {mk m' : Sto} {rk rest : List UInt8} {c k : Nat} {x : Tx}, L[k]? = some x → Bx w W E F G sb fb eb wb f (L ++ T) (.slice (some ⟨g, 0, none⟩) N cap) mv .nilIface mk ⟨n, 512, rk, 0⟩ → wputs n 512 mk (rk ++ Um.frs (Um.rl [x])) = (c, m', rest) → Calls Tryz.prog 79 #[.pointer (some ⟨wb, 0, none⟩), .slice (some ⟨W.heap.size, 0, none⟩) 1 1] (W.alloc (.cells #[.string x] 9)) fun e w' => e = .returned (errV E c) ∧ Bx w w' E F G sb fb eb wb f (L ++ T) (.slice (some ⟨g, 0, none⟩) N cap) mv .nilIface m' (putX ⟨n, 512, rk, 0⟩ c rest)) := fun {W T wb mk m' rk rest c k x} hx hW hP =>
      bx_put (unhide HK) (hW.below ((Below.refl _ W).alloc (Nat.le_refl _) _)) rfl hn6 (txs_lit1 W x) (unhide HSH x (List.mem_of_getElem? hx)) (hide hP)
    have HDX : Hid (∀ {W : World} {T : List Tx} {wb : Nat} {mm : Sto} {x : Wri} {c : Nat} (u : FrameMode), x.run = n → c ≠ 0 → c ≤ 9 → Bx w W E F G sb fb eb wb f (L ++ T) (.slice (some ⟨g, 0, none⟩) N cap) mv (er E c) mm x → CallsD Tryz.prog 94 #[.pointer (some ⟨eb + 1, 0, none⟩), .pointer (some ⟨eb + 2, 0, none⟩), .pointer (some ⟨eb, 0, none⟩)] u W fun e u' w' => u' = u ∧ (e = .returned (.tuple #[]) ∧ w'.cell? ⟨eb + 1, 0, none⟩ = some (er E c) ∧ FRes F G w E sb fb (remAll (rem mm n).2 f.made) (f.die c) w')) := fun {W T wb mm x c} u hr hc hc9 hW => by
      obtain ⟨F', hB⟩ := hW.bw
      have q := bx_drop (unhide HK) hW (by rw [hr]; exact hn6)
      rw [hr] at q
      exact clos_err (unhide HK).V (unhide HK).hF (unhide HK).hG (unhide HK).hB hB q (unhide HMN) (unhide HML) hc (by omega) u
    have HCG : Hid (∀ {W : World} {T : List Tx} {wb : Nat} {mk m3 : Sto} {rk : List UInt8}, Bx w W E F G sb fb eb wb f (L ++ T) (.slice (some ⟨g, 0, none⟩) N cap) mv .nilIface mk ⟨n, 512, rk, 0⟩ → wclo n mk rk = (0, m3) → Calls Tryz.prog 81 #[.pointer (some ⟨wb, 0, none⟩)] W fun e w' => e = .returned (.tuple #[.int .i64 n, .nilIface]) ∧ ∃ F2, Bw w w' F G sb fb eb f (L ++ T) (.slice (some ⟨g, 0, none⟩) N cap) mv .nilIface (.pointer (some ⟨wb, 0, none⟩)) m3 F2) := fun hW hP => bx_close_go (unhide HK) hW rfl hn6 hP
    have HCF : Hid (∀ {W : World} {T : List Tx} {wb : Nat} {mk m3 : Sto} {rk : List UInt8} {c : Nat}, Bx w W E F G sb fb eb wb f (L ++ T) (.slice (some ⟨g, 0, none⟩) N cap) mv .nilIface mk ⟨n, 512, rk, 0⟩ → wclo n mk rk = (c, m3) → c ≠ 0 → Calls Tryz.prog 81 #[.pointer (some ⟨wb, 0, none⟩)] W fun e w' => e = .returned (.tuple #[.int .i64 0, er E c]) ∧ Bx w w' E F G sb fb eb wb f (L ++ T) (.slice (some ⟨g, 0, none⟩) N cap) mv .nilIface m3 ⟨n, 512, [], c⟩) := fun hW hP hc => bx_close_fail (unhide HK) hW rfl hn6 hP hc
    clear h hf hd ok K hcr q0 q1 hfw hL heb hn
    go_enter_defers Tryz.func66, Tryz.ntmps66
    go_wp2_with fail
    refine (unhide HSO (unhide HB0)).mono ?_
    rintro e w1 ⟨rfl, h1⟩
    rw [show w.heap.size + 1 + 1 = eb + 2 by rw [unhide HEB], ← unhide HEB]
    have HB1 := hide h1
    obtain ⟨d0, d1, d2, d3, d4⟩ := h1.cells
    obtain ⟨f0, f1, f2, f3, f4, ff⟩ := fcells h1.sto
    clear h1 HB0 HSO x0 x1 x2 x3 x4 xf
    go_wp2_with (first
      | (go_at_call 97; refine (unhide HCO (unhide HB1)).mono ?_; rintro e w2 ⟨rfl, T, h2⟩; have HB2 := hide h2; obtain ⟨y0, y1, y2, y3, y4⟩ := h2.cells; obtain ⟨b0, b1, b2, b3, b4, bf⟩ := fcells h2.sto; clear h2)
      | (go_at_call 77; refine (unhide HOP (unhide HB2)).mono ?_; rintro e w3 ⟨wb, rfl, h3, h3x⟩; have HX3 := hide h3x; obtain ⟨F3, h3⟩ := h3; obtain ⟨u0, u1, u2, u3, u4⟩ := h3.cells; have ul := h3.lt3; clear h3 h3x))
    clear HOP HCO HB1 HB2 d0 d1 d2 d3 d4 f0 f1 f2 f3 f4 ff y0 y1 y2 y3 y4 b0 b1 b2 b3 b4 bf
    have HS : Hid (∃ mk rk, wputs n 512 m1 (Um.frs (Um.rl (L.take 0))) = (0, mk, rk) ∧ Bx w ((w3.setCell ⟨eb + 2, 0, none⟩ (.pointer (some ⟨wb, 0, none⟩))).setCell ⟨eb + 1, 0, none⟩ .nilIface) E F G sb fb eb wb f (L ++ T) (.slice (some ⟨g, 0, none⟩) N cap) mv .nilIface mk ⟨n, 512, rk, 0⟩) :=
      ⟨m1, [], by rw [List.take_zero]; exact wputs_stop (by simp [Um.rl, Um.frs]), unhide HX3⟩
    generalize hM : L.length = M at *
    have HM := hide hM
    clear hM HX3
    go_loopw [32] (fun s32 wr => ∃ k : Nat, s32 = .int .i64 k ∧ k ≤ M ∧ Hid (∃ mk rk, wputs n 512 m1 (Um.frs (Um.rl (L.take k))) = (0, mk, rk) ∧ Bx w wr E F G sb fb eb wb f (L ++ T) (.slice (some ⟨g, 0, none⟩) N cap) mv .nilIface mk ⟨n, 512, rk, 0⟩)) (fun s32 _ => M - (intOf s32).toNat)
    case atStart => exact ⟨0, rfl, Nat.zero_le _, HS⟩
    case round =>
      clear HS u0 u1 u2 u3 u4 ul
      obtain ⟨k, rfl, hk, HR⟩ := hrel
      obtain ⟨mk, rk, hP, hX⟩ := unhide HR
      have HP := hide hP
      have HX := hide hX
      obtain ⟨F4, h4⟩ := hX.bw
      obtain ⟨u0, u1, u2, u3, u4⟩ := h4.cells
      have ul := h4.lt3
      by_cases hlt : k < M
      · have hltz : (k : Int) < (M : Int) := by omega
        have hk0 : 0 ≤ (k : Int) := by omega
        obtain ⟨x, hx⟩ : ∃ x, L[k]? = some x := ⟨_, List.getElem?_eq_getElem (by rw [unhide HM]; exact hlt)⟩
        have hcx : wr.cell? ⟨g, k, none⟩ = some (.string x) := by
          have hlen := h4.row.1
          obtain ⟨_, _, es⟩ := h4.row.slice
          have hN2 : (L ++ T).length = N := by injection es with _ es _; exact es.symm
          exact own_cell h4.row hN2 (by rw [List.getElem?_append_left (by rw [unhide HM]; exact hlt)]; exact hx)
        obtain ⟨c, m', rest, hq⟩ : ∃ c m' rest, wputs n 512 mk (rk ++ Um.frs (Um.rl [x])) = (c, m', rest) := ⟨_, _, _, rfl⟩
        have HPK := hide (unhide HPU hx hX hq)
        have hnext : wputs n 512 m1 (Um.frs (Um.rl (L.take (k + 1)))) = (c, m', rest) := by
          rw [rl_take hx]
          have q := (wputs_cat _ n 512 m1 (Um.frs (Um.rl (L.take k))) (Um.frs (Um.rl [x])) (Nat.le_refl _) (by decide)).1 (by rw [hP])
          rw [q, hP]
          exact hq
        have hc9' : c ≤ 9 := by have := puts_le9 _ n 512 mk (rk ++ Um.frs (Um.rl [x])) (Nat.le_refl _) (by decide); rw [hq] at this; exact this
        have HNX := hide hnext
        clear hP hX h4 hx hq hnext HR
        by_cases hc : c = 0
        · subst hc
          rw [errV_zero] at HPK
          have e0 : putX ⟨n, 512, rk, 0⟩ 0 rest = ⟨n, 512, rest, 0⟩ := rfl
          rw [e0] at HPK
          clear e0
          go_wp2_with (go_at_call 79; refine (unhide HPK).mono ?_; rintro e w5 ⟨rfl, h5⟩; have HX5 := hide (h5.setE .nilIface); obtain ⟨F5, h5⟩ := h5.bw; obtain ⟨v0, v1, v2, v3, v4⟩ := h5.cells; have vl := h5.lt3; clear h5)
          go_roundw
          case rel => exact ⟨k + 1, by go_num, by omega, ⟨m', rest, unhide HNX, unhide HX5⟩⟩
          case measure => simp [intOf]; omega
        · have e0 : putX ⟨n, 512, rk, 0⟩ c rest = ⟨n, 512, [], c⟩ := putX_no hc
          rw [e0, errV_er hc] at HPK
          have hfin : cF = c ∧ mF = remAll (rem m' n).2 f.made ∧ fF = f.die c := by
            have q := (wputs_cat _ n 512 m1 (Um.frs (Um.rl (L.take (k + 1)))) (Um.frs (Um.rl (L.drop (k + 1)))) (Nat.le_refl _) (by decide)).2 (by rw [unhide HNX]; exact hc)
            rw [← rl_split, unhide HNX] at q
            exact unhide HFB q.1 q.2 hc
          have HFN := hide hfin
          have HC0 := hide hc
          have HC9 := hide hc9'
          clear hfin hc hc9' e0
          unfold er at *
          go_wp2_with (go_at_call 79; refine (unhide HPK).mono ?_; rintro e w5 ⟨rfl, h5⟩; have HX5 := hide ((h5.setE (.iface 234 (.pointer (some (E c))))).setE (.iface 234 (.pointer (some (E c))))); obtain ⟨F5, h5⟩ := h5.bw; obtain ⟨v0, v1, v2, v3, v4⟩ := h5.cells; have vl := h5.lt3; clear h5)
          refine leaves_cons (f := 94) (args := #[.pointer (some ⟨eb + 1, 0, none⟩), .pointer (some ⟨eb + 2, 0, none⟩), .pointer (some ⟨eb, 0, none⟩)]) (by simp) (by simp [go_sem]) ?_
          refine (unhide HDX .returning rfl (unhide HC0) (unhide HC9) (unhide HX5)).mono ?_
          rintro e u' w'' ⟨rfl, rfl, hce, hfr⟩
          obtain ⟨rfl, rfl, rfl⟩ := unhide HFN
          exact ⟨_, results_err rfl rfl hce, by rw [errV_er (unhide HC0)], hfr⟩
      · obtain rfl : k = M := by omega
        have hltz : ¬ (k : Int) < (k : Int) := by omega
        have hP2 : wputs n 512 m1 (Um.frs (Um.rl L)) = (0, mk, rk) := by rw [← unhide HM, List.take_length] at hP; exact hP
        obtain ⟨c, m3, hq⟩ : ∃ c m3, wclo n mk rk = (c, m3) := ⟨_, _, rfl⟩
        have hc9' : c ≤ 9 := by have := clo_le9 n mk rk; rw [hq] at this; exact this
        by_cases hc : c = 0
        · subst hc
          have HFN := hide (unhide HFD hP2 hq)
          have HCL := hide (unhide HCG hX hq)
          clear hP hX h4 hq hP2 HR hc9'
          go_wp2_with (go_at_call 81; refine (unhide HCL).mono ?_; rintro e w5 ⟨rfl, F5, h5⟩; have HX5 := hide (h5.setE .nilIface); obtain ⟨v0, v1, v2, v3, v4⟩ := h5.cells; have vl := h5.lt3; clear h5)
          refine gen_world ?_
          intro V hV
          have h6 : Bw w V F G sb fb eb f (L ++ T) (.slice (some ⟨g, 0, none⟩) N cap) mv .nilIface (.pointer (some ⟨wb, 0, none⟩)) m3 F5 := by rw [hV]; exact unhide HX5
          clear hV v0 v1 v2 v3 v4 vl HX5
          obtain ⟨g5, c5, W5, hap, hown5, hc5, hv5⟩ := push_num (W := V.drew) n h6.drew.int (by have := unhide HML; omega) 28
          obtain ⟨p1, p2, p3, p4, p5⟩ := h6.drew.pushed hown5 hc5 (fun k hk => by injection hk with hk; subst hk; exact hv5)
          obtain ⟨r0, r1, r2, r3, r4⟩ := h6.cells
          obtain ⟨s0, s1, s2, s3, s4, sf⟩ := fcells h6.sto
          have HAP := hide hap
          have HP5 := hide p5
          have l6 := h6.lt3
          have lf := h6.lfb.2
          have lfV : fb < V.heap.size := by omega
          have leV : eb < V.heap.size := by omega
          have leV1 : eb + 1 < V.heap.size := by omega
          clear hap hown5 hc5 hv5 p5 h6
          apply wp_one
          · go_region_law (refine step_app (by rfl) _ _ _ (by rfl) _ _ _ _ (by rfl) (by rfl) (by exact unhide HAP) ?_)
            all_goals exact one_intro
          · clear p1 p2 p3 p4 r0 r1 r2 r3 r4 s0 s1 s2 s3 s4 sf HAP
            have HP6 := unhide HP5
            generalize World.setCell _ _ _ = V6 at HP6 ⊢
            obtain ⟨W7, hcl, A2, h7⟩ := HP6.cleared hne
            obtain ⟨r0, r1, r2, r3, r4⟩ := HP6.cells
            obtain ⟨s0, s1, s2, s3, s4, sf⟩ := fcells HP6.sto
            obtain ⟨t0, t1, t2, t3, t4⟩ := h7.cells
            obtain ⟨y0, y1, y2, y3, y4, yf⟩ := fcells h7.sto
            have l7 := h7.lt3
            have lf7 := h7.lfb.2
            have HF8 := hide ((h7.cut).setE .nilIface).drew
            clear HP6 h7
            go_wp2
            apply wp_one
            · go_region
              all_goals exact one_intro
            · go_wp2
              refine gen_d ?_
              intro V9 hV9
              have h9 := unhide HF8
              rw [← hV9] at h9
              refine leaves_cons (f := 94) (args := #[.pointer (some ⟨eb + 1, 0, none⟩), .pointer (some ⟨eb + 2, 0, none⟩), .pointer (some ⟨eb, 0, none⟩)]) (by simp) (by simp [go_sem]) ?_
              refine (clos_nil .returning h9.cells.2.1).mono ?_
              rintro e u' w'' ⟨rfl, rfl, rfl⟩
              obtain ⟨rfl, rfl, rfl⟩ := unhide HFN
              exact ⟨_, results_err rfl rfl h9.cells.2.1, rfl, h9.fin (unhide HLV)⟩
        · have HFN := hide (unhide HFC hP2 hq hc)
          have HCL := hide (unhide HCF hX hq hc)
          have HC0 := hide hc
          have HC9 := hide hc9'
          clear hP hX h4 hq hP2 HR hc9' hc
          unfold er at *
          go_wp2_with (go_at_call 81; refine (unhide HCL).mono ?_; rintro e w5 ⟨rfl, h5⟩; have HX5 := hide ((h5.setE (.iface 234 (.pointer (some (E c))))).setE (.iface 234 (.pointer (some (E c))))); obtain ⟨F5, h5⟩ := h5.bw; obtain ⟨v0, v1, v2, v3, v4⟩ := h5.cells; have vl := h5.lt3; clear h5)
          refine leaves_cons (f := 94) (args := #[.pointer (some ⟨eb + 1, 0, none⟩), .pointer (some ⟨eb + 2, 0, none⟩), .pointer (some ⟨eb, 0, none⟩)]) (by simp) (by simp [go_sem]) ?_
          refine (unhide HDX .returning rfl (unhide HC0) (unhide HC9) (unhide HX5)).mono ?_
          rintro e u' w'' ⟨rfl, rfl, hce, hfr⟩
          obtain ⟨rfl, rfl, rfl⟩ := unhide HFN
          exact ⟨_, results_err rfl rfl hce, by rw [errV_er (unhide HC0)], hfr⟩
  · have en : n0 = 0 := (q1 hc).2
    subst en
    have hfw2 := fwr_a (f := f) hcr hc
    rw [hfw] at hfw2
    injection hfw2 with k1 k2
    injection k2 with k2 k3
    subst k1 k2 k3
    have HOP : Hid (∀ {W : World} {T : List Tx} {F' : Nat → Prop}, Bw w W F G sb fb eb f (L ++ T) (.slice (some ⟨g, 0, none⟩) N cap) mv .nilIface (.pointer none) m F' → Calls Tryz.prog 77 #[.pointer (some ⟨sb, 0, none⟩), .int .i64 512] W fun e w' => e = .returned (.tuple #[.pointer none, er E cF]) ∧ ∃ F2, Bw w w' F G sb fb eb f (L ++ T) (.slice (some ⟨g, 0, none⟩) N cap) mv .nilIface (.pointer none) m1 F2) := fun hW => bw_open_fail (unhide HK) hW hcr hc
    have HDO : Hid (∀ {W : World} {T : List Tx} {F' : Nat → Prop} (u : FrameMode), Bw w W F G sb fb eb f (L ++ T) (.slice (some ⟨g, 0, none⟩) N cap) mv (er E cF) (.pointer none) m1 F' → CallsD Tryz.prog 94 #[.pointer (some ⟨eb + 1, 0, none⟩), .pointer (some ⟨eb + 2, 0, none⟩), .pointer (some ⟨eb, 0, none⟩)] u W fun e u' w' => u' = u ∧ (e = .returned (.tuple #[]) ∧ w'.cell? ⟨eb + 1, 0, none⟩ = some (er E cF) ∧ FRes F G w E sb fb (remAll m1 f.made) (f.die cF) w')) := fun u hW =>
      clos_err (unhide HK).V (unhide HK).hF (unhide HK).hG (unhide HK).hB hW (bw_drop hW) (unhide HMN) (unhide HML) hc (by omega) u
    rw [errV_er hc]
    unfold er at *
    clear h hf hd ok K hcr q0 q1 hfw hL heb
    go_enter_defers Tryz.func66, Tryz.ntmps66
    go_wp2_with fail
    refine (unhide HSO (unhide HB0)).mono ?_
    rintro e w1 ⟨rfl, h1⟩
    rw [show w.heap.size + 1 + 1 = eb + 2 by rw [unhide HEB], ← unhide HEB]
    have HB1 := hide h1
    obtain ⟨d0, d1, d2, d3, d4⟩ := h1.cells
    obtain ⟨f0, f1, f2, f3, f4, ff⟩ := fcells h1.sto
    clear h1 HB0 HSO x0 x1 x2 x3 x4 xf
    go_wp2_with (first
      | (go_at_call 97; refine (unhide HCO (unhide HB1)).mono ?_; rintro e w2 ⟨rfl, T, h2⟩; have HB2 := hide h2; obtain ⟨y0, y1, y2, y3, y4⟩ := h2.cells; obtain ⟨b0, b1, b2, b3, b4, bf⟩ := fcells h2.sto; clear h2)
      | (go_at_call 77; refine (unhide HOP (unhide HB2)).mono ?_; rintro e w3 ⟨rfl, F3, h3⟩; have HB3 := hide (((h3.setW (.pointer none)).setE (.iface 234 (.pointer (some (E cF))))).setE (.iface 234 (.pointer (some (E cF))))); obtain ⟨u0, u1, u2, u3, u4⟩ := h3.cells; have ul := h3.lt3; clear h3))
    refine leaves_cons (f := 94) (args := #[.pointer (some ⟨eb + 1, 0, none⟩), .pointer (some ⟨eb + 2, 0, none⟩), .pointer (some ⟨eb, 0, none⟩)]) (by simp) (by simp [go_sem]) ?_
    refine (unhide HDO .returning (unhide HB3)).mono ?_
    rintro e u' w'' ⟨rfl, rfl, hce, hfr⟩
    exact ⟨_, results_err rfl rfl hce, rfl, hfr⟩
end Rs
end Go.Proofs.YtohfhkdhccpoaaaGreatDoor
/- Layer 9: Add and Finish of a former. -/
namespace Go.Proofs.YtohfhkdhccpoaaaGreatDoor
open Go.RowKit
namespace Rs
open Sm (Tx ofS)
/-- while words are added: the store and the former, as they are by now -/
def Fl (w wr : World) (E : Nat → Addr) (F G : Nat → Prop) (sb fb : Nat) (m : Sto) (f : For) : Prop := FRes F G w E sb fb m f wr
theorem FRes.start {w : World} {E : Nat → Addr} {F G : Nat → Prop} {sb fb : Nat} {m : Sto} {f : For} (h : At w sb m F) (hf : FAt w E sb fb f G) (hd : ∀ b, F b → ¬ G b) : FRes F G w E sb fb m f w := ⟨F, G, h, hf, hd, fun _ x => .inl x, fun _ x => .inl x, Chg.refl _ _⟩
theorem FRes.trans {w w1 w2 : World} {E : Nat → Addr} {F G F1 G1 : Nat → Prop} {sb fb : Nat} {m : Sto} {f : For} (hF : ∀ b, F1 b → Up F w w1 b) (hG : ∀ b, G1 b → Up G w w1 b) (c : Chg (fun b => F b ∨ G b) w w1) (r : FRes F1 G1 w1 E sb fb m f w2) : FRes F G w E sb fb m f w2 := by
  obtain ⟨F', G', q1, q2, q3, q4, q5, q6⟩ := r
  have h1 := c.size
  have h2 := q6.size
  refine ⟨F', G', q1, q2, q3, fun b hb => ?_, fun b hb => ?_, c.trans (q6.mono fun b hb => ?_)⟩
  · rcases q4 b hb with y | y
    · exact (hF b y).imp id fun z => ⟨z.1, by omega⟩
    · exact .inr ⟨by omega, y.2⟩
  · rcases q5 b hb with y | y
    · exact (hG b y).imp id fun z => ⟨z.1, by omega⟩
    · exact .inr ⟨by omega, y.2⟩
  · rcases hb with hb | hb
    · exact (hF b hb).imp .inl id
    · exact (hG b hb).imp .inr id
theorem FRes.below {w w1 w2 : World} {E : Nat → Addr} {F G : Nat → Prop} {sb fb : Nat} {m : Sto} {f : For} (h : FRes F G w E sb fb m f w1) (hb : Below w1.heap.size w1 w2) : FRes F G w E sb fb m f w2 := by
  obtain ⟨F', G', q1, q2, q3, q4, q5, q6⟩ := h
  have h2 := hb.size
  exact ⟨F', G', q1.kept (fun b hF => hb.block b (q1.lt b hF)) (fun _ x => x) (fun b hF => Nat.lt_of_lt_of_le (q1.lt b hF) h2), q2.below hb, q3, fun b hF => (q4 b hF).imp id fun z => ⟨z.1, by omega⟩, fun b hF => (q5 b hF).imp id fun z => ⟨z.1, by omega⟩, q6.trans (Chg.of_below hb)⟩
/-- a batch is written, in the midst of a call -/
theorem fres_write {w wr : World} {E : Nat → Addr} {B : Nat} {F G : Nat → Prop} {sb fb : Nat} {m : Sto} {f : For} (K : Bg w E B F G) (h : FRes F G w E sb fb m f wr) (ok : f.Ok m) (hne : 0 < f.buf.length) (hbl : f.buf.length ≤ 65536) :
    Calls Tryz.prog 66 #[.pointer (some ⟨fb, 0, none⟩)] wr fun e w' => e = .returned (errV E (fwr m f).1) ∧ FRes F G w E sb fb (fwr m f).2.1 (fwr m f).2.2 w' := by
  obtain ⟨F', G', q1, q2, q3, q4, q5, q6⟩ := h
  obtain ⟨bv, mv, hf⟩ := q2.live ok.live
  have hB := K.hB
  have hz := q6.size
  refine (write_any (B := B) ⟨K.V.below (q6.below K.hB fun k hk => hk.elim (K.hF k) (K.hG k)), fun b hb => (q4 b hb).elim (K.hF b) fun y => by omega, fun b hb => (q5 b hb).elim (K.hG b) fun y => by omega, by omega⟩ q1 hf q3 ok hne hbl).mono ?_
  rintro e w' ⟨rfl, r⟩
  exact ⟨rfl, FRes.trans q4 q5 q6 r⟩
set_option maxRecDepth 100000 in
/-- one word more in the buffer -/
theorem fres_push {w wr : World} {E : Nat → Addr} {F G : Nat → Prop} {sb fb : Nat} {m : Sto} {f : For} (h : FRes F G w E sb fb m f wr) (hd : f.dead = 0) (x : Tx) (hz : f.buf.length + 1 ≤ 65536) :
    ∃ a c g c2 W', wr.cell? ⟨fb, 2, none⟩ = some (.slice a f.buf.length c) ∧ fb < wr.heap.size ∧ (∀ ty, (Builtin.append_ #[29, 29] ty #[.slice a f.buf.length c, .slice (some ⟨wr.heap.size, 0, none⟩) 1 1]).run Tryz.prog (wr.alloc (.cells #[.string x] 9)) = .ok (.slice (some ⟨g, 0, none⟩) (f.buf.length + 1) c2) W') ∧ W'.cell? ⟨fb, 2, none⟩ = some (.slice a f.buf.length c) ∧ W'.frozen? ⟨fb, 2, none⟩ = false ∧ fb < W'.heap.size ∧ FRes F G w E sb fb m (f.push x) (W'.setCell ⟨fb, 2, none⟩ (.slice (some ⟨g, 0, none⟩) (f.buf.length + 1) c2)) ∧ (W'.setCell ⟨fb, 2, none⟩ (.slice (some ⟨g, 0, none⟩) (f.buf.length + 1) c2)).cell? ⟨fb, 1, none⟩ = some (.int .i64 f.size) := by
  obtain ⟨F', G', q1, q2, q3, q4, q5, q6⟩ := h
  obtain ⟨bv, mv, hf⟩ := q2.live hd
  obtain ⟨a, c, rfl⟩ := hf.row.slice
  obtain ⟨x0, x1, x2, x3, x4, xf⟩ := fcells hf.sto
  obtain ⟨ap1, ap2, ap3⟩ := hf.apart
  have hfb := hf.lt fb hf.own
  obtain ⟨g, c2, W', hrun, ho, hc, hu, hk⟩ := push_tx x hf.row (by omega) 29 29 Tryz.underlying29
  have hrun' : ∀ ty, (Builtin.append_ #[29, 29] ty #[.slice a f.buf.length c, .slice (some ⟨wr.heap.size, 0, none⟩) 1 1]).run Tryz.prog (wr.alloc (.cells #[.string x] 9)) = .ok (.slice (some ⟨g, 0, none⟩) (f.buf.length + 1) c2) W' := fun ty => hrun
  have hz' := hc.size
  have hW : W'.heap[fb]? = some (.cells (forC sb f (.slice a f.buf.length c) mv) 117 (0, 0)) := (hc.block fb hfb ap1).trans hf.sto
  obtain ⟨y0, y1, y2, y3, y4, yf⟩ := fcells hW
  have hgf : g ≠ fb := fun e => hk fb hfb ap1 e.symm
  have hne : ∀ b, b ≠ fb → (W'.setCell ⟨fb, 2, none⟩ (.slice (some ⟨g, 0, none⟩) (f.buf.length + 1) c2)).heap[b]? = W'.heap[b]? := fun b hb => Below.heap_setCell _ _ _ _ hb
  have hsz : (W'.setCell ⟨fb, 2, none⟩ (.slice (some ⟨g, 0, none⟩) (f.buf.length + 1) c2)).heap.size = W'.heap.size := by simp
  have hsto : (W'.setCell ⟨fb, 2, none⟩ (.slice (some ⟨g, 0, none⟩) (f.buf.length + 1) c2)).heap[fb]? = some (.cells (forC sb (f.push x) (.slice (some ⟨g, 0, none⟩) (f.buf.length + 1) c2) mv) 117 (0, 0)) := by
    rw [set_heap1 hW]
    simp [forC, For.push]
  have hgl : g < W'.heap.size := (own_lt ho (g := g) rfl).2
  have hno : ∀ b, b < wr.heap.size → (Value.slice a f.buf.length c).ownBlock ≠ some b → b ≠ fb → (W'.setCell ⟨fb, 2, none⟩ (.slice (some ⟨g, 0, none⟩) (f.buf.length + 1) c2)).heap[b]? = wr.heap[b]? := fun b h1 h2 h3 => (hne b h3).trans (hc.block b h1 h2)
  have hcz := q6.size
  have hob : ∀ k, (Value.slice (some ⟨g, 0, none⟩) (f.buf.length + 1) c2).ownBlock = some k → k = g := fun k hk => by
    have e : g = k := by simpa [Value.ownBlock] using hk
    exact e.symm
  refine ⟨a, c, g, c2, W', x2, hfb, hrun', y2, yf 2, by omega, ⟨F', fun b => b = fb ∨ b = g ∨ mv.ownBlock = some b, q1.kept (fun b hF => hno b (q1.lt b hF) (fun e => q3 b hF (hf.rowG b e)) (fun e => q3 b hF (e ▸ hf.own))) (fun _ y => y) (fun b hF => by rw [hsz]; exact Nat.lt_of_lt_of_le (q1.lt b hF) hz'), FIn.at (bv := .slice (some ⟨g, 0, none⟩) (f.buf.length + 1) c2) (mv := mv) ⟨fun b hb => ?_, .inl rfl, hsto, ?_, fun k hk => .inr (.inl (hob k hk)), own_kept hf.int fun k hk => hno k (own_lt hf.int hk).2 (fun e => ap3 k e hk) (fun e => ap2 (e ▸ hk)), fun k hk => .inr (.inr hk)⟩ hd, fun b hF hb => ?_, fun b hF => (q4 b hF).imp id fun z => ⟨z.1, by rw [hsz]; omega⟩, fun b hb => ?_, ?_⟩, ?_⟩
  · rw [hsz]
    rcases hb with e | e | e
    · omega
    · omega
    · have := (own_lt hf.int e).2; omega
  · have ho' := ho.kept (W' := W'.setCell ⟨fb, 2, none⟩ (.slice (some ⟨g, 0, none⟩) (f.buf.length + 1) c2)) fun k hk => hne k (by rw [hob k hk]; exact hgf)
    exact ho'
  · rcases hb with e | e | e
    · exact q3 b hF (e ▸ hf.own)
    · subst e
      rcases hu with y | y
      · exact q3 b hF (hf.rowG b y)
      · have := q1.lt b hF; omega
    · exact q3 b hF (hf.intG b e)
  · rcases hb with e | e | e
    · exact (q5 b (e ▸ hf.own)).imp id fun z => ⟨z.1, by rw [hsz]; omega⟩
    · subst e
      rcases hu with y | y
      · exact (q5 b (hf.rowG b y)).imp id fun z => ⟨z.1, by rw [hsz]; omega⟩
      · exact .inr ⟨by omega, by rw [hsz]; exact y.2⟩
    · exact (q5 b (hf.intG b e)).imp id fun z => ⟨z.1, by rw [hsz]; omega⟩
  · refine (q6.trans (hc.mono fun b hb => ?_)).setCell (p := ⟨fb, 2, none⟩) ?_ _
    · exact (q5 b (hf.rowG b hb)).imp .inr id
    · rcases q5 fb hf.own with y | y
      · exact .inl (.inr y)
      · exact .inr y.1
  · simp [World.cell?, hsto, forC, For.push]
/-- words that came in, in blocks that the call does not turn -/
def Wds (w : World) (v : Value) (L : List Tx) (F : Nat → Prop) : Prop := ∃ ao cap, v = .slice ao L.length cap ∧ L.length ≤ cap ∧ (ao = none → cap = 0) ∧ (0 < L.length → ∃ g off, ao = some ⟨g, off, none⟩ ∧ g < w.heap.size ∧ ¬ F g ∧ ∀ (j : Nat) x, L[j]? = some x → w.cell? ⟨g, off + j, none⟩ = some (.string x))
theorem Wds.txs {w : World} {v : Value} {L : List Tx} {F : Nat → Prop} (h : Wds w v L F) : Um.Txs w v L := by
  obtain ⟨ao, cap, e, h1, h2, h3⟩ := h
  refine ⟨ao, cap, e, h1, h2, fun h0 => ?_⟩
  obtain ⟨g, off, e1, e2, _, e4⟩ := h3 h0
  exact ⟨g, off, e1, e2, e4⟩
theorem Wds.of {w : World} {v : Value} {L : List Tx} {F : Nat → Prop} (h : Um.Txs w v L) (hF : ∀ b, F b → ∀ a n c, v = .slice (some a) n c → b ≠ a.block) : Wds w v L F := by
  obtain ⟨ao, cap, e, h1, h2, h3⟩ := h
  refine ⟨ao, cap, e, h1, h2, fun h0 => ?_⟩
  obtain ⟨g, off, e1, e2, e4⟩ := h3 h0
  exact ⟨g, off, e1, e2, fun hf => hF g hf _ _ _ (by rw [e, e1]) rfl, e4⟩
theorem FRes.chg {w w1 : World} {E : Nat → Addr} {F G : Nat → Prop} {sb fb : Nat} {m : Sto} {f : For} (h : FRes F G w E sb fb m f w1) : Chg (fun b => F b ∨ G b) w w1 := by
  obtain ⟨F', G', q1, q2, q3, q4, q5, q6⟩ := h
  exact q6
theorem drewN_below (w : World) (n : Nat) : Below w.heap.size w (w.drewN n) := ⟨rfl, rfl, rfl, Nat.le_refl _, fun _ _ => rfl⟩
theorem wpList_apps {P : Program} {t : TypeId} (w : World) {ops : Array Oper} {rest : List Oper} {o : Oper} {a : Act} {Q : Exit → Act → World → Prop} (hg : o.guard = none) (s x : Operand) (hop : o.op = .call { callee := .builtin .append, args := #[s, x], argTypes := #[t, t] })
    (v u v' : Value) (W' : World) (hs : a.eval s = v) (hx : a.eval x = u) (hrun : (Builtin.append_ #[t, t] o.type #[v, u]).run P w = .ok v' W') (hK : wpList P ops Q rest (a.put o.dst v') W') : wpList P ops Q (o :: rest) a w := by
  refine wpList_plain hg fun K' hK' => ?_
  unfold Oper.wp execOp
  simp only [hop, resolve, invoke, builtin, Sem.run_bind, Sem.run_pure, Result.andThen_ok, List.map_toArray, List.map_cons, List.map_nil, hs, hx, hrun]
  exact hK' _ _ hK
end Rs
end Go.Proofs.YtohfhkdhccpoaaaGreatDoor
/- Layer 9: Add of a living former. -/
namespace Go.Proofs.YtohfhkdhccpoaaaGreatDoor
open Go.RowKit
namespace Rs
open Sm (Tx ofS)
/-- while words are added -/
def Ad (w wr : World) (E : Nat → Addr) (F G : Nat → Prop) (sb fb : Nat) (size : Nat) (R : Nat × Sto × For) (L : List Tx) : Prop :=
  ∃ m f, R = adds m f L ∧ FRes F G w E sb fb m f wr ∧ f.Ok m ∧ f.buf.length < f.size ∧ f.size = size
set_option maxRecDepth 100000 in
set_option maxHeartbeats 4000000 in
theorem add_go {w : World} {E : Nat → Addr} {B : Nat} {F G : Nat → Prop} {sb fb : Nat} {m : Sto} {f : For} {bv mv v : Value} {L : List Tx} (K : Bg w E B F G) (h : At w sb m F) (hf : FIn w sb fb f G bv mv) (hd : ∀ b, F b → ¬ G b) (ok : f.Ok m) (hful : f.buf.length < f.size) (hT : Wds w v L (fun b => F b ∨ G b)) (hm : L.length ≤ 9223372036854775806) (hs : L.any long = false) :
    Calls Tryz.prog 37 #[.pointer (some ⟨fb, 0, none⟩), v] w fun e w' => e = .returned (errV E (adds m f L).1) ∧ FRes F G w E sb fb (adds m f L).2.1 (adds m f L).2.2 w' := by
  obtain ⟨cA, mA, fA, hR⟩ : ∃ cA mA fA, adds m f L = (cA, mA, fA) := ⟨_, _, _, rfl⟩
  rw [hR]
  show Calls _ _ _ _ fun e w' => e = .returned (errV E cA) ∧ FRes F G w E sb fb mA fA w'
  have HCK := hide (fcheck_live hf)
  have HCO := hide (contains_long hT.txs (by omega))
  rw [hs] at HCO
  have H0 : Hid (Ad w w E F G sb fb f.size (cA, mA, fA) (L.drop 0)) := ⟨m, f, by rw [List.drop_zero, hR], FRes.start h (hf.at ok.live) hd, ok, hful, rfl⟩
  have HSH := hide (long_no hs)
  have HK := hide K
  have hs2 := ok.s2
  obtain ⟨sz, hsz⟩ : ∃ sz, f.size = sz := ⟨_, rfl⟩
  rw [hsz] at H0 hs2
  obtain ⟨ao, cap, rfl, hcap, hnn, hat⟩ := hT
  have HAT := hide hat
  generalize hN : L.length = N at *
  have HN := hide hN
  clear K h hf hd ok hful hat hR hs hN hsz hnn
  go_enter Tryz.func37, Tryz.ntmps37
  go_wp2_with (first
    | (go_at_call 63; refine (unhide HCK).mono ?_; rintro e w1 ⟨rfl, hw1⟩; have hw2 := hw1.symm; subst hw2; clear hw1)
    | (go_at_call 64; refine (unhide HCO).mono ?_; rintro e w1 ⟨rfl, hw1⟩; have hw2 := hw1.symm; subst hw2; clear hw1))
  clear HCK HCO
  go_loopw [19] (fun s19 wr => ∃ k : Nat, s19 = .int .i64 k ∧ k ≤ N ∧ Hid (Ad w wr E F G sb fb sz (cA, mA, fA) (L.drop k))) (fun s19 _ => N - (intOf s19).toNat)
  case atStart => exact ⟨0, rfl, Nat.zero_le _, H0⟩
  case round =>
    clear H0
    obtain ⟨k, rfl, hk, HR⟩ := hrel
    obtain ⟨mk, fk, hA, hRes, hok, hfl, hsk⟩ := unhide HR
    by_cases hlt : k < N
    · have hltz : (k : Int) < (N : Int) := by omega
      have hk0 : 0 ≤ (k : Int) := by omega
      have hlL : k < L.length := by rw [unhide HN]; exact hlt
      obtain ⟨x, hx⟩ : ∃ x, L[k]? = some x := ⟨_, List.getElem?_eq_getElem hlL⟩
      obtain ⟨g, off, rfl, hg, hgF, hc⟩ := unhide HAT (by omega)
      have hcx : wr.cell? ⟨g, off + k, none⟩ = some (.string x) := (World.cell?_of_block (a := ⟨g, off + k, none⟩) (hRes.chg.block g hg hgF)).trans (hc k x hx)
      have hxs := unhide HSH x (List.mem_of_getElem? hx)
      have hdr : L.drop k = x :: L.drop (k + 1) := by rw [List.drop_eq_getElem_cons hlL, (List.getElem?_eq_some_iff.1 hx).2]
      rw [hdr] at hA
      obtain ⟨a1, c1, g2, c2, W', e1, e2, e3, e4, e5, e6, e7, e8⟩ := fres_push hRes hok.live x (by rw [hsk] at hfl; omega)
      have HAP := hide (e3 29)
      have HPU := hide e7
      have hok2 := hok.push hxs
      have hbl : (fk.push x).buf.length = fk.buf.length + 1 := by simp [For.push]
      rw [hsk] at e8 hfl
      obtain ⟨q, hq⟩ : ∃ q, fk.buf.length = q := ⟨_, rfl⟩
      rw [hq] at e1 e4 HAP HPU e8 hfl hbl
      obtain ⟨q1, hq1⟩ : ∃ q1, q + 1 = q1 := ⟨_, rfl⟩
      rw [hq1] at HAP HPU e8 hbl
      have hq1b : q1 ≤ 65536 := by omega
      have HQ := hide hq
      have HQ1 := hide hq1
      have HOK2 := hide hok2
      have HBL := hide hbl
      have HSK := hide hsk
      have HA := hide hA
      clear hRes hok hok2 hbl hq hq1 e3 e7 hx hc hdr hA HR hsk
      by_cases hl : q1 < sz
      · have hlz : (q1 : Int) < (sz : Int) := by omega
        have HNX : Hid (∀ W, Below (W'.setCell ⟨fb, 2, none⟩ (.slice (some ⟨g2, 0, none⟩) q1 c2)).heap.size (W'.setCell ⟨fb, 2, none⟩ (.slice (some ⟨g2, 0, none⟩) q1 c2)) W → Ad w W E F G sb fb sz (cA, mA, fA) (L.drop (k + 1))) := fun W hW =>
          ⟨mk, fk.push x, by rw [unhide HA, adds_room (by rw [unhide HQ, unhide HQ1, unhide HSK]; exact hl)], (unhide HPU).below hW, unhide HOK2, by rw [unhide HBL]; show q1 < fk.size; rw [unhide HSK]; exact hl, unhide HSK⟩
        go_wp2_with (at_builtin; refine wpList_apps _ rfl _ _ rfl _ _ _ _ rfl rfl (by exact unhide HAP) ?_)
        have e9 := World.cell?_setCell_same W' ⟨fb, 2, none⟩ (.slice (some ⟨g2, 0, none⟩) q1 c2) e4
        have HNX2 := HNX
        clear HNX HAP HPU e1 e4
        generalize World.setCell _ _ _ = V at *
        go_quiet (fail)
        have HV := hide (unhide HNX2 _ (drewN_below V nq))
        clear HNX2
        go_wp2
        go_roundw
        case rel => exact ⟨k + 1, by go_num, by omega, HV⟩
        case measure => simp [intOf]; omega
      · have hlz : ¬ (q1 : Int) < (sz : Int) := by omega
        obtain ⟨c, m', f', hw⟩ : ∃ c m' f', fwr mk (fk.push x) = (c, m', f') := ⟨_, _, _, rfl⟩
        have HWR : Hid (∀ W, Below (W'.setCell ⟨fb, 2, none⟩ (.slice (some ⟨g2, 0, none⟩) q1 c2)).heap.size (W'.setCell ⟨fb, 2, none⟩ (.slice (some ⟨g2, 0, none⟩) q1 c2)) W → Calls Tryz.prog 66 #[.pointer (some ⟨fb, 0, none⟩)] W fun e w' => e = .returned (errV E c) ∧ FRes F G w E sb fb m' f' w') := fun W hW => by
          have r := fres_write (unhide HK) ((unhide HPU).below hW) (unhide HOK2) (by rw [unhide HBL, ← unhide HQ1]; omega) (by rw [unhide HBL]; exact hq1b)
          rw [hw] at r
          exact r
        have hnl : ¬ fk.buf.length + 1 < fk.size := by rw [unhide HQ, unhide HQ1, unhide HSK]; exact hl
        by_cases hc : c = 0
        · subst hc
          rw [errV_zero] at HWR
          have HNX : Hid (∀ W, FRes F G w E sb fb m' f' W → Ad w W E F G sb fb sz (cA, mA, fA) (L.drop (k + 1))) := fun W hW => by
            obtain ⟨o1, o2, o3⟩ := (unhide HOK2).wrote (by rw [hw])
            have eA := unhide HA
            rw [adds_go hnl (by rw [hw]), hw] at eA
            rw [hw] at o1 o2 o3
            refine ⟨m', f', eA, hW, o1, ?_, ?_⟩
            · rw [o2, o3]; exact o1.s1 |> fun q => by rw [o3] at q; exact q
            · rw [o3]; exact unhide HSK
          clear hw hnl
          go_wp2_with (at_builtin; refine wpList_apps _ rfl _ _ rfl _ _ _ _ rfl rfl (by exact unhide HAP) ?_)
          have e9 := World.cell?_setCell_same W' ⟨fb, 2, none⟩ (.slice (some ⟨g2, 0, none⟩) q1 c2) e4
          clear HAP HPU e1 e4
          generalize World.setCell _ _ _ = V at *
          go_quiet (fail)
          have HV := hide (unhide HWR _ (drewN_below V nq))
          clear HWR
          go_wp2_with (go_at_call 66; refine (unhide HV).mono ?_; rintro e w5 ⟨rfl, h5⟩; have H5 := hide (unhide HNX _ h5); clear h5)
          go_roundw
          case rel => exact ⟨k + 1, by go_num, by omega, H5⟩
          case measure => simp [intOf]; omega
        · have hfin : (cA, mA, fA) = (c, m', f') := by rw [unhide HA, adds_no hnl (by rw [hw]; exact hc), hw]
          injection hfin with i1 i2
          injection i2 with i2 i3
          subst i1 i2 i3
          have HC0 := hide hc
          rw [errV_er hc] at HWR
          unfold er at *
          clear hw hnl hc
          go_wp2_with (at_builtin; refine wpList_apps _ rfl _ _ rfl _ _ _ _ rfl rfl (by exact unhide HAP) ?_)
          have e9 := World.cell?_setCell_same W' ⟨fb, 2, none⟩ (.slice (some ⟨g2, 0, none⟩) q1 c2) e4
          clear HAP HPU e1 e4
          generalize World.setCell _ _ _ = V at *
          go_quiet (fail)
          have HV := hide (unhide HWR _ (drewN_below V nq))
          clear HWR
          go_wp2_with (go_at_call 66; refine (unhide HV).mono ?_; rintro e w5 ⟨rfl, h5⟩; have H5 := hide h5; clear h5)
          go_ret
          exact ⟨by rw [errV_er (unhide HC0)]; rfl, unhide H5⟩
    · obtain rfl : k = N := by omega
      have hltz : ¬ (k : Int) < (k : Int) := by omega
      rw [List.drop_of_length_le (by rw [unhide HN]; exact Nat.le_refl _), adds_stop] at hA
      injection hA with i1 i2
      injection i2 with i2 i3
      subst i1 i2 i3
      have HF := hide hRes
      clear hRes hok hfl hsk HR
      go_wp2
      go_ret
      exact ⟨rfl, unhide HF⟩
end Rs
end Go.Proofs.YtohfhkdhccpoaaaGreatDoor
/- Layer 9: Finish of a living former. -/
namespace Go.Proofs.YtohfhkdhccpoaaaGreatDoor
open Go.RowKit
namespace Rs
open Sm (Tx ofS)
/-- behind Finish: the store, the closed former, and the list of the runs -/
def FinR (F G : Nat → Prop) (w : World) (sb fb : Nat) (m : Sto) (l : List Nat) (v : Value) (w' : World) : Prop :=
  ∃ F', At w' sb m F' ∧ FCl w' fb ∧ w'.ownsRow 0 3 1 v l.length (nts l) ∧ ¬ F' fb ∧ (∀ g, v.ownBlock = some g → ¬ F' g ∧ g ≠ fb ∧ Up G w w' g) ∧ (∀ b, F' b → Up F w w' b) ∧ Up G w w' fb ∧ Chg (fun b => F b ∨ G b) w w'
theorem fin_close {w wr : World} {E : Nat → Addr} {F G : Nat → Prop} {sb fb : Nat} {m : Sto} {f : For} (h : FRes F G w E sb fb m f wr) (hd : f.dead = 0) :
    ∃ a c, wr.cell? ⟨fb, 3, none⟩ = some (.slice a f.made.length c) ∧ fb < wr.heap.size ∧ (∃ x0 x1 x2 x4, wr.cell? ⟨fb, 0, none⟩ = some x0 ∧ wr.cell? ⟨fb, 1, none⟩ = some x1 ∧ wr.cell? ⟨fb, 2, none⟩ = some x2 ∧ wr.cell? ⟨fb, 4, none⟩ = some x4) ∧ (∀ k, wr.frozen? ⟨fb, k, none⟩ = false) ∧ FinR F G w sb fb m f.made (.slice a f.made.length c) (((((wr.setCell ⟨fb, 0, none⟩ (.pointer none)).setCell ⟨fb, 1, none⟩ (.int .i64 0)).setCell ⟨fb, 2, none⟩ (.slice none 0 0)).setCell ⟨fb, 3, none⟩ (.slice none 0 0)).setCell ⟨fb, 4, none⟩ .nilIface) := by
  obtain ⟨F', G', q1, q2, q3, q4, q5, q6⟩ := h
  obtain ⟨bv, mv, hf⟩ := q2.live hd
  obtain ⟨a, c, rfl⟩ := own_nums hf.int
  obtain ⟨x0, x1, x2, x3, x4, xf⟩ := fcells hf.sto
  obtain ⟨ap1, ap2, ap3⟩ := hf.apart
  have hfb := hf.lt fb hf.own
  refine ⟨a, c, x3, hfb, ⟨_, _, _, _, x0, x1, x2, x4⟩, xf, ?_⟩
  obtain ⟨W, hW⟩ : ∃ W, (((((wr.setCell ⟨fb, 0, none⟩ (.pointer none)).setCell ⟨fb, 1, none⟩ (.int .i64 0)).setCell ⟨fb, 2, none⟩ (.slice none 0 0)).setCell ⟨fb, 3, none⟩ (.slice none 0 0)).setCell ⟨fb, 4, none⟩ .nilIface) = W := ⟨_, rfl⟩
  have hne : ∀ b, b ≠ fb → W.heap[b]? = wr.heap[b]? := fun b hb => by
    rw [← hW, Below.heap_setCell _ _ _ _ hb, Below.heap_setCell _ _ _ _ hb, Below.heap_setCell _ _ _ _ hb, Below.heap_setCell _ _ _ _ hb, Below.heap_setCell _ _ _ _ hb]
  have hz : W.heap.size = wr.heap.size := by rw [← hW]; simp
  have hfbW : FCl W fb := by
    unfold FCl
    rw [← hW, set_heap1 (set_heap1 (set_heap1 (set_heap1 (set_heap1 hf.sto _) _) _) _) _]
    simp [forC]
  have hu : ∀ b, G' b → Up G w W b := fun b hb => (q5 b hb).imp id fun z => ⟨z.1, by rw [hz]; exact z.2⟩
  have hfu : (fun b => F b ∨ G b) fb ∨ w.heap.size ≤ fb := (q5 fb hf.own).elim (fun y => .inl (.inr y)) fun y => .inr y.1
  have hch : Chg (fun b => F b ∨ G b) w W := by
    rw [← hW]
    exact ((((q6.setCell (p := ⟨fb, 0, none⟩) hfu _).setCell (p := ⟨fb, 1, none⟩) hfu _).setCell (p := ⟨fb, 2, none⟩) hfu _).setCell (p := ⟨fb, 3, none⟩) hfu _).setCell (p := ⟨fb, 4, none⟩) hfu _
  rw [hW]
  exact ⟨F', q1.kept (fun b hF => hne b fun e => q3 b hF (e ▸ hf.own)) (fun _ y => y) (fun b hF => by rw [hz]; exact q1.lt b hF), hfbW, own_kept hf.int fun g hg => hne g fun e => ap2 (e ▸ hg), fun hF => q3 fb hF hf.own, fun g hg => ⟨fun hF => q3 g hF (hf.intG g hg), fun e => ap2 (e ▸ hg), hu g (hf.intG g hg)⟩, fun b hF => (q4 b hF).imp id fun z => ⟨z.1, by rw [hz]; exact z.2⟩, hu fb hf.own, hch⟩
theorem zero_former (w : World) : (zeroValue 117).run Tryz.prog w = .ok (.agg #[.pointer none, .int .i64 0, .slice none 0 0, .slice none 0 0, .nilIface]) w := by kernel_rfl
section
variable {w : World} {E : Nat → Addr} {B : Nat} {F G : Nat → Prop} {sb fb : Nat} {m : Sto} {f : For} {bv mv : Value}
set_option maxRecDepth 100000 in
set_option maxHeartbeats 4000000 in
theorem finish_ok (K : Bg w E B F G) (h : At w sb m F) (hf : FIn w sb fb f G bv mv) (hd : ∀ b, F b → ¬ G b) (ok : f.Ok m) (hful : f.buf.length < f.size) {m' : Sto} {f' : For} (hR : fins m f = (0, m', f')) :
    Calls Tryz.prog 38 #[.pointer (some ⟨fb, 0, none⟩)] w fun e w' => ∃ a c, e = .returned (.tuple #[.slice a f'.made.length c, .nilIface]) ∧ FinR F G w sb fb m' f'.made (.slice a f'.made.length c) w' := by
  have HCK := hide (fcheck_live hf)
  have hzw := zero_former
  obtain ⟨x0, x1, x2, x3, x4, xf⟩ := fcells hf.sto
  obtain ⟨a2, c2, rfl⟩ := hf.row.slice
  have hs2 := ok.s2
  by_cases hb : f.buf = []
  · have e : fins m f = (0, m, f) := by unfold fins; rw [if_pos hb]
    rw [e] at hR
    injection hR with _ hR
    injection hR with r1 r2
    subst r1 r2
    obtain ⟨a, c, d3, d4, ⟨y0, y1, y2, y4, z0, z1, z2, z4⟩, zf, hfin⟩ := fin_close (FRes.start h (hf.at (E := E) ok.live) hd) ok.live
    have HF := hide hfin
    have hl0 : f.buf.length = 0 := by rw [hb]; rfl
    rw [hl0] at x2
    clear K h hf hd ok hful hb e hfin x0 x1 x3 x4 xf z2 hl0
    go_enter Tryz.func38, Tryz.ntmps38
    go_wp2_with (go_at_call 63; refine (unhide HCK).mono ?_; rintro e w1 ⟨rfl, hw1⟩; have hw2 := hw1.symm; subst hw2; clear hw1)
    go_ret2
    exact ⟨a, c, rfl, unhide HF⟩
  · have e : fins m f = fwr m f := by unfold fins; rw [if_neg hb]
    rw [e] at hR
    have hp : 0 < f.buf.length := List.length_pos_iff.2 hb
    have hpz : 0 < (f.buf.length : Int) := by omega
    have hdl : f'.dead = 0 := by have := (ok.wrote (by rw [hR])).1.live; rw [hR] at this; exact this
    have HWR : Hid (Calls Tryz.prog 66 #[.pointer (some ⟨fb, 0, none⟩)] w fun e w' => e = .returned .nilIface ∧ FRes F G w E sb fb m' f' w') := by
      have r := fres_write K (FRes.start h (hf.at ok.live) hd) ok hp (by omega)
      rw [hR] at r
      exact r
    have HDL := hide hdl
    clear K h hf hd ok hful hb e hR x0 x1 x3 x4 xf hdl
    go_enter Tryz.func38, Tryz.ntmps38
    go_wp2_with (first
      | (go_at_call 63; refine (unhide HCK).mono ?_; rintro e w1 ⟨rfl, hw1⟩; have hw2 := hw1.symm; subst hw2; clear hw1)
      | (go_at_call 66; refine (unhide HWR).mono ?_; rintro e w5 ⟨rfl, h5⟩; obtain ⟨a, c, d3, d4, ⟨y0, y1, y2, y4, z0, z1, z2, z4⟩, zf, hfin⟩ := fin_close h5 (unhide HDL); have HF := hide hfin; clear h5 hfin))
    go_ret2
    exact ⟨a, c, rfl, unhide HF⟩
set_option maxRecDepth 100000 in
set_option maxHeartbeats 4000000 in
theorem finish_fail (K : Bg w E B F G) (h : At w sb m F) (hf : FIn w sb fb f G bv mv) (hd : ∀ b, F b → ¬ G b) (ok : f.Ok m) (hful : f.buf.length < f.size) {c : Nat} {m' : Sto} {f' : For} (hR : fins m f = (c, m', f')) (hc : c ≠ 0) :
    Calls Tryz.prog 38 #[.pointer (some ⟨fb, 0, none⟩)] w fun e w' => e = .returned (.tuple #[.slice none 0 0, er E c]) ∧ FRes F G w E sb fb m' f' w' := by
  have HCK := hide (fcheck_live hf)
  obtain ⟨x0, x1, x2, x3, x4, xf⟩ := fcells hf.sto
  obtain ⟨a2, c2, rfl⟩ := hf.row.slice
  have hs2 := ok.s2
  have hb : f.buf ≠ [] := fun hb => by
    have e : fins m f = (0, m, f) := by unfold fins; rw [if_pos hb]
    rw [e] at hR
    injection hR with hR _
    exact hc hR.symm
  have e : fins m f = fwr m f := by unfold fins; rw [if_neg hb]
  rw [e] at hR
  have hp : 0 < f.buf.length := List.length_pos_iff.2 hb
  have hpz : 0 < (f.buf.length : Int) := by omega
  have HWR : Hid (Calls Tryz.prog 66 #[.pointer (some ⟨fb, 0, none⟩)] w fun e w' => e = .returned (er E c) ∧ FRes F G w E sb fb m' f' w') := by
    have r := fres_write K (FRes.start h (hf.at ok.live) hd) ok hp (by omega)
    rw [hR] at r
    rw [← errV_er hc]
    exact r
  unfold er at *
  clear K h hf hd ok hful hb e hR x0 x1 x3 x4 xf
  go_enter Tryz.func38, Tryz.ntmps38
  go_wp2_with (first
    | (go_at_call 63; refine (unhide HCK).mono ?_; rintro e w1 ⟨rfl, hw1⟩; have hw2 := hw1.symm; subst hw2; clear hw1)
    | (go_at_call 66; refine (unhide HWR).mono ?_; rintro e w5 ⟨rfl, h5⟩; have HF := hide h5; clear h5))
  go_ret2
  exact ⟨rfl, unhide HF⟩
end
end Rs
end Go.Proofs.YtohfhkdhccpoaaaGreatDoor
