/- Layer 9: the end of a batch that was written: the run's number is kept, the buffer is cleared. No walk. -/
import Derived.Test.YtigffjbefbndnaaDoorFd
import Derived.Lib.SliceRun
namespace Go.Proofs.YtigffjbefbndnaaDoor
open Go.RowKit
namespace Rs
open Sm (Tx ofS)
theorem info3 : (Tryd.prog.info? 3).map (fun i => (i.zero, i.size, i.bytes)) = some (some (.int .i64 0), 1, 8) := by kernel_rfl
theorem push_num {W : World} {v : Value} {l : List Nat} (n : Nat) (hown : W.ownsRow 0 3 1 v l.length (nts l)) (hz : l.length + 1 ≤ 8796093022208) (ty : TypeId) :
    ∃ g c W', (Builtin.append_ #[35, 35] ty #[v, .slice (some ⟨W.heap.size, 0, none⟩) 1 1]).run Tryd.prog (W.alloc (.cells #[.int .i64 n] 3)) = .ok (.slice (some ⟨g, 0, none⟩) (l.length + 1) c) W' ∧ W'.ownsRow 0 3 1 (.slice (some ⟨g, 0, none⟩) (l.length + 1) c) (l ++ [n]).length (nts (l ++ [n])) ∧ Chg (fun b => v.ownBlock = some b) W W' ∧ (v.ownBlock = some g ∨ W.heap.size ≤ g) := by
  obtain ⟨i, hi, hz'⟩ := Option.map_eq_some_iff.1 info3
  simp only [Prod.mk.injEq] at hz'
  obtain ⟨hz0, hz1, hz2⟩ := hz'
  have hb : Below W.heap.size W (W.alloc (.cells #[.int .i64 n] 3)) := (Below.refl _ W).alloc (Nat.le_refl _) _
  have hown1 : (W.alloc (.cells #[.int .i64 n] 3)).ownsRow 0 3 1 v l.length (nts l) := own_kept hown fun g hg => hb.block g (own_lt hown hg).2
  obtain ⟨v', W', hrun, ho, hg, hbk⟩ := append_blk (P := Tryd.prog) (W.alloc (.cells #[.int .i64 n] 3)) 35 ty 3 i _ 1 8 Tryd.underlying35 hi hz0 hz1 hz2 rfl (by decide) v l.length (nts l) hown1 ⟨W.heap.size, 0, none⟩ 1 1 [.int .i64 n] rfl (cell_one_new _ _ _) (by simp [Value.oneCell']) (by unfold maxLen; omega) (by omega)
  obtain ⟨g, c, rfl⟩ := ownsRow_succ ho
  refine ⟨g, c, W', hrun, ?_, ((Chg.refl _ W).alloc _).grown hg fun k hk => .inl hk, ?_⟩
  · rw [List.length_append, show nts (l ++ [n]) = nts l ++ [.int .i64 n] by simp [nts]]
    exact ho
  · rcases hbk with e | e
    · exact .inl e.symm
    · have e : g = (W.alloc (.cells #[.int .i64 n] 3)).heap.size := by simpa [Value.ownBlock] using e
      rw [World.size_alloc] at e
      exact .inr (by omega)
theorem zero9 (w : World) : (zeroValue 9).run Tryd.prog w = .ok (.string ⟨#[]⟩) w := by kernel_rfl
theorem step_app {P : Program} {ops : Array Oper} {o : Oper} {a : Act} {w : World} {K : Act → World → Prop} {Q : Exit → Act → World → Prop} {E : Prop}
    (hg : o.guard = none) (s x : Operand) (t : TypeId) (hop : o.op = Op.call { callee := Callee.builtin Builtin.append, args := #[s, x], argTypes := #[t, t] })
    (v u v' : Value) (w' : World) (hs : a.eval s = v) (hx : a.eval x = u) (hrun : (Builtin.append_ #[t, t] o.type #[v, u]).run P w = .ok v' w') (hK : K (a.put o.dst v') w') :
    if Region.wanted o (yielded ops a.tmps) = true then Oper.wp P o a w K Q else E := by
  have hw : Region.wanted o (yielded ops a.tmps) = true := by simp [Region.wanted, hg]
  rw [if_pos hw]
  unfold Oper.wp
  simp [execOp, hop, resolve, invoke, builtin, hs, hx, hrun, Result.andThen]
  exact hK
def For.add (f : For) (n : Nat) : For := { f with made := f.made ++ [n] }
def For.wipe (f : For) : For := { f with buf := [] }
theorem wrote_eq (f : For) (n : Nat) : (f.add n).wipe = f.wrote n := rfl
section
variable {w wr : World} {E : Nat → Addr} {F G : Nat → Prop} {sb fb eb : Nat} {f : For} {A : List Tx} {bv mv ev wv : Value} {m : Sto} {F' : Nat → Prop}
theorem Bw.drew (h : Bw w wr F G sb fb eb f A bv mv ev wv m F') : Bw w wr.drew F G sb fb eb f A bv mv ev wv m F' := h.below ⟨rfl, rfl, rfl, Nat.le_refl _, fun _ _ => rfl⟩
theorem Bw.pushed {W : World} {v' : Value} {n : Nat} (h : Bw w wr F G sb fb eb f A bv mv ev wv m F') (hown : W.ownsRow 0 3 1 v' (f.made ++ [n]).length (nts (f.made ++ [n]))) (hc : Chg (fun b => mv.ownBlock = some b) wr W) (hv : ∀ g, v'.ownBlock = some g → mv.ownBlock = some g ∨ wr.heap.size ≤ g) :
    W.cell? ⟨fb, 3, none⟩ = some mv ∧ W.frozen? ⟨fb, 3, none⟩ = false ∧ fb < W.heap.size ∧ W.cell? ⟨eb, 0, none⟩ = some (.pointer (some ⟨fb, 0, none⟩)) ∧ Bw w (W.setCell ⟨fb, 3, none⟩ v') F G sb fb eb (f.add n) A bv v' ev wv m F' := by
  have l3 := h.lt3
  have heb := h.heb
  have hlfb := h.lfb
  have hz := hc.size
  obtain ⟨a1, a2, a3⟩ := h.apart
  obtain ⟨r1, r2⟩ := row_lt h
  have hfbW : W.heap[fb]? = some (.cells (forC sb f bv mv) 54 (0, 0)) := (hc.block fb (by omega) a2).trans h.sto
  obtain ⟨c0, c1, c2, c3, c4, cf⟩ := fcells hfbW
  have hne : ∀ b, b ≠ fb → (W.setCell ⟨fb, 3, none⟩ v').heap[b]? = W.heap[b]? := fun b hb => Below.heap_setCell _ _ _ _ hb
  have hz2 : (W.setCell ⟨fb, 3, none⟩ v').heap.size = W.heap.size := by simp
  have hno : ∀ b, b < wr.heap.size → mv.ownBlock ≠ some b → b ≠ fb → (W.setCell ⟨fb, 3, none⟩ v').heap[b]? = wr.heap[b]? := fun b h1 h2 h3 => (hne b h3).trans (hc.block b h1 h2)
  have hmv : ∀ b, eb ≤ b → b < eb + 3 → mv.ownBlock ≠ some b := fun b h1 h2 e => by rcases h.lint b e with y | y <;> omega
  have e0 : W.heap[eb]? = wr.heap[eb]? := hc.block eb (by omega) (hmv eb (by omega) (by omega))
  have hvfb : ∀ g, v'.ownBlock = some g → g ≠ fb := fun g hg e => by
    rcases hv g hg with y | y
    · exact a2 (e ▸ y)
    · omega
  refine ⟨c3, cf 3, by omega, (World.cell?_of_block (a := ⟨eb, 0, none⟩) e0).trans h.cells.1, h.at_.kept (fun b hF => hno b (h.at_.lt b hF) (fun e => h.nint b e hF) fun e => h.nfb (e ▸ hF)) (fun _ y => y) (fun b hF => by rw [hz2]; exact Nat.lt_of_lt_of_le (h.at_.lt b hF) hz), fun b hb => (h.sub b hb).imp id fun y => ⟨y.1, by rw [hz2]; omega⟩, ?_, h.len, h.row.kept fun g hg => hno g (r1 g hg) (a3 g hg).2 (a3 g hg).1, own_kept hown fun g hg => hne g (hvfb g hg), h.nfb, h.nrow, fun g hg hF => ?_, h.nbx, (hno eb (by omega) (hmv eb (by omega) (by omega)) (by omega)).trans h.b0, (hno (eb + 1) (by omega) (hmv _ (by omega) (by omega)) (by omega)).trans h.b1, (hno (eb + 2) (by omega) (hmv _ (by omega) (by omega)) (by omega)).trans h.b2, h.lfb, h.lrow, fun g hg => ?_, h.heb, ?_⟩
  · rw [set_heap1 hfbW]
    simp [forC, For.add]
  · rcases hv g hg with y | y
    · exact h.nint g y hF
    · have := h.at_.lt g hF; omega
  · rcases hv g hg with y | y
    · exact h.lint g y
    · exact .inr (by omega)
  · refine (h.chg.trans (hc.mono fun b hb => ?_)).setCell (p := ⟨fb, 3, none⟩) (.inl (.inr hlfb.1)) _
    rcases h.lint b hb with y | y
    · exact .inl (.inr y.1)
    · exact .inr ⟨by omega, r2 b hb⟩
/-- the buffer's texts are wiped -/
theorem Bw.cleared {g N c : Nat} (h : Bw w wr F G sb fb eb f A (.slice (some ⟨g, 0, none⟩) N c) mv ev wv m F') (hN : 0 < f.buf.length) :
    ∃ W, (∀ ty, (Builtin.clear_ #[22] ty #[.slice (some ⟨g, 0, none⟩) N c]).run Tryd.prog wr = .ok (.tuple #[]) W) ∧ ∃ A2, Bw w W F G sb fb eb f A2 (.slice (some ⟨g, 0, none⟩) N c) mv ev wv m F' := by
  have hrow := h.row
  have hl := h.len
  obtain ⟨hlen, ⟨e, _⟩ | ⟨g', cap, cur, e, hbs, hb, h1, h2, h3, h4⟩⟩ := hrow
  · cases e
  · injection e with e1 e2 e3
    injection e1 with e1
    injection e1 with e1 _ _
    subst e1 e2 e3
    rw [Nat.mul_one] at h3 h4
    have hrun := fun ty => Lib.run_clear_slice (P := Tryd.prog) wr 22 9 ty (.string ⟨#[]⟩) Tryd.underlying22 zero9 rfl rfl g 0 A.length c (by omega) (fun j hj => by simp [World.cell?, hb]; omega) (fun j hj => by simp [World.frozen?, hb])
    have hh := setCells_heap g 9 (0, 0) (List.replicate A.length (Value.string ⟨#[]⟩)) 0 wr cur hb (by rw [List.length_replicate]; omega)
    obtain ⟨k1, k2, k3, k4, k5⟩ := setCells_size g (List.replicate A.length (Value.string ⟨#[]⟩)) 0 wr
    have hown : Own (wr.setCells g 0 (List.replicate A.length (Value.string ⟨#[]⟩))) (.slice (some ⟨g, 0, none⟩) A.length c) (List.replicate A.length (⟨#[]⟩ : Tx)) := by
      refine ⟨by simp [txs], .inr ⟨g, c, _, by rw [List.length_replicate], Nat.zero_le _, hh, by rw [List.length_replicate]; omega, h2, ?_, ?_⟩⟩
      · simp; omega
      · simp [txs]
    exact ⟨_, hrun, _, h.sorted hown (by rw [List.length_replicate]; exact hl) ⟨k2, k3, k4, by omega, fun b _ hn => k5 b fun e => hn (by rw [e]; rfl)⟩ h.apart.2.2⟩
/-- the buffer is cut -/
theorem Bw.cut {g N c : Nat} (h : Bw w wr F G sb fb eb f A (.slice (some ⟨g, 0, none⟩) N c) mv ev wv m F') : Bw w (wr.setCell ⟨fb, 2, none⟩ (.slice (some ⟨g, 0, none⟩) 0 c)) F G sb fb eb f.wipe [] (.slice (some ⟨g, 0, none⟩) 0 c) mv ev wv m F' := by
  have l3 := h.lt3
  have heb := h.heb
  have hlfb := h.lfb
  obtain ⟨a1, a2, a3⟩ := h.apart
  obtain ⟨r1, r2⟩ := row_lt h
  have hne : ∀ b, b ≠ fb → (wr.setCell ⟨fb, 2, none⟩ (.slice (some ⟨g, 0, none⟩) 0 c)).heap[b]? = wr.heap[b]? := fun b hb => Below.heap_setCell _ _ _ _ hb
  have hz2 : (wr.setCell ⟨fb, 2, none⟩ (.slice (some ⟨g, 0, none⟩) 0 c)).heap.size = wr.heap.size := by simp
  have hgf : g ≠ fb := (a3 g rfl).1
  refine ⟨h.at_.kept (fun b hF => hne b fun e => h.nfb (e ▸ hF)) (fun _ y => y) (fun b hF => by rw [hz2]; exact h.at_.lt b hF), fun b hb => (h.sub b hb).imp id fun y => ⟨y.1, by rw [hz2]; exact y.2⟩, ?_, rfl, ?_, own_kept h.int fun k hk => hne k fun e => a2 (e ▸ hk), h.nfb, h.nrow, h.nint, h.nbx, (hne eb (by omega)).trans h.b0, (hne (eb + 1) (by omega)).trans h.b1, (hne (eb + 2) (by omega)).trans h.b2, h.lfb, h.lrow, h.lint, h.heb, h.chg.setCell (p := ⟨fb, 2, none⟩) (.inl (.inr hlfb.1)) _⟩
  · rw [set_heap1 h.sto]
    simp [forC, For.wipe]
  · have hrow := h.row
    obtain ⟨hlen, ⟨e, _⟩ | ⟨g', cap, cur, e, hbs, hb, h1, h2, h3, h4⟩⟩ := hrow
    · cases e
    · injection e with e1 e2 e3
      injection e1 with e1
      injection e1 with e1 _ _
      subst e1 e2 e3
      exact ⟨rfl, .inr ⟨g, c, cur, rfl, Nat.zero_le _, (hne g hgf).trans hb, Nat.zero_le _, h2, h3, by simp⟩⟩
theorem Bw.fin (h : Bw w wr F G sb fb eb f f.buf bv mv ev wv m F') (hd : f.dead = 0) : FRes F G w E sb fb m f wr := by
  obtain ⟨r1, r2⟩ := row_lt h
  have l3 := h.lt3
  have heb := h.heb
  have hlfb := h.lfb
  have hlt : ∀ b, (b = fb ∨ bv.ownBlock = some b ∨ mv.ownBlock = some b) → b < wr.heap.size := fun b hb => by
    rcases hb with e | e | e
    · omega
    · exact r1 b e
    · exact r2 b e
  refine ⟨F', fun b => b = fb ∨ bv.ownBlock = some b ∨ mv.ownBlock = some b, h.at_, FIn.at (bv := bv) (mv := mv) ⟨hlt, .inl rfl, h.sto, h.row, fun g hg => .inr (.inl hg), h.int, fun g hg => .inr (.inr hg)⟩ hd, fun b hb e => ?_, h.sub, fun b hb => ?_, h.chg⟩
  · rcases e with e | e | e
    · exact h.nfb (e ▸ hb)
    · exact h.nrow b e hb
    · exact h.nint b e hb
  · have hl := hlt b hb
    rcases hb with e | e | e
    · exact .inl (e ▸ hlfb.1)
    · rcases h.lrow b e with y | y
      · exact .inl y.1
      · exact .inr ⟨by omega, hl⟩
    · rcases h.lint b e with y | y
      · exact .inl y.1
      · exact .inr ⟨by omega, hl⟩
end
end Rs
end Go.Proofs.YtigffjbefbndnaaDoor
