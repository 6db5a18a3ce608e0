/- Layer 9: what lies in memory while a batch is written. No walk. -/
import Derived.Test.YtigffjbefbndnaaDoorFa
import Derived.Test.YtigffjbefbndnaaDoorWk
namespace Go.Proofs.YtigffjbefbndnaaDoor
open Go.RowKit
namespace Rs
open Sm (Tx ofS)
/-- as far as blocks count that there were -/
theorem Chg.mono' {F G : Nat → Prop} {a b : World} (h : Chg F a b) (hs : ∀ k, k < a.heap.size → F k → G k) : Chg G a b := ⟨h.os, h.tape, h.output, h.size, fun i hi hn => h.block i hi fun e => hn (hs i hi e)⟩
/-- the store, the former and the three variables that the deferred call holds, while a batch is written -/
structure Bw (w wr : World) (F G : Nat → Prop) (sb fb eb : Nat) (f : For) (A : List Tx) (bv mv ev wv : Value) (m : Sto) (F' : Nat → Prop) : Prop where
  at_ : At wr sb m F'
  sub : ∀ b, F' b → Up F w wr b
  sto : wr.heap[fb]? = some (.cells (forC sb f bv mv) 54 (0, 0))
  len : A.length = f.buf.length
  row : Own wr bv A
  int : wr.ownsRow 0 3 1 mv f.made.length (nts f.made)
  nfb : ¬ F' fb
  nrow : ∀ g, bv.ownBlock = some g → ¬ F' g
  nint : ∀ g, mv.ownBlock = some g → ¬ F' g
  nbx : ∀ b, eb ≤ b → b < eb + 3 → ¬ F' b
  b0 : wr.heap[eb]? = some (.cells #[.pointer (some ⟨fb, 0, none⟩)] 28 (0, 0))
  b1 : wr.heap[eb + 1]? = some (.cells #[ev] 30 (0, 0))
  b2 : wr.heap[eb + 2]? = some (.cells #[wv] 71 (0, 0))
  lfb : G fb ∧ fb < eb
  lrow : ∀ g, bv.ownBlock = some g → (G g ∧ g < eb) ∨ eb + 3 ≤ g
  lint : ∀ g, mv.ownBlock = some g → (G g ∧ g < eb) ∨ eb + 3 ≤ g
  heb : eb = w.heap.size
  chg : Chg (fun b => F b ∨ G b) w wr
section
variable {w wr : World} {F G : Nat → Prop} {sb fb eb : Nat} {f : For} {A : List Tx} {bv mv ev wv : Value} {m : Sto} {F' : Nat → Prop}
theorem Bw.lt3 (h : Bw w wr F G sb fb eb f A bv mv ev wv m F') : eb + 3 ≤ wr.heap.size := (Array.getElem?_eq_some_iff.1 h.b2).1
theorem Bw.cells (h : Bw w wr F G sb fb eb f A bv mv ev wv m F') : wr.cell? ⟨eb, 0, none⟩ = some (.pointer (some ⟨fb, 0, none⟩)) ∧ wr.cell? ⟨eb + 1, 0, none⟩ = some ev ∧ wr.cell? ⟨eb + 2, 0, none⟩ = some wv ∧ wr.frozen? ⟨eb + 1, 0, none⟩ = false ∧ wr.frozen? ⟨eb + 2, 0, none⟩ = false := by
  refine ⟨?_, ?_, ?_, ?_, ?_⟩ <;> simp [World.cell?, World.frozen?, h.b0, h.b1, h.b2]
/-- a turn that touches none of it but the store, which it leaves as said -/
theorem Bw.turn {W : World} {m' : Sto} {F2 : Nat → Prop} (h : Bw w wr F G sb fb eb f A bv mv ev wv m F') (ha : At W sb m' F2) (hs : ∀ b, F2 b → F' b ∨ wr.heap.size ≤ b) (hc : Chg (fun b => F' b ∨ eb + 3 ≤ b ∧ (∀ g, bv.ownBlock = some g → b ≠ g) ∧ (∀ g, mv.ownBlock = some g → b ≠ g)) wr W) : Bw w W F G sb fb eb f A bv mv ev wv m' F2 := by
  have l3 := h.lt3
  have hz := hc.size
  have hc0 := h.chg.size
  have heb := h.heb
  have hlfb := h.lfb.2
  have key : ∀ b, b < wr.heap.size → ¬ F' b → (b < eb + 3 ∨ (bv.ownBlock = some b ∨ mv.ownBlock = some b)) → W.heap[b]? = wr.heap[b]? := fun b hb hn ho => hc.block b hb fun e => by
    rcases e with e | ⟨e1, e2, e3⟩
    · exact hn e
    · rcases ho with o | o | o
      · omega
      · exact e2 b o rfl
      · exact e3 b o rfl
  have n2 : ∀ b, b < wr.heap.size → ¬ F' b → ¬ F2 b := fun b hb hn e => (hs b e).elim hn fun y => by omega
  have hrow := h.row
  refine ⟨ha, fun b hb => ?_, (key fb (by omega) h.nfb (.inl (by omega))).trans h.sto, h.len, hrow.kept fun g hg => key g (own_lt hrow hg).2 (h.nrow g hg) (.inr (.inl hg)), own_kept h.int fun g hg => key g (own_lt h.int hg).2 (h.nint g hg) (.inr (.inr hg)), n2 fb (by omega) h.nfb, fun g hg => n2 g (own_lt hrow hg).2 (h.nrow g hg), fun g hg => n2 g (own_lt h.int hg).2 (h.nint g hg), fun b h1 h2 => n2 b (by omega) (h.nbx b h1 h2), (key eb (by omega) (h.nbx eb (by omega) (by omega)) (.inl (by omega))).trans h.b0, (key (eb + 1) (by omega) (h.nbx _ (by omega) (by omega)) (.inl (by omega))).trans h.b1, (key (eb + 2) (by omega) (h.nbx _ (by omega) (by omega)) (.inl (by omega))).trans h.b2, h.lfb, h.lrow, h.lint, h.heb, h.chg.trans (hc.mono' fun b hb2 hb => ?_)⟩
  · rcases hs b hb with y | y
    · exact (h.sub b y).imp id fun z => ⟨z.1, by omega⟩
    · exact .inr ⟨by omega, ha.lt b hb⟩
  · rcases hb with y | y
    · exact (h.sub b y).imp .inl id
    · exact .inr ⟨by omega, hb2⟩
theorem Bw.below {W : World} (h : Bw w wr F G sb fb eb f A bv mv ev wv m F') (hb : Below wr.heap.size wr W) : Bw w W F G sb fb eb f A bv mv ev wv m F' :=
  h.turn (h.at_.kept (fun b hF => hb.block b (h.at_.lt b hF)) (fun _ x => x) (fun b hF => Nat.lt_of_lt_of_le (h.at_.lt b hF) hb.size)) (fun _ x => .inl x) (Chg.of_below hb)
theorem Bw.res {W : World} {m' : Sto} (h : Bw w wr F G sb fb eb f A bv mv ev wv m F') (r : Res F' wr sb m' W) : Bw w W F G sb fb eb f A bv mv ev wv m' (Up F' wr W) :=
  h.turn r.1 (fun _ x => x.imp id fun y => y.1) (r.2.mono fun _ x => .inl x)
theorem Bw.lo {B : Nat} (h : Bw w wr F G sb fb eb f A bv mv ev wv m F') (hF : ∀ b, F b → B ≤ b) (hB : B ≤ w.heap.size) : ∀ b, F' b → B ≤ b := fun b hb => (h.sub b hb).elim (hF b) fun y => by omega
theorem Bw.env {E : Nat → Addr} {B : Nat} (h : Bw w wr F G sb fb eb f A bv mv ev wv m F') (V : Env w E B) (hF : ∀ b, F b → B ≤ b) (hG : ∀ b, G b → B ≤ b) (hB : B ≤ w.heap.size) : Env wr E B := V.below (h.chg.below hB fun k hk => hk.elim (hF k) (hG k))
/-- another value in one of the variables -/
theorem Bw.setE (h : Bw w wr F G sb fb eb f A bv mv ev wv m F') (u : Value) : Bw w (wr.setCell ⟨eb + 1, 0, none⟩ u) F G sb fb eb f A bv mv u wv m F' := by
  have l3 := h.lt3
  have heb := h.heb
  have hlfb := h.lfb.2
  have hne : ∀ b, b ≠ eb + 1 → (wr.setCell ⟨eb + 1, 0, none⟩ u).heap[b]? = wr.heap[b]? := fun b hb => Below.heap_setCell _ _ _ _ hb
  have hz : (wr.setCell ⟨eb + 1, 0, none⟩ u).heap.size = wr.heap.size := by simp
  have hrow := h.row
  refine ⟨h.at_.kept (fun b hF => hne b fun e => h.nbx b (by omega) (by omega) hF) (fun _ x => x) (fun b hF => by rw [hz]; exact h.at_.lt b hF), fun b hb => (h.sub b hb).imp id fun y => ⟨y.1, by rw [hz]; exact y.2⟩, (hne fb (by omega)).trans h.sto, h.len, hrow.kept fun g hg => hne g (by rcases h.lrow g hg with y | y <;> omega), own_kept h.int fun g hg => hne g (by rcases h.lint g hg with y | y <;> omega), h.nfb, h.nrow, h.nint, h.nbx, (hne eb (by omega)).trans h.b0, ?_, (hne (eb + 2) (by omega)).trans h.b2, h.lfb, h.lrow, h.lint, h.heb, h.chg.setCell (p := ⟨eb + 1, 0, none⟩) (.inr (by show w.heap.size ≤ eb + 1; omega)) u⟩
  rw [set_heap1 h.b1]
  rfl
theorem Bw.setW (h : Bw w wr F G sb fb eb f A bv mv ev wv m F') (u : Value) : Bw w (wr.setCell ⟨eb + 2, 0, none⟩ u) F G sb fb eb f A bv mv ev u m F' := by
  have l3 := h.lt3
  have heb := h.heb
  have hlfb := h.lfb.2
  have hne : ∀ b, b ≠ eb + 2 → (wr.setCell ⟨eb + 2, 0, none⟩ u).heap[b]? = wr.heap[b]? := fun b hb => Below.heap_setCell _ _ _ _ hb
  have hz : (wr.setCell ⟨eb + 2, 0, none⟩ u).heap.size = wr.heap.size := by simp
  have hrow := h.row
  refine ⟨h.at_.kept (fun b hF => hne b fun e => h.nbx b (by omega) (by omega) hF) (fun _ x => x) (fun b hF => by rw [hz]; exact h.at_.lt b hF), fun b hb => (h.sub b hb).imp id fun y => ⟨y.1, by rw [hz]; exact y.2⟩, (hne fb (by omega)).trans h.sto, h.len, hrow.kept fun g hg => hne g (by rcases h.lrow g hg with y | y <;> omega), own_kept h.int fun g hg => hne g (by rcases h.lint g hg with y | y <;> omega), h.nfb, h.nrow, h.nint, h.nbx, (hne eb (by omega)).trans h.b0, (hne (eb + 1) (by omega)).trans h.b1, ?_, h.lfb, h.lrow, h.lint, h.heb, h.chg.setCell (p := ⟨eb + 2, 0, none⟩) (.inr (by show w.heap.size ≤ eb + 2; omega)) u⟩
  rw [set_heap1 h.b2]
  rfl
/-- the former's own rows, turned in place -/
theorem Bw.sorted {W : World} {A2 : List Tx} (h : Bw w wr F G sb fb eb f A bv mv ev wv m F') (hown : Own W bv A2) (hl : A2.length = f.buf.length) (hc : Chg (fun b => bv.ownBlock = some b) wr W) (hk : ∀ g, bv.ownBlock = some g → g ≠ fb ∧ mv.ownBlock ≠ some g) : Bw w W F G sb fb eb f A2 bv mv ev wv m F' := by
  have l3 := h.lt3
  have heb := h.heb
  have hlfb := h.lfb.2
  have hz := hc.size
  have hbx : ∀ b, eb ≤ b → b < eb + 3 → W.heap[b]? = wr.heap[b]? := fun b h1 h2 => hc.block b (by omega) fun e => by rcases h.lrow b e with y | y <;> omega
  have hc2 : Chg (fun b => F b ∨ G b) w W := h.chg.trans (hc.mono fun b hb => by
    rcases h.lrow b hb with y | y
    · exact .inl (.inr y.1)
    · exact .inr ⟨by omega, (own_lt h.row hb).2⟩)
  refine ⟨h.at_.kept (fun b hF => hc.block b (h.at_.lt b hF) fun e => h.nrow b e hF) (fun _ x => x) (fun b hF => Nat.lt_of_lt_of_le (h.at_.lt b hF) hz), fun b hb => (h.sub b hb).imp id fun y => ⟨y.1, by omega⟩, (hc.block fb (by omega) fun e => (hk fb e).1 rfl).trans h.sto, hl, hown, own_kept h.int fun g hg => hc.block g (own_lt h.int hg).2 fun e => (hk g e).2 hg, h.nfb, h.nrow, h.nint, h.nbx, (hbx eb (by omega) (by omega)).trans h.b0, (hbx (eb + 1) (by omega) (by omega)).trans h.b1, (hbx (eb + 2) (by omega) (by omega)).trans h.b2, h.lfb, h.lrow, h.lint, h.heb, hc2⟩
theorem Bw.apart (h : Bw w wr F G sb fb eb f A bv mv ev wv m F') : bv.ownBlock ≠ some fb ∧ mv.ownBlock ≠ some fb ∧ ∀ g, bv.ownBlock = some g → g ≠ fb ∧ mv.ownBlock ≠ some g := by
  have hrow := h.row
  have a1 : bv.ownBlock ≠ some fb := fun e => by
    obtain ⟨c1, z1, q1⟩ := Lib.ownsRow_kind hrow fb e
    rw [h.sto] at q1
    injection q1 with q1
    injection q1 with _ q1 _
    exact absurd q1 (by decide)
  refine ⟨a1, fun e => ?_, fun g e => ⟨fun e2 => a1 (e2 ▸ e), fun e2 => ?_⟩⟩
  · obtain ⟨c1, z1, q1⟩ := Lib.ownsRow_kind h.int fb e
    rw [h.sto] at q1
    injection q1 with q1
    injection q1 with _ q1 _
    exact absurd q1 (by decide)
  · obtain ⟨c1, z1, q1⟩ := Lib.ownsRow_kind hrow g e
    obtain ⟨c2, z2, q2⟩ := Lib.ownsRow_kind h.int g e2
    rw [q1] at q2
    injection q2 with q2
    injection q2 with _ q2 _
    exact absurd q2 (by decide)
/-- the store, the former, and a writer of it -/
def Bx (w wr : World) (E : Nat → Addr) (F G : Nat → Prop) (sb fb eb wb : Nat) (f : For) (A : List Tx) (bv mv ev : Value) (m : Sto) (x : Wri) : Prop :=
  ∃ F' H wbv, Bw w wr F G sb fb eb f A bv mv ev (.pointer (some ⟨wb, 0, none⟩)) m F' ∧ WIn wr E sb wb x H wbv ∧ (∀ b, F' b → ¬ H b) ∧ (∀ b, H b → eb + 3 ≤ b ∧ (∀ g, bv.ownBlock = some g → b ≠ g) ∧ (∀ g, mv.ownBlock = some g → b ≠ g))
end
section
variable {w wr : World} {E : Nat → Addr} {F G : Nat → Prop} {sb fb eb wb : Nat} {f : For} {A : List Tx} {bv mv ev wv : Value} {m : Sto} {x : Wri} {F' : Nat → Prop}
theorem Bx.below {W : World} (h : Bx w wr E F G sb fb eb wb f A bv mv ev m x) (hb : Below wr.heap.size wr W) : Bx w W E F G sb fb eb wb f A bv mv ev m x := by
  obtain ⟨F', H, wbv, h1, h2, h3, h4⟩ := h
  exact ⟨F', H, wbv, h1.below hb, h2.below hb, h3, h4⟩
theorem Bx.setE (h : Bx w wr E F G sb fb eb wb f A bv mv ev m x) (u : Value) : Bx w (wr.setCell ⟨eb + 1, 0, none⟩ u) E F G sb fb eb wb f A bv mv u m x := by
  obtain ⟨F', H, wbv, h1, h2, h3, h4⟩ := h
  exact ⟨F', H, wbv, h1.setE u, h2.kept (fun b hb => Below.heap_setCell _ _ _ _ (by have := (h4 b hb).1; show b ≠ eb + 1; omega)) (fun _ y => y) (fun b hb => by simpa using h2.lt b hb), h3, h4⟩
theorem Bx.bw (h : Bx w wr E F G sb fb eb wb f A bv mv ev m x) : ∃ F', Bw w wr F G sb fb eb f A bv mv ev (.pointer (some ⟨wb, 0, none⟩)) m F' := by
  obtain ⟨F', H, wbv, h1, h2, h3, h4⟩ := h
  exact ⟨F', h1⟩
theorem row_lt (h : Bw w wr F G sb fb eb f A bv mv ev wv m F') : (∀ g, bv.ownBlock = some g → g < wr.heap.size) ∧ (∀ g, mv.ownBlock = some g → g < wr.heap.size) := by
  have hrow := h.row
  exact ⟨fun g hg => (own_lt hrow hg).2, fun g hg => (own_lt h.int hg).2⟩
/-- behind a call that turned the store and the writer -/
theorem Bx.wres {W : World} {m' : Sto} {x' : Wri} {H : Nat → Prop} (h1 : Bw w wr F G sb fb eb f A bv mv ev (.pointer (some ⟨wb, 0, none⟩)) m F') (h4 : ∀ b, H b → eb + 3 ≤ b ∧ (∀ g, bv.ownBlock = some g → b ≠ g) ∧ (∀ g, mv.ownBlock = some g → b ≠ g)) (r : WRes F' H wr E sb wb m' x' W) : Bx w W E F G sb fb eb wb f A bv mv ev m' x' := by
  obtain ⟨F2, H2, wbv', q1, q2, q3, q4, q5, q6⟩ := r
  have l3 := h1.lt3
  obtain ⟨r1, r2⟩ := row_lt h1
  refine ⟨F2, H2, wbv', h1.turn q1 (fun b hb => (q4 b hb).imp id fun y => y.1) (q6.mono fun b hb => hb.imp id (h4 b)), q2, q3, fun b hb => ?_⟩
  rcases q5 b hb with y | y
  · exact h4 b y
  · exact ⟨by omega, fun g hg e => by have := r1 g hg; omega, fun g hg e => by have := r2 g hg; omega⟩
theorem Bx.cres {W : World} {m' : Sto} {H : Nat → Prop} (h1 : Bw w wr F G sb fb eb f A bv mv ev (.pointer (some ⟨wb, 0, none⟩)) m F') (h4 : ∀ b, H b → eb + 3 ≤ b ∧ (∀ g, bv.ownBlock = some g → b ≠ g) ∧ (∀ g, mv.ownBlock = some g → b ≠ g)) (r : CRes F' H wr sb wb m' W) : ∃ F2, Bw w W F G sb fb eb f A bv mv ev (.pointer (some ⟨wb, 0, none⟩)) m' F2 := by
  obtain ⟨F2, q1, q2, q3, q4, q6⟩ := r
  exact ⟨F2, h1.turn q1 (fun b hb => (q2 b hb).imp id fun y => y.1) (q6.mono fun b hb => hb.imp id (h4 b))⟩
end
end Rs
end Go.Proofs.YtigffjbefbndnaaDoor
