/- A range over a function that gives items of any type whose iterator and whose body each have blocks of their own: the contract of an iterator (Gives), and the law for the statement. No walk. -/
import Derived.RangeFuncBox
import Derived.RangeFuncNested
import Derived.RangeFuncBound
import Derived.RangeFuncCalls
import Derived.RangeFuncLeaves
import Derived.Test.YtjcchogilbekoabChecked
namespace Go.Proofs.Ytjcchogilbekoab
open Go.RowKit
namespace Rv

def Hid (p : Prop) : Prop := p
theorem hide {p : Prop} (h : p) : Hid p := h
theorem unhide {p : Prop} (h : Hid p) : p := h

/-- all is as it was but for blocks of F and new ones -/
structure Chg (F : Nat → Prop) (w w' : World) : Prop where
  os : w'.os = w.os
  tape : w'.tape = w.tape
  output : w'.output = w.output
  size : w.heap.size ≤ w'.heap.size
  block : ∀ k, k < w.heap.size → ¬ F k → w'.heap[k]? = w.heap[k]?
theorem Chg.refl (F : Nat → Prop) (w : World) : Chg F w w := ⟨rfl, rfl, rfl, Nat.le_refl _, fun _ _ _ => rfl⟩
/-- F, and what is new -/
def Up (F : Nat → Prop) (w w' : World) (b : Nat) : Prop := F b ∨ (w.heap.size ≤ b ∧ b < w'.heap.size)
theorem Chg.trans {F : Nat → Prop} {a b c : World} (h : Chg F a b) (k : Chg (Up F a b) b c) : Chg F a c :=
  ⟨k.os.trans h.os, k.tape.trans h.tape, k.output.trans h.output, Nat.le_trans h.size k.size, fun i hi hn =>
    (k.block i (Nat.lt_of_lt_of_le hi h.size) (fun e => e.elim hn (fun e => by omega))).trans (h.block i hi hn)⟩
/-- one step behind another, whose blocks are the first's or new -/
theorem Chg.on {F G : Nat → Prop} {a b c : World} (h : Chg F a b) (k : Chg G b c) (hG : ∀ i, G i → Up F a b i) : Chg F a c :=
  ⟨k.os.trans h.os, k.tape.trans h.tape, k.output.trans h.output, Nat.le_trans h.size k.size, fun i hi hn =>
    (k.block i (Nat.lt_of_lt_of_le hi h.size) (fun e => (hG i e).elim hn (fun e => by omega))).trans (h.block i hi hn)⟩
theorem Up.on {F G : Nat → Prop} {a b c : World} (h : Chg F a b) (k : Chg G b c) (hG : ∀ i, G i → Up F a b i) {T : Nat → Prop} (hT : ∀ i, T i → Up G b c i) : ∀ i, T i → Up F a c i := fun i hi => by
  have := h.size; have := k.size
  rcases hT i hi with e | e
  · rcases hG i e with e | e
    · exact .inl e
    · exact .inr ⟨e.1, by omega⟩
  · exact .inr ⟨by omega, e.2⟩
theorem Chg.mono {F G : Nat → Prop} {a b : World} (h : Chg F a b) (hs : ∀ k, F k → G k) : Chg G a b := ⟨h.os, h.tape, h.output, h.size, fun i hi hn => h.block i hi fun e => hn (hs i e)⟩
/-- as far as blocks count that there were -/
theorem Chg.mono' {F G : Nat → Prop} {a b : World} (h : Chg F a b) (hs : ∀ k, k < a.heap.size → F k → G k) : Chg G a b := ⟨h.os, h.tape, h.output, h.size, fun i hi hn => h.block i hi fun e => hn (hs i hi e)⟩
theorem Chg.of_below {F : Nat → Prop} {a b : World} (h : Below a.heap.size a b) : Chg F a b := ⟨h.os, h.tape, h.output, h.size, fun i hi _ => h.block i hi⟩
theorem Chg.below {F : Nat → Prop} {a b : World} {B : Nat} (h : Chg F a b) (hB : B ≤ a.heap.size) (hF : ∀ k, F k → B ≤ k) : Below B a b :=
  ⟨h.os, h.tape, h.output, h.size, fun i hi => h.block i (by omega) fun e => by have := hF i e; omega⟩
theorem Chg.alloc {F : Nat → Prop} {a b : World} (h : Chg F a b) (o : Obj) : Chg F a (b.alloc o) :=
  ⟨h.os, h.tape, h.output, Nat.le_trans h.size (by simp), fun i hi hn => (Below.heap_alloc b o i (Nat.lt_of_lt_of_le hi h.size)).trans (h.block i hi hn)⟩
theorem Chg.drew {F : Nat → Prop} {a b : World} (h : Chg F a b) : Chg F a b.drew := ⟨h.os, h.tape, h.output, h.size, h.block⟩
theorem Chg.setCell {F : Nat → Prop} {a b : World} (h : Chg F a b) {p : Addr} (hp : F p.block ∨ a.heap.size ≤ p.block) (u : Value) : Chg F a (b.setCell p u) :=
  ⟨h.os, h.tape, h.output, Nat.le_trans h.size (by simp [World.setCell]), fun i hi hn => (Below.heap_setCell b p u i (fun e => by subst e; rcases hp with hp | hp; exact hn hp; omega)).trans (h.block i hi hn)⟩
theorem Chg.putObj {F : Nat → Prop} {a b : World} (h : Chg F a b) {l : Nat} (hp : F l ∨ a.heap.size ≤ l) (o : Obj) : Chg F a (b.putObj l o) :=
  ⟨h.os, h.tape, h.output, Nat.le_trans h.size (grownBy_putObj' b l o).size, fun i hi hn => ((grownBy_putObj' b l o).block i (Nat.lt_of_lt_of_le hi h.size) (fun e => by injection e with e; subst e; rcases hp with hp | hp; exact hn hp; omega)).trans (h.block i hi hn)⟩
theorem Chg.grown {F : Nat → Prop} {a b c : World} {row : Option Nat} (h : Chg F a b) (hg : b.grownBy c row) (hr : ∀ k, row = some k → F k ∨ a.heap.size ≤ k) : Chg F a c :=
  ⟨hg.os.trans h.os, hg.tape.trans h.tape, hg.output.trans h.output, Nat.le_trans h.size hg.size, fun i hi hn =>
    (hg.block i (Nat.lt_of_lt_of_le hi h.size) (fun e => by rcases hr i e.symm with e | e; exact hn e; omega)).trans (h.block i hi hn)⟩
theorem putObj_size (w : World) (l : Nat) (o : Obj) : (w.putObj l o).heap.size = w.heap.size := by simp [World.putObj]

/-- what a walk's client has: behind these texts, in these blocks, in this world -/
abbrev Inv (α : Type) := List α → (Nat → Prop) → World → Prop
/-- it has blocks from B on alone, and abides whatever turns none of them -/
structure Fit {α : Type} (B : Nat) (J : Inv α) : Prop where
  foot : ∀ {s T W b}, J s T W → T b → B ≤ b ∧ b < W.heap.size
  abide : ∀ {s T W W'}, J s T W → Chg (fun b => ¬ T b) W W' → J s T W'

variable {α : Type} {ar : α → Array Value}
/-- one text handed to the loop l -/
def Rnd (ar : α → Array Value) (P : Program) (l : Nat) (x : α) (W : World) (R : Ending → World → Prop) : Prop := YieldAt Fence.wide 6 P l (ar x) W R
theorem round_any {m m' : Nat} {P : Program} {l : Nat} {f : FuncId} {tmps : Array Value} {assign body : Code} {w : World} {R : Ending → World → Prop}
    (h : RoundIn Fence.wide m P l f tmps assign body w R) : RoundIn Fence.wide m' P l f tmps assign body w R := ⟨h.1, fun c cs _ => h.2 c cs (room_wide _)⟩
theorem Rnd.at {P : Program} {l : Nat} {x : α} {W : World} {R : Ending → World → Prop} (h : Rnd ar P l x W R) (m : Nat) : YieldAt Fence.wide m P l (ar x) W R := by
  obtain ⟨fn, tmps, assign, body, hy, hR⟩ := h
  exact ⟨fn, tmps, assign, body, hy, round_any hR⟩

/-- what a client answers to a text -/
def RndPost (J Jx : Inv α) (xs : List α) (T : Nat → Prop) (W : World) (e : Ending) (W' : World) : Prop :=
  ∃ T', Chg T W W' ∧ (∀ b, T' b → Up T W W' b) ∧ ((e = .returned (.bool true) ∧ J xs T' W') ∨ (e = .returned (.bool false) ∧ Jx xs T' W'))
/-- the client l takes each text of L that comes, in a walk that began at W₀ with the client's blocks T₀ -/
def Serves (ar : α → Array Value) (P : Program) (L : List α) (T₀ : Nat → Prop) (W₀ : World) (l : Nat) (J Jx : Inv α) : Prop :=
  ∀ pre x T W, J pre T W → pre ++ [x] <+: L → Chg T₀ W₀ W → Rnd ar P l x W (RndPost J Jx (pre ++ [x]) T W)
/-- what is there when the walk is over -/
def Ended (L : List α) (J Jx : Inv α) (T : Nat → Prop) (W W' : World) : Prop :=
  ∃ T', Chg T W W' ∧ (∀ b, T' b → Up T W W' b) ∧ (J L T' W' ∨ ∃ pre, pre <+: L ∧ Jx pre T' W')
/-- a walk's function gives L, to whatever client whose blocks lie from B on, in whatever world that is as w₀ below B -/
def Walks (ar : α → Array Value) (P : Program) (gf : FuncId) (lb : Array Value) (L : List α) (B : Nat) (w₀ : World) : Prop :=
  (∀ args w, (callFunc gf args).run P w = .ok (.enter gf args) w) ∧
  ∀ (l : Nat) (J Jx : Inv α) (W : World) (T : Nat → Prop), Below B w₀ W → B ≤ W.heap.size → Fit B J → Fit B Jx → Serves ar P L T W l J Jx → J [] T W →
    Calls P gf (#[.func (.yield l) #[] #[]] ++ lb) W fun e W' => (∃ v, e = .returned v) ∧ Ended L J Jx T W W'
theorem Walks.later {P : Program} {gf : FuncId} {lb : Array Value} {L : List α} {B B' : Nat} {w₀ w₁ : World} (h : Walks ar P gf lb L B w₀) (hb : Below B w₀ w₁) (hB : B ≤ B') : Walks ar P gf lb L B' w₁ :=
  ⟨h.1, fun l J Jx W T hW hs fJ fX hY h0 => h.2 l J Jx W T (hb.trans (hW.mono hB)) (Nat.le_trans hB hs)
    ⟨fun a b => ⟨Nat.le_trans hB (fJ.foot a b).1, (fJ.foot a b).2⟩, fJ.abide⟩ ⟨fun a b => ⟨Nat.le_trans hB (fX.foot a b).1, (fX.foot a b).2⟩, fX.abide⟩ hY h0⟩
/-- how the body of a round may be left -/
def bodyP (I : Inv α) (Ix : Code → Inv α) (xs : List α) (T : Nat → Prop) (W : World) : Exit → Act → World → Prop
  | .normal, _, W' => ∃ T', Chg T W W' ∧ (∀ b, T' b → Up T W W' b) ∧ I xs T' W'
  | .ret, _, W' => ∃ T', Chg T W W' ∧ (∀ b, T' b → Up T W W' b) ∧ Ix .ret xs T' W'
  | .exit id, _, W' => ∃ T', Chg T W W' ∧ (∀ b, T' b → Up T W W' b) ∧ Ix (.exit id) xs T' W'
  | .goto t, _, W' => ∃ T', Chg T W W' ∧ (∀ b, T' b → Up T W W' b) ∧ Ix (.goto t) xs T' W'
  | .panic _, _, _ => False
  | .outgrown, _, _ => False
/-- the client's blocks with the loop's own two -/
def With (T : Nat → Prop) (D l b : Nat) : Prop := T b ∨ b = D ∨ b = l
structure Rec (I : Inv α) (D l : Nat) (r : Obj) (xs : List α) (T' : Nat → Prop) (W : World) : Prop where
  inv : ∃ T, I xs T W ∧ (∀ b, T' b ↔ With T D l b) ∧ ¬ T D ∧ ¬ T l
  lop : W.heap[l]? = some r
  blk : W.heap[D]? = some (.deferred (some []))
theorem Rec.fit {B D l : Nat} {I : Inv α} {r : Obj} (f : Fit B I) (hD : B ≤ D) (hl : B ≤ l) : Fit B (Rec I D l r) := by
  refine ⟨fun {s T' W b} h hb => ?_, fun {s T' W W'} h c => ?_⟩
  · obtain ⟨⟨T, hi, e, _, _⟩, h1, h2⟩ := h
    rcases (e b).1 hb with q | q | q
    · exact f.foot hi q
    · subst q; exact ⟨hD, (Array.getElem?_eq_some_iff.1 h2).1⟩
    · subst q; exact ⟨hl, (Array.getElem?_eq_some_iff.1 h1).1⟩
  · obtain ⟨⟨T, hi, e, n1, n2⟩, h1, h2⟩ := h
    refine ⟨⟨T, f.abide hi (c.mono fun k hk q => hk ((e k).2 (.inl q))), e, n1, n2⟩, ?_, ?_⟩
    · exact (c.block l (Array.getElem?_eq_some_iff.1 h1).1 (fun q => q ((e l).2 (.inr (.inr rfl))))).trans h1
    · exact (c.block D (Array.getElem?_eq_some_iff.1 h2).1 (fun q => q ((e D).2 (.inr (.inl rfl))))).trans h2
theorem ex_fit {B : Nat} {ι : Type} {K : ι → Inv α} (f : ∀ i, Fit B (K i)) : Fit B (fun s T W => ∃ i, K i s T W) :=
  ⟨fun h hb => by obtain ⟨i, h⟩ := h; exact (f i).foot h hb, fun h c => by obtain ⟨i, h⟩ := h; exact ⟨i, (f i).abide h c⟩⟩

theorem range_law {P : Program} {g : Operand} {ps : Array Tmp} {assign body : Code} {Q : Exit → Act → World → Prop} {a : Act} {w w₀ : World} {gf : FuncId} {lb : Array Value} {L : List α} {B : Nat}
    (hv : Walks ar P gf lb L B w₀) (hg : a.eval g = .func (.func gf) #[] lb) (hb : Below B w₀ w) (hB : B ≤ w.heap.size) (hps : ∀ x, ps.size = (ar x).size)
    (I : Inv α) (Ix : Code → Inv α) (fI : Fit B I) (fX : ∀ c, Fit B (Ix c)) (T₀ : Nat → Prop) (h0 : I [] T₀ w) (a₁ : Nat → α → Act) (ob : α → Obj)
    (hassign : ∀ (l : Nat) (x : α) (W : World) (K : Act → World → Prop), K (a₁ W.heap.size x) (W.alloc (ob x)) →
      assign.wpIn (Fence.wide.inRound l) 6 P (Exit.then K (fun _ _ _ => False)) { tmps := (ps.zip (ar x)).foldl (fun t (p, v) => t.setIfInBounds p v) a.tmps, defers := [] } W)
    (hbody : ∀ (l : Nat) (pre : List α) (x : α) (T : Nat → Prop) (W : World) (bx : Nat), I pre T W → W.heap[bx]? = some (ob x) → ¬ T bx → w.heap.size ≤ bx → pre ++ [x] <+: L → Chg T₀ w W →
      body.wpIn (Fence.wide.inRound l) 6 P (bodyP I Ix (pre ++ [x]) T W) (a₁ bx x) W)
    (hdone : ∀ (D : Nat) (T : Nat → Prop) (W : World), w.heap.size ≤ D → ¬ T D → I L T W → Chg T₀ w W → (∀ b, T b → Up T₀ w W b) → W.heap[D]? = some (.deferred (some [])) → Q .normal { a with defers := { target := .collected D, args := #[] } :: a.defers } W)
    (hstop : ∀ (D : Nat) (c : Code) (pre : List α) (T : Nat → Prop) (W : World), w.heap.size ≤ D → ¬ T D → pre <+: L → Ix c pre T W → Chg T₀ w W → (∀ b, T b → Up T₀ w W b) → W.heap[D]? = some (.deferred (some [])) →
      c.wpIn Fence.wide 8 P Q { a with defers := { target := .collected D, args := #[] } :: a.defers } W) :
    (Code.rangeFunc g ps assign body).wpIn Fence.wide 8 P Q a w := by
  refine wpIn_rangeFunc ?_
  intro fn hfn
  obtain ⟨rec, hrec⟩ : ∃ rec : LoopState → Option Code → Loop, rec = fun st pe => { state := st, pending := pe, fn, tmps := a.tmps, params := ps, assign, body, defers := w.heap.size } := ⟨_, rfl⟩
  obtain ⟨W1, hW1⟩ : ∃ W1, (w.alloc (.deferred (some []))).alloc (.loop (rec .ready none)) = W1 := ⟨_, rfl⟩
  have hL1 : W1.heap[w.heap.size + 1]? = some (.loop (rec .ready none)) := by
    rw [← hW1]; have := World.alloc_heap_new (w.alloc (.deferred (some []))) (.loop (rec .ready none)); rwa [World.size_alloc] at this
  have hK1 : W1.heap[w.heap.size]? = some (.deferred (some [])) := by
    rw [← hW1]; exact (Below.heap_alloc _ _ _ (by simp)).trans (World.alloc_heap_new w _)
  have hBW : Below w.heap.size w W1 := by rw [← hW1]; exact ((Below.refl _ w).alloc (Nat.le_refl _) _).alloc (by simp) _
  have hsz : W1.heap.size = w.heap.size + 2 := by rw [← hW1]; simp
  have nT0 : ∀ b, T₀ b → b < w.heap.size := fun b hb => (fI.foot h0 hb).2
  have hI1 : I [] T₀ W1 := fI.abide h0 (Chg.of_below hBW)
  have hb1 : Below B w₀ W1 := hb.trans (hBW.mono hB)
  -- what the walk's start says of w
  have back : ∀ {W : World}, Chg (With T₀ w.heap.size (w.heap.size + 1)) W1 W → Chg T₀ w W := fun {W} c =>
    (Chg.of_below (F := T₀) hBW).on c fun i hi => by
      rcases hi with e | e | e
      · exact .inl e
      · exact .inr ⟨by omega, by omega⟩
      · exact .inr ⟨by omega, by omega⟩
  have upb : ∀ {W : World} {T' T : Nat → Prop}, Chg (With T₀ w.heap.size (w.heap.size + 1)) W1 W → (∀ b, T' b → Up (With T₀ w.heap.size (w.heap.size + 1)) W1 W b) → (∀ b, T' b ↔ With T w.heap.size (w.heap.size + 1) b) → ∀ b, T b → Up T₀ w W b := fun {W T' T} c h e b hb => by
    have := c.size
    rcases h b ((e b).2 (.inl hb)) with (q | q | q) | q
    · exact .inl q
    · exact .inr ⟨by omega, by omega⟩
    · exact .inr ⟨by omega, by omega⟩
    · exact .inr ⟨by omega, q.2⟩
  refine ⟨w.heap.size + 1, [{ target := .collected w.heap.size, args := #[] }], W1, { target := .fn (.func gf) lb, args := #[.func (.yield (w.heap.size + 1)) #[] #[]] }, W1, gf,
    #[.func (.yield (w.heap.size + 1)) #[] #[]] ++ lb, W1, ?_, ?_, ?_, ?_, fun _ => by omega, ?_⟩
  · rw [← hW1, hrec]; exact run_enterLoop_outer _ _ _ _ _
  · simp only [resolve, hg]
    simp [go_sem]
  · intro f' hf'; trivial
  · simp [invoke, go_sem, hv.1]
  · refine callsIn_wide.2 ((hv.2 (w.heap.size + 1) (Rec I w.heap.size (w.heap.size + 1) (.loop (rec .ready none))) (fun s T W => ∃ c, Rec (Ix c) w.heap.size (w.heap.size + 1) (.loop (rec .done (some c))) s T W)
      W1 (With T₀ w.heap.size (w.heap.size + 1)) hb1 (by omega) (Rec.fit fI hB (by omega)) (ex_fit fun c => Rec.fit (fX c) hB (by omega)) ?_
      ⟨⟨T₀, hI1, fun b => Iff.rfl, fun e => by have := nT0 _ e; omega, fun e => by have := nT0 _ e; omega⟩, hL1, hK1⟩).mono ?_)
    · -- one round
      rintro pre x T' W ⟨⟨T, hi, eT, n1, n2⟩, hl, hk⟩ hlen hc
      have hlt : w.heap.size + 1 < W.heap.size := (Array.getElem?_eq_some_iff.1 hl).1
      have hy := run_yield (P := P) (args := (ar x)) hl (by rw [hrec]; simp [hps x])
      rw [hrec] at hy
      have hla : (W.alloc (ob x)).heap[w.heap.size + 1]? = some (.loop (rec .ready none)) := (Below.heap_alloc W _ _ hlt).trans hl
      have hka : (W.alloc (ob x)).heap[w.heap.size]? = some (.deferred (some [])) := (Below.heap_alloc W _ _ (by omega)).trans hk
      have hsa : (W.alloc (ob x)).heap.size = W.heap.size + 1 := World.size_alloc _ _
      have hba := World.alloc_heap_new W (ob x)
      refine ⟨fn, _, assign, body, hy, roundIn_of_wpIn hfn (hassign _ x W _ ⟨_, run_beginRound hla (by rw [hrec]), ?_⟩)⟩
      clear hy
      obtain ⟨W2, hW2⟩ : ∃ W2, (W.alloc (ob x)).putObj (w.heap.size + 1) (.loop { rec .ready none with state := .busy }) = W2 := ⟨_, rfl⟩
      have hl2 : W2.heap[w.heap.size + 1]? = some (.loop { rec .ready none with state := .busy }) := by rw [← hW2]; exact World.putObj_heap_same (by omega)
      have hk2 : W2.heap[w.heap.size]? = some (.deferred (some [])) := by rw [← hW2]; exact (World.putObj_heap_other (by omega)).trans hka
      have hs2 : W2.heap.size = W.heap.size + 1 := by rw [← hW2, putObj_size]; exact hsa
      have hb2 : W2.heap[W.heap.size]? = some (ob x) := by rw [← hW2]; exact (World.putObj_heap_other (by omega)).trans hba
      have nb2 : ¬ T W.heap.size := fun q => by have := (fI.foot hi q).2; omega
      have c2 : ∀ {G : Nat → Prop}, G (w.heap.size + 1) → Chg G W W2 := fun {G} hG => by rw [← hW2]; exact ((Chg.refl G W).alloc _).putObj (.inl hG) _
      rw [hW2]
      have hi2 : I pre T W2 := fI.abide hi (c2 n2)
      have hT2 : ∀ b, T b → b < W2.heap.size := fun b q => by have := (fI.foot hi q).2; omega
      refine wpIn_mono (hbody _ pre x T W2 W.heap.size hi2 hb2 nb2 (by have := hc.size; omega) hlen (back (hc.on (c2 (G := With T₀ w.heap.size (w.heap.size + 1)) (.inr (.inr rfl))) fun i hi => .inl hi))) ?_
      have fin : ∀ (jump : Option Code) (T3 : Nat → Prop) (W3 : World) (K : Inv α), Chg T W2 W3 → (∀ b, T3 b → Up T W2 W3 b) → Fit B K → K (pre ++ [x]) T3 W3 →
          (Instr.endRound (w.heap.size + 1) jump).run P W3 = .ok (.bool jump.isNone) (W3.putObj (w.heap.size + 1) (.loop (rec (if jump.isNone then .ready else .done) jump))) ∧
          ∃ T4, Chg T' W (W3.putObj (w.heap.size + 1) (.loop (rec (if jump.isNone then .ready else .done) jump))) ∧ (∀ b, T4 b → Up T' W (W3.putObj (w.heap.size + 1) (.loop (rec (if jump.isNone then .ready else .done) jump))) b) ∧
            Rec K w.heap.size (w.heap.size + 1) (.loop (rec (if jump.isNone then .ready else .done) jump)) (pre ++ [x]) T4 (W3.putObj (w.heap.size + 1) (.loop (rec (if jump.isNone then .ready else .done) jump))) := fun jump T3 W3 K hk3 hu3 fK hK3 => by
        have hl3 : W3.heap[w.heap.size + 1]? = some (.loop { rec .ready none with state := .busy }) := (hk3.block _ (by omega) n2).trans hl2
        have hd3 : W3.heap[w.heap.size]? = some (.deferred (some [])) := (hk3.block _ (by omega) n1).trans hk2
        have hr := run_endRound (P := P) jump hl3
        have e3 : ∀ j, ({ rec .ready none with state := (if jump.isNone then LoopState.ready else .done), pending := j } : Loop) = rec (if jump.isNone then .ready else .done) j := fun j => by rw [hrec]
        obtain ⟨o4, ho4⟩ : ∃ o4, Obj.loop (rec (if jump.isNone then .ready else .done) jump) = o4 := ⟨_, rfl⟩
        have hr : (Instr.endRound (w.heap.size + 1) jump).run P W3 = .ok (.bool jump.isNone) (W3.putObj (w.heap.size + 1) (.loop (rec (if jump.isNone then .ready else .done) jump))) := by rw [hrec] at hr ⊢; exact hr
        rw [ho4] at hr ⊢
        have n13 : ¬ T3 w.heap.size := fun q => by rcases hu3 _ q with q | q; exact n1 q; omega
        have n23 : ¬ T3 (w.heap.size + 1) := fun q => by rcases hu3 _ q with q | q; exact n2 q; omega
        have hs3 := hk3.size
        have s4 := putObj_size W3 (w.heap.size + 1) o4
        refine ⟨hr, With T3 w.heap.size (w.heap.size + 1), ?_, fun b hb => ?_, ⟨T3, fK.abide hK3 ((Chg.refl _ W3).putObj (.inl n23) _), fun _ => Iff.rfl, n13, n23⟩, World.putObj_heap_same (by omega), (World.putObj_heap_other (by omega)).trans hd3⟩
        · have c1 : Chg T' W W2 := c2 ((eT _).2 (.inr (.inr rfl)))
          have c3 : Chg T' W W3 := c1.on hk3 fun i hi => .inl ((eT i).2 (.inl hi))
          exact c3.putObj (.inl ((eT _).2 (.inr (.inr rfl)))) _
        · rcases hb with q | q | q
          · rcases hu3 _ q with q | q
            · exact .inl ((eT b).2 (.inl q))
            · exact .inr ⟨by omega, by omega⟩
          · exact .inl ((eT b).2 (.inr (.inl q)))
          · exact .inl ((eT b).2 (.inr (.inr q)))
      rintro e a3 W3 hp
      cases e with
      | normal =>
        obtain ⟨T3, c3, u3, hi3⟩ := hp
        obtain ⟨hr, T4, x1, x2, x3⟩ := fin none T3 W3 I c3 u3 fI hi3
        exact ⟨_, _, hr, T4, x1, x2, .inl ⟨rfl, x3⟩⟩
      | ret =>
        obtain ⟨T3, c3, u3, hi3⟩ := hp
        obtain ⟨hr, T4, x1, x2, x3⟩ := fin (some .ret) T3 W3 (Ix .ret) c3 u3 (fX _) hi3
        exact ⟨_, _, hr, T4, x1, x2, .inr ⟨rfl, _, x3⟩⟩
      | exit id =>
        obtain ⟨T3, c3, u3, hi3⟩ := hp
        obtain ⟨hr, T4, x1, x2, x3⟩ := fin (some (.exit id)) T3 W3 (Ix (.exit id)) c3 u3 (fX _) hi3
        exact ⟨_, _, hr, T4, x1, x2, .inr ⟨rfl, _, x3⟩⟩
      | goto t =>
        obtain ⟨T3, c3, u3, hi3⟩ := hp
        obtain ⟨hr, T4, x1, x2, x3⟩ := fin (some (.goto t)) T3 W3 (Ix (.goto t)) c3 u3 (fX _) hi3
        exact ⟨_, _, hr, T4, x1, x2, .inr ⟨rfl, _, x3⟩⟩
      | panic ch => exact hp.elim
      | outgrown => exact hp.elim
    · -- behind the iterator
      rintro e W2 ⟨⟨v, rfl⟩, T', hc, hup, (⟨⟨T, hi, eT, n1, n2⟩, hl, hk⟩ | ⟨pre, hpre, c, ⟨T, hi, eT, n1, n2⟩, hl, hk⟩)⟩
      · have hr : ∃ o, (Instr.endLoop (w.heap.size + 1)).run P W2 = .ok none (W2.putObj (w.heap.size + 1) o) := ⟨_, by have := run_endLoop (P := P) hl (by rw [hrec]; simp); rw [hrec] at this; exact this⟩
        obtain ⟨o, hr⟩ := hr
        have cp : Chg (With T₀ w.heap.size (w.heap.size + 1)) W1 (W2.putObj (w.heap.size + 1) o) := hc.putObj (.inl (.inr (.inr rfl))) _
        refine ⟨none, _, hr, hdone _ T _ (Nat.le_refl _) n1 (fI.abide hi ((Chg.refl _ W2).putObj (.inl n2) _)) (back cp) (upb cp (fun b hb => ?_) eT) ((World.putObj_heap_other (by omega)).trans hk)⟩
        rw [show Up (With T₀ w.heap.size (w.heap.size + 1)) W1 (W2.putObj (w.heap.size + 1) o) b = Up (With T₀ w.heap.size (w.heap.size + 1)) W1 W2 b by unfold Up; rw [putObj_size]]
        exact hup b hb
      · have hr : ∃ o, (Instr.endLoop (w.heap.size + 1)).run P W2 = .ok (some c) (W2.putObj (w.heap.size + 1) o) := ⟨_, by have := run_endLoop (P := P) hl (by rw [hrec]; simp); rw [hrec] at this; exact this⟩
        obtain ⟨o, hr⟩ := hr
        have cp : Chg (With T₀ w.heap.size (w.heap.size + 1)) W1 (W2.putObj (w.heap.size + 1) o) := hc.putObj (.inl (.inr (.inr rfl))) _
        refine ⟨some c, _, hr, hstop _ c pre T _ (Nat.le_refl _) n1 hpre ((fX c).abide hi ((Chg.refl _ W2).putObj (.inl n2) _)) (back cp) (upb cp (fun b hb => ?_) eT) ((World.putObj_heap_other (by omega)).trans hk)⟩
        rw [show Up (With T₀ w.heap.size (w.heap.size + 1)) W1 (W2.putObj (w.heap.size + 1) o) b = Up (With T₀ w.heap.size (w.heap.size + 1)) W1 W2 b by unfold Up; rw [putObj_size]]
        exact hup b hb
end Rv
end Go.Proofs.Ytjcchogilbekoab
