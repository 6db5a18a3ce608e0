/- Layer 8: a range over a function whose iterator and whose body each have blocks of their own: the contract of an iterator (Gives), and the law for the statement. No walk. -/
import Derived.RangeFuncBox
import Derived.RangeFuncNested
import Derived.RangeFuncBound
import Derived.RangeFuncCalls
import Derived.RangeFuncLeaves
import Derived.Test.YtohfhkdhccpoaaaGreatDoorChecked
import Derived.Shelf.Abstract
import Derived.Shelf.RegionOpen
import Derived.WalkKit
import Derived.OwnWalkIn
import Derived.TacticsInMore
import Derived.LoopNIn
import Derived.LoopIn
import Derived.Maps.AppendAt
import Derived.Test.YtohfhkdhccpoaaaGreatDoorGg
import Derived.Deep.AppendSrc
import Derived.Lib.OwnKind
import Derived.WalkSpells
import Derived.WalkLawsBesides
namespace Go.Proofs.YtohfhkdhccpoaaaGreatDoor
open Go.RowKit
namespace Sm

def Hid (p : Prop) : Prop := p
theorem hide {p : Prop} (h : p) : Hid p := h
theorem unhide {p : Prop} (h : Hid p) : p := h

/-- all is as it was but for blocks of F and new ones -/
structure Chg (F : Nat → Prop) (w w' : World) : Prop where
  os : w'.os = w.os
  tape : w'.tape = w.tape
  output : w'.output = w.output
  size : w.heap.size ≤ w'.heap.size
  block : ∀ k, k < w.heap.size → ¬ F k → w'.heap[k]? = w.heap[k]?
theorem Chg.refl (F : Nat → Prop) (w : World) : Chg F w w := ⟨rfl, rfl, rfl, Nat.le_refl _, fun _ _ _ => rfl⟩
/-- F, and what is new -/
def Up (F : Nat → Prop) (w w' : World) (b : Nat) : Prop := F b ∨ (w.heap.size ≤ b ∧ b < w'.heap.size)
theorem Chg.trans {F : Nat → Prop} {a b c : World} (h : Chg F a b) (k : Chg (Up F a b) b c) : Chg F a c :=
  ⟨k.os.trans h.os, k.tape.trans h.tape, k.output.trans h.output, Nat.le_trans h.size k.size, fun i hi hn =>
    (k.block i (Nat.lt_of_lt_of_le hi h.size) (fun e => e.elim hn (fun e => by omega))).trans (h.block i hi hn)⟩
/-- one step behind another, whose blocks are the first's or new -/
theorem Chg.on {F G : Nat → Prop} {a b c : World} (h : Chg F a b) (k : Chg G b c) (hG : ∀ i, G i → Up F a b i) : Chg F a c :=
  ⟨k.os.trans h.os, k.tape.trans h.tape, k.output.trans h.output, Nat.le_trans h.size k.size, fun i hi hn =>
    (k.block i (Nat.lt_of_lt_of_le hi h.size) (fun e => (hG i e).elim hn (fun e => by omega))).trans (h.block i hi hn)⟩
theorem Up.on {F G : Nat → Prop} {a b c : World} (h : Chg F a b) (k : Chg G b c) (hG : ∀ i, G i → Up F a b i) {T : Nat → Prop} (hT : ∀ i, T i → Up G b c i) : ∀ i, T i → Up F a c i := fun i hi => by
  have := h.size; have := k.size
  rcases hT i hi with e | e
  · rcases hG i e with e | e
    · exact .inl e
    · exact .inr ⟨e.1, by omega⟩
  · exact .inr ⟨by omega, e.2⟩
theorem Chg.mono {F G : Nat → Prop} {a b : World} (h : Chg F a b) (hs : ∀ k, F k → G k) : Chg G a b := ⟨h.os, h.tape, h.output, h.size, fun i hi hn => h.block i hi fun e => hn (hs i e)⟩
/-- as far as blocks count that there were -/
theorem Chg.mono' {F G : Nat → Prop} {a b : World} (h : Chg F a b) (hs : ∀ k, k < a.heap.size → F k → G k) : Chg G a b := ⟨h.os, h.tape, h.output, h.size, fun i hi hn => h.block i hi fun e => hn (hs i hi e)⟩
theorem Chg.of_below {F : Nat → Prop} {a b : World} (h : Below a.heap.size a b) : Chg F a b := ⟨h.os, h.tape, h.output, h.size, fun i hi _ => h.block i hi⟩
theorem Chg.below {F : Nat → Prop} {a b : World} {B : Nat} (h : Chg F a b) (hB : B ≤ a.heap.size) (hF : ∀ k, F k → B ≤ k) : Below B a b :=
  ⟨h.os, h.tape, h.output, h.size, fun i hi => h.block i (by omega) fun e => by have := hF i e; omega⟩
theorem Chg.alloc {F : Nat → Prop} {a b : World} (h : Chg F a b) (o : Obj) : Chg F a (b.alloc o) :=
  ⟨h.os, h.tape, h.output, Nat.le_trans h.size (by simp), fun i hi hn => (Below.heap_alloc b o i (Nat.lt_of_lt_of_le hi h.size)).trans (h.block i hi hn)⟩
theorem Chg.drew {F : Nat → Prop} {a b : World} (h : Chg F a b) : Chg F a b.drew := ⟨h.os, h.tape, h.output, h.size, h.block⟩
theorem Chg.setCell {F : Nat → Prop} {a b : World} (h : Chg F a b) {p : Addr} (hp : F p.block ∨ a.heap.size ≤ p.block) (u : Value) : Chg F a (b.setCell p u) :=
  ⟨h.os, h.tape, h.output, Nat.le_trans h.size (by simp [World.setCell]), fun i hi hn => (Below.heap_setCell b p u i (fun e => by subst e; rcases hp with hp | hp; exact hn hp; omega)).trans (h.block i hi hn)⟩
theorem Chg.putObj {F : Nat → Prop} {a b : World} (h : Chg F a b) {l : Nat} (hp : F l ∨ a.heap.size ≤ l) (o : Obj) : Chg F a (b.putObj l o) :=
  ⟨h.os, h.tape, h.output, Nat.le_trans h.size (grownBy_putObj' b l o).size, fun i hi hn => ((grownBy_putObj' b l o).block i (Nat.lt_of_lt_of_le hi h.size) (fun e => by injection e with e; subst e; rcases hp with hp | hp; exact hn hp; omega)).trans (h.block i hi hn)⟩
theorem Chg.grown {F : Nat → Prop} {a b c : World} {row : Option Nat} (h : Chg F a b) (hg : b.grownBy c row) (hr : ∀ k, row = some k → F k ∨ a.heap.size ≤ k) : Chg F a c :=
  ⟨hg.os.trans h.os, hg.tape.trans h.tape, hg.output.trans h.output, Nat.le_trans h.size hg.size, fun i hi hn =>
    (hg.block i (Nat.lt_of_lt_of_le hi h.size) (fun e => by rcases hr i e.symm with e | e; exact hn e; omega)).trans (h.block i hi hn)⟩
theorem putObj_size (w : World) (l : Nat) (o : Obj) : (w.putObj l o).heap.size = w.heap.size := by simp [World.putObj]

/-- what a walk's client has: behind these texts, in these blocks, in this world -/
abbrev Inv := List ByteArray → (Nat → Prop) → World → Prop
/-- it has blocks from B on alone, and abides whatever turns none of them -/
structure Fit (B : Nat) (J : Inv) : Prop where
  foot : ∀ {s T W b}, J s T W → T b → B ≤ b ∧ b < W.heap.size
  abide : ∀ {s T W W'}, J s T W → Chg (fun b => ¬ T b) W W' → J s T W'

/-- one text handed to the loop l -/
def Rnd (P : Program) (l : Nat) (x : ByteArray) (W : World) (R : Ending → World → Prop) : Prop := YieldAt Fence.wide 6 P l #[.string x] W R
theorem round_any {m m' : Nat} {P : Program} {l : Nat} {f : FuncId} {tmps : Array Value} {assign body : Code} {w : World} {R : Ending → World → Prop}
    (h : RoundIn Fence.wide m P l f tmps assign body w R) : RoundIn Fence.wide m' P l f tmps assign body w R := ⟨h.1, fun c cs _ => h.2 c cs (room_wide _)⟩
theorem Rnd.at {P : Program} {l : Nat} {x : ByteArray} {W : World} {R : Ending → World → Prop} (h : Rnd P l x W R) (m : Nat) : YieldAt Fence.wide m P l #[.string x] W R := by
  obtain ⟨fn, tmps, assign, body, hy, hR⟩ := h
  exact ⟨fn, tmps, assign, body, hy, round_any hR⟩

/-- what a client answers to a text -/
def RndPost (J Jx : Inv) (xs : List ByteArray) (T : Nat → Prop) (W : World) (e : Ending) (W' : World) : Prop :=
  ∃ T', Chg T W W' ∧ (∀ b, T' b → Up T W W' b) ∧ ((e = .returned (.bool true) ∧ J xs T' W') ∨ (e = .returned (.bool false) ∧ Jx xs T' W'))
/-- the client l takes each text of L that comes, in a walk that began at W₀ with the client's blocks T₀ -/
def Serves (P : Program) (L : List ByteArray) (T₀ : Nat → Prop) (W₀ : World) (l : Nat) (J Jx : Inv) : Prop :=
  ∀ pre x T W, J pre T W → pre ++ [x] <+: L → Chg T₀ W₀ W → Rnd P l x W (RndPost J Jx (pre ++ [x]) T W)
/-- what is there when the walk is over -/
def Ended (L : List ByteArray) (J Jx : Inv) (T : Nat → Prop) (W W' : World) : Prop :=
  ∃ T', Chg T W W' ∧ (∀ b, T' b → Up T W W' b) ∧ (J L T' W' ∨ ∃ pre, pre <+: L ∧ Jx pre T' W')
/-- a walk's function gives L, to whatever client whose blocks lie from B on, in whatever world that is as w₀ below B -/
def WalksC (P : Program) (gf : FuncId) (lb : Array Value) (L : List ByteArray) (B C : Nat) (w₀ : World) : Prop :=
  (∀ args w, (callFunc gf args).run P w = .ok (.enter gf args) w) ∧
  ∀ (l : Nat) (J Jx : Inv) (W : World) (T : Nat → Prop), Below B w₀ W → B ≤ W.heap.size → Fit C J → Fit C Jx → Serves P L T W l J Jx → J [] T W →
    Calls P gf (#[.func (.yield l) #[] #[]] ++ lb) W fun e W' => (∃ v, e = .returned v) ∧ Ended L J Jx T W W'
/-- as WalksC, the client's blocks from B on too -/
def Walks (P : Program) (gf : FuncId) (lb : Array Value) (L : List ByteArray) (B : Nat) (w₀ : World) : Prop := WalksC P gf lb L B B w₀
theorem WalksC.walks {P : Program} {gf : FuncId} {lb : Array Value} {L : List ByteArray} {B : Nat} {w₀ : World} (h : WalksC P gf lb L B 0 w₀) : Walks P gf lb L B w₀ :=
  ⟨h.1, fun l J Jx W T hW hs fJ fX hY h0 => h.2 l J Jx W T hW hs ⟨fun a b => ⟨Nat.zero_le _, (fJ.foot a b).2⟩, fJ.abide⟩ ⟨fun a b => ⟨Nat.zero_le _, (fX.foot a b).2⟩, fX.abide⟩ hY h0⟩
theorem WalksC.later {P : Program} {gf : FuncId} {lb : Array Value} {L : List ByteArray} {B B' C : Nat} {w₀ w₁ : World} (h : WalksC P gf lb L B C w₀) (hb : Below B w₀ w₁) (hB : B ≤ B') : WalksC P gf lb L B' C w₁ :=
  ⟨h.1, fun l J Jx W T hW hs fJ fX hY h0 => h.2 l J Jx W T (hb.trans (hW.mono hB)) (Nat.le_trans hB hs) fJ fX hY h0⟩
theorem Walks.later {P : Program} {gf : FuncId} {lb : Array Value} {L : List ByteArray} {B B' : Nat} {w₀ w₁ : World} (h : Walks P gf lb L B w₀) (hb : Below B w₀ w₁) (hB : B ≤ B') : Walks P gf lb L B' w₁ :=
  ⟨h.1, fun l J Jx W T hW hs fJ fX hY h0 => h.2 l J Jx W T (hb.trans (hW.mono hB)) (Nat.le_trans hB hs)
    ⟨fun a b => ⟨Nat.le_trans hB (fJ.foot a b).1, (fJ.foot a b).2⟩, fJ.abide⟩ ⟨fun a b => ⟨Nat.le_trans hB (fX.foot a b).1, (fX.foot a b).2⟩, fX.abide⟩ hY h0⟩
/-- a stream in a field: a walk's function, or none -/
def Gives (P : Program) (v : Value) (L : List ByteArray) (B : Nat) (w₀ : World) : Prop :=
  (v = .nilFunc ∧ L = []) ∨ ∃ gf lb, v = .func (.func gf) #[] lb ∧ Walks P gf lb L B w₀
theorem Walks.gives {P : Program} {gf : FuncId} {lb : Array Value} {L : List ByteArray} {B : Nat} {w₀ : World} (h : Walks P gf lb L B w₀) : Gives P (.func (.func gf) #[] lb) L B w₀ := .inr ⟨gf, lb, rfl, h⟩
theorem Gives.later {P : Program} {v : Value} {L : List ByteArray} {B B' : Nat} {w₀ w₁ : World} (h : Gives P v L B w₀) (hb : Below B w₀ w₁) (hB : B ≤ B') : Gives P v L B' w₁ := by
  rcases h with h | ⟨gf, lb, e, h⟩
  · exact .inl h
  · exact .inr ⟨gf, lb, e, h.later hb hB⟩

/-- how the body of a round may be left -/
def bodyP (I : Inv) (Ix : Code → Inv) (xs : List ByteArray) (T : Nat → Prop) (W : World) : Exit → Act → World → Prop
  | .normal, _, W' => ∃ T', Chg T W W' ∧ (∀ b, T' b → Up T W W' b) ∧ I xs T' W'
  | .ret, _, W' => ∃ T', Chg T W W' ∧ (∀ b, T' b → Up T W W' b) ∧ Ix .ret xs T' W'
  | .exit id, _, W' => ∃ T', Chg T W W' ∧ (∀ b, T' b → Up T W W' b) ∧ Ix (.exit id) xs T' W'
  | .goto t, _, W' => ∃ T', Chg T W W' ∧ (∀ b, T' b → Up T W W' b) ∧ Ix (.goto t) xs T' W'
  | .panic _, _, _ => False
  | .outgrown, _, _ => False
/-- the client's blocks with the loop's own two -/
def With (T : Nat → Prop) (D l b : Nat) : Prop := T b ∨ b = D ∨ b = l
structure Rec (I : Inv) (D l : Nat) (r : Obj) (xs : List ByteArray) (T' : Nat → Prop) (W : World) : Prop where
  inv : ∃ T, I xs T W ∧ (∀ b, T' b ↔ With T D l b) ∧ ¬ T D ∧ ¬ T l
  lop : W.heap[l]? = some r
  blk : W.heap[D]? = some (.deferred (some []))
theorem Rec.fit {B D l : Nat} {I : Inv} {r : Obj} (f : Fit B I) (hD : B ≤ D) (hl : B ≤ l) : Fit B (Rec I D l r) := by
  refine ⟨fun {s T' W b} h hb => ?_, fun {s T' W W'} h c => ?_⟩
  · obtain ⟨⟨T, hi, e, _, _⟩, h1, h2⟩ := h
    rcases (e b).1 hb with q | q | q
    · exact f.foot hi q
    · subst q; exact ⟨hD, (Array.getElem?_eq_some_iff.1 h2).1⟩
    · subst q; exact ⟨hl, (Array.getElem?_eq_some_iff.1 h1).1⟩
  · obtain ⟨⟨T, hi, e, n1, n2⟩, h1, h2⟩ := h
    refine ⟨⟨T, f.abide hi (c.mono fun k hk q => hk ((e k).2 (.inl q))), e, n1, n2⟩, ?_, ?_⟩
    · exact (c.block l (Array.getElem?_eq_some_iff.1 h1).1 (fun q => q ((e l).2 (.inr (.inr rfl))))).trans h1
    · exact (c.block D (Array.getElem?_eq_some_iff.1 h2).1 (fun q => q ((e D).2 (.inr (.inl rfl))))).trans h2
theorem ex_fit {B : Nat} {ι : Type} {K : ι → Inv} (f : ∀ i, Fit B (K i)) : Fit B (fun s T W => ∃ i, K i s T W) :=
  ⟨fun h hb => by obtain ⟨i, h⟩ := h; exact (f i).foot h hb, fun h c => by obtain ⟨i, h⟩ := h; exact ⟨i, (f i).abide h c⟩⟩

theorem range_lawC {P : Program} {g : Operand} {ps : Array Tmp} {assign body : Code} {Q : Exit → Act → World → Prop} {a : Act} {w w₀ : World} {gf : FuncId} {lb : Array Value} {L : List ByteArray} {B C : Nat}
    (hv : WalksC P gf lb L B C w₀) (hg : a.eval g = .func (.func gf) #[] lb) (hb : Below B w₀ w) (hB : B ≤ w.heap.size) (hC : C ≤ w.heap.size) (hps : ps.size = 1)
    (I : Inv) (Ix : Code → Inv) (fI : Fit C I) (fX : ∀ c, Fit C (Ix c)) (T₀ : Nat → Prop) (h0 : I [] T₀ w) (a₁ : ByteArray → Act)
    (hassign : ∀ (l : Nat) (x : ByteArray) (W : World) (K : Act → World → Prop), K (a₁ x) W →
      assign.wpIn (Fence.wide.inRound l) 6 P (Exit.then K (fun _ _ _ => False)) { tmps := (ps.zip #[.string x]).foldl (fun t (p, v) => t.setIfInBounds p v) a.tmps, defers := [] } W)
    (hbody : ∀ (l : Nat) (pre : List ByteArray) (x : ByteArray) (T : Nat → Prop) (W : World), I pre T W → pre ++ [x] <+: L → Chg T₀ w W →
      body.wpIn (Fence.wide.inRound l) 6 P (bodyP I Ix (pre ++ [x]) T W) (a₁ x) W)
    (hdone : ∀ (D : Nat) (T : Nat → Prop) (W : World), w.heap.size ≤ D → ¬ T D → I L T W → Chg T₀ w W → (∀ b, T b → Up T₀ w W b) → W.heap[D]? = some (.deferred (some [])) → Q .normal { a with defers := { target := .collected D, args := #[] } :: a.defers } W)
    (hstop : ∀ (D : Nat) (c : Code) (pre : List ByteArray) (T : Nat → Prop) (W : World), w.heap.size ≤ D → ¬ T D → pre <+: L → Ix c pre T W → Chg T₀ w W → (∀ b, T b → Up T₀ w W b) → W.heap[D]? = some (.deferred (some [])) →
      c.wpIn Fence.wide 8 P Q { a with defers := { target := .collected D, args := #[] } :: a.defers } W) :
    (Code.rangeFunc g ps assign body).wpIn Fence.wide 8 P Q a w := by
  refine wpIn_rangeFunc ?_
  intro fn hfn
  obtain ⟨rec, hrec⟩ : ∃ rec : LoopState → Option Code → Loop, rec = fun st pe => { state := st, pending := pe, fn, tmps := a.tmps, params := ps, assign, body, defers := w.heap.size } := ⟨_, rfl⟩
  obtain ⟨W1, hW1⟩ : ∃ W1, (w.alloc (.deferred (some []))).alloc (.loop (rec .ready none)) = W1 := ⟨_, rfl⟩
  have hL1 : W1.heap[w.heap.size + 1]? = some (.loop (rec .ready none)) := by
    rw [← hW1]; have := World.alloc_heap_new (w.alloc (.deferred (some []))) (.loop (rec .ready none)); rwa [World.size_alloc] at this
  have hK1 : W1.heap[w.heap.size]? = some (.deferred (some [])) := by
    rw [← hW1]; exact (Below.heap_alloc _ _ _ (by simp)).trans (World.alloc_heap_new w _)
  have hBW : Below w.heap.size w W1 := by rw [← hW1]; exact ((Below.refl _ w).alloc (Nat.le_refl _) _).alloc (by simp) _
  have hsz : W1.heap.size = w.heap.size + 2 := by rw [← hW1]; simp
  have nT0 : ∀ b, T₀ b → b < w.heap.size := fun b hb => (fI.foot h0 hb).2
  have hI1 : I [] T₀ W1 := fI.abide h0 (Chg.of_below hBW)
  have hb1 : Below B w₀ W1 := hb.trans (hBW.mono hB)
  -- what the walk's start says of w
  have back : ∀ {W : World}, Chg (With T₀ w.heap.size (w.heap.size + 1)) W1 W → Chg T₀ w W := fun {W} c =>
    (Chg.of_below (F := T₀) hBW).on c fun i hi => by
      rcases hi with e | e | e
      · exact .inl e
      · exact .inr ⟨by omega, by omega⟩
      · exact .inr ⟨by omega, by omega⟩
  have upb : ∀ {W : World} {T' T : Nat → Prop}, Chg (With T₀ w.heap.size (w.heap.size + 1)) W1 W → (∀ b, T' b → Up (With T₀ w.heap.size (w.heap.size + 1)) W1 W b) → (∀ b, T' b ↔ With T w.heap.size (w.heap.size + 1) b) → ∀ b, T b → Up T₀ w W b := fun {W T' T} c h e b hb => by
    have := c.size
    rcases h b ((e b).2 (.inl hb)) with (q | q | q) | q
    · exact .inl q
    · exact .inr ⟨by omega, by omega⟩
    · exact .inr ⟨by omega, by omega⟩
    · exact .inr ⟨by omega, q.2⟩
  refine ⟨w.heap.size + 1, [{ target := .collected w.heap.size, args := #[] }], W1, { target := .fn (.func gf) lb, args := #[.func (.yield (w.heap.size + 1)) #[] #[]] }, W1, gf,
    #[.func (.yield (w.heap.size + 1)) #[] #[]] ++ lb, W1, ?_, ?_, ?_, ?_, fun _ => by omega, ?_⟩
  · rw [← hW1, hrec]; exact run_enterLoop_outer _ _ _ _ _
  · simp only [resolve, hg]
    simp [go_sem]
  · intro f' hf'; trivial
  · simp [invoke, go_sem, hv.1]
  · refine callsIn_wide.2 ((hv.2 (w.heap.size + 1) (Rec I w.heap.size (w.heap.size + 1) (.loop (rec .ready none))) (fun s T W => ∃ c, Rec (Ix c) w.heap.size (w.heap.size + 1) (.loop (rec .done (some c))) s T W)
      W1 (With T₀ w.heap.size (w.heap.size + 1)) hb1 (by omega) (Rec.fit fI hC (by omega)) (ex_fit fun c => Rec.fit (fX c) hC (by omega)) ?_
      ⟨⟨T₀, hI1, fun b => Iff.rfl, fun e => by have := nT0 _ e; omega, fun e => by have := nT0 _ e; omega⟩, hL1, hK1⟩).mono ?_)
    · -- one round
      rintro pre x T' W ⟨⟨T, hi, eT, n1, n2⟩, hl, hk⟩ hlen hc
      have hlt : w.heap.size + 1 < W.heap.size := (Array.getElem?_eq_some_iff.1 hl).1
      have hy := run_yield (P := P) (args := #[.string x]) hl (by rw [hrec]; simp [hps])
      rw [hrec] at hy
      refine ⟨fn, _, assign, body, hy, roundIn_of_wpIn hfn (hassign _ x W _ ⟨_, run_beginRound hl (by rw [hrec]), ?_⟩)⟩
      clear hy
      obtain ⟨W2, hW2⟩ : ∃ W2, W.putObj (w.heap.size + 1) (.loop { rec .ready none with state := .busy }) = W2 := ⟨_, rfl⟩
      have hl2 : W2.heap[w.heap.size + 1]? = some (.loop { rec .ready none with state := .busy }) := by rw [← hW2]; exact World.putObj_heap_same hlt
      have hk2 : W2.heap[w.heap.size]? = some (.deferred (some [])) := by rw [← hW2]; exact (World.putObj_heap_other (by omega)).trans hk
      have hs2 : W2.heap.size = W.heap.size := by rw [← hW2]; exact putObj_size _ _ _
      have c2 : ∀ {G : Nat → Prop}, G (w.heap.size + 1) → Chg G W W2 := fun {G} hG => by rw [← hW2]; exact (Chg.refl G W).putObj (.inl hG) _
      rw [hW2]
      have hi2 : I pre T W2 := fI.abide hi (c2 n2)
      have hT2 : ∀ b, T b → b < W2.heap.size := fun b q => by rw [hs2]; exact (fI.foot hi q).2
      refine wpIn_mono (hbody _ pre x T W2 hi2 hlen (back (hc.on (c2 (G := With T₀ w.heap.size (w.heap.size + 1)) (.inr (.inr rfl))) fun i hi => .inl hi))) ?_
      have fin : ∀ (jump : Option Code) (T3 : Nat → Prop) (W3 : World) (K : Inv), Chg T W2 W3 → (∀ b, T3 b → Up T W2 W3 b) → Fit C K → K (pre ++ [x]) T3 W3 →
          (Instr.endRound (w.heap.size + 1) jump).run P W3 = .ok (.bool jump.isNone) (W3.putObj (w.heap.size + 1) (.loop (rec (if jump.isNone then .ready else .done) jump))) ∧
          ∃ T4, Chg T' W (W3.putObj (w.heap.size + 1) (.loop (rec (if jump.isNone then .ready else .done) jump))) ∧ (∀ b, T4 b → Up T' W (W3.putObj (w.heap.size + 1) (.loop (rec (if jump.isNone then .ready else .done) jump))) b) ∧
            Rec K w.heap.size (w.heap.size + 1) (.loop (rec (if jump.isNone then .ready else .done) jump)) (pre ++ [x]) T4 (W3.putObj (w.heap.size + 1) (.loop (rec (if jump.isNone then .ready else .done) jump))) := fun jump T3 W3 K hk3 hu3 fK hK3 => by
        have hl3 : W3.heap[w.heap.size + 1]? = some (.loop { rec .ready none with state := .busy }) := (hk3.block _ (by omega) n2).trans hl2
        have hd3 : W3.heap[w.heap.size]? = some (.deferred (some [])) := (hk3.block _ (by omega) n1).trans hk2
        have hr := run_endRound (P := P) jump hl3
        have e3 : ∀ j, ({ rec .ready none with state := (if jump.isNone then LoopState.ready else .done), pending := j } : Loop) = rec (if jump.isNone then .ready else .done) j := fun j => by rw [hrec]
        obtain ⟨o4, ho4⟩ : ∃ o4, Obj.loop (rec (if jump.isNone then .ready else .done) jump) = o4 := ⟨_, rfl⟩
        have hr : (Instr.endRound (w.heap.size + 1) jump).run P W3 = .ok (.bool jump.isNone) (W3.putObj (w.heap.size + 1) (.loop (rec (if jump.isNone then .ready else .done) jump))) := by rw [hrec] at hr ⊢; exact hr
        rw [ho4] at hr ⊢
        have n13 : ¬ T3 w.heap.size := fun q => by rcases hu3 _ q with q | q; exact n1 q; omega
        have n23 : ¬ T3 (w.heap.size + 1) := fun q => by rcases hu3 _ q with q | q; exact n2 q; omega
        have hs3 := hk3.size
        have s4 := putObj_size W3 (w.heap.size + 1) o4
        refine ⟨hr, With T3 w.heap.size (w.heap.size + 1), ?_, fun b hb => ?_, ⟨T3, fK.abide hK3 ((Chg.refl _ W3).putObj (.inl n23) _), fun _ => Iff.rfl, n13, n23⟩, World.putObj_heap_same (by omega), (World.putObj_heap_other (by omega)).trans hd3⟩
        · have c1 : Chg T' W W2 := c2 ((eT _).2 (.inr (.inr rfl)))
          have c3 : Chg T' W W3 := c1.on hk3 fun i hi => .inl ((eT i).2 (.inl hi))
          exact c3.putObj (.inl ((eT _).2 (.inr (.inr rfl)))) _
        · rcases hb with q | q | q
          · rcases hu3 _ q with q | q
            · exact .inl ((eT b).2 (.inl q))
            · exact .inr ⟨by omega, by omega⟩
          · exact .inl ((eT b).2 (.inr (.inl q)))
          · exact .inl ((eT b).2 (.inr (.inr q)))
      rintro e a3 W3 hp
      cases e with
      | normal =>
        obtain ⟨T3, c3, u3, hi3⟩ := hp
        obtain ⟨hr, T4, x1, x2, x3⟩ := fin none T3 W3 I c3 u3 fI hi3
        exact ⟨_, _, hr, T4, x1, x2, .inl ⟨rfl, x3⟩⟩
      | ret =>
        obtain ⟨T3, c3, u3, hi3⟩ := hp
        obtain ⟨hr, T4, x1, x2, x3⟩ := fin (some .ret) T3 W3 (Ix .ret) c3 u3 (fX _) hi3
        exact ⟨_, _, hr, T4, x1, x2, .inr ⟨rfl, _, x3⟩⟩
      | exit id =>
        obtain ⟨T3, c3, u3, hi3⟩ := hp
        obtain ⟨hr, T4, x1, x2, x3⟩ := fin (some (.exit id)) T3 W3 (Ix (.exit id)) c3 u3 (fX _) hi3
        exact ⟨_, _, hr, T4, x1, x2, .inr ⟨rfl, _, x3⟩⟩
      | goto t =>
        obtain ⟨T3, c3, u3, hi3⟩ := hp
        obtain ⟨hr, T4, x1, x2, x3⟩ := fin (some (.goto t)) T3 W3 (Ix (.goto t)) c3 u3 (fX _) hi3
        exact ⟨_, _, hr, T4, x1, x2, .inr ⟨rfl, _, x3⟩⟩
      | panic ch => exact hp.elim
      | outgrown => exact hp.elim
    · -- behind the iterator
      rintro e W2 ⟨⟨v, rfl⟩, T', hc, hup, (⟨⟨T, hi, eT, n1, n2⟩, hl, hk⟩ | ⟨pre, hpre, c, ⟨T, hi, eT, n1, n2⟩, hl, hk⟩)⟩
      · have hr : ∃ o, (Instr.endLoop (w.heap.size + 1)).run P W2 = .ok none (W2.putObj (w.heap.size + 1) o) := ⟨_, by have := run_endLoop (P := P) hl (by rw [hrec]; simp); rw [hrec] at this; exact this⟩
        obtain ⟨o, hr⟩ := hr
        have cp : Chg (With T₀ w.heap.size (w.heap.size + 1)) W1 (W2.putObj (w.heap.size + 1) o) := hc.putObj (.inl (.inr (.inr rfl))) _
        refine ⟨none, _, hr, hdone _ T _ (Nat.le_refl _) n1 (fI.abide hi ((Chg.refl _ W2).putObj (.inl n2) _)) (back cp) (upb cp (fun b hb => ?_) eT) ((World.putObj_heap_other (by omega)).trans hk)⟩
        rw [show Up (With T₀ w.heap.size (w.heap.size + 1)) W1 (W2.putObj (w.heap.size + 1) o) b = Up (With T₀ w.heap.size (w.heap.size + 1)) W1 W2 b by unfold Up; rw [putObj_size]]
        exact hup b hb
      · have hr : ∃ o, (Instr.endLoop (w.heap.size + 1)).run P W2 = .ok (some c) (W2.putObj (w.heap.size + 1) o) := ⟨_, by have := run_endLoop (P := P) hl (by rw [hrec]; simp); rw [hrec] at this; exact this⟩
        obtain ⟨o, hr⟩ := hr
        have cp : Chg (With T₀ w.heap.size (w.heap.size + 1)) W1 (W2.putObj (w.heap.size + 1) o) := hc.putObj (.inl (.inr (.inr rfl))) _
        refine ⟨some c, _, hr, hstop _ c pre T _ (Nat.le_refl _) n1 hpre ((fX c).abide hi ((Chg.refl _ W2).putObj (.inl n2) _)) (back cp) (upb cp (fun b hb => ?_) eT) ((World.putObj_heap_other (by omega)).trans hk)⟩
        rw [show Up (With T₀ w.heap.size (w.heap.size + 1)) W1 (W2.putObj (w.heap.size + 1) o) b = Up (With T₀ w.heap.size (w.heap.size + 1)) W1 W2 b by unfold Up; rw [putObj_size]]
        exact hup b hb
theorem range_law {P : Program} {g : Operand} {ps : Array Tmp} {assign body : Code} {Q : Exit → Act → World → Prop} {a : Act} {w w₀ : World} {gf : FuncId} {lb : Array Value} {L : List ByteArray} {B : Nat}
    (hv : Walks P gf lb L B w₀) (hg : a.eval g = .func (.func gf) #[] lb) (hb : Below B w₀ w) (hB : B ≤ w.heap.size) (hps : ps.size = 1)
    (I : Inv) (Ix : Code → Inv) (fI : Fit B I) (fX : ∀ c, Fit B (Ix c)) (T₀ : Nat → Prop) (h0 : I [] T₀ w) (a₁ : ByteArray → Act)
    (hassign : ∀ (l : Nat) (x : ByteArray) (W : World) (K : Act → World → Prop), K (a₁ x) W →
      assign.wpIn (Fence.wide.inRound l) 6 P (Exit.then K (fun _ _ _ => False)) { tmps := (ps.zip #[.string x]).foldl (fun t (p, v) => t.setIfInBounds p v) a.tmps, defers := [] } W)
    (hbody : ∀ (l : Nat) (pre : List ByteArray) (x : ByteArray) (T : Nat → Prop) (W : World), I pre T W → pre ++ [x] <+: L → Chg T₀ w W →
      body.wpIn (Fence.wide.inRound l) 6 P (bodyP I Ix (pre ++ [x]) T W) (a₁ x) W)
    (hdone : ∀ (D : Nat) (T : Nat → Prop) (W : World), w.heap.size ≤ D → ¬ T D → I L T W → Chg T₀ w W → (∀ b, T b → Up T₀ w W b) → W.heap[D]? = some (.deferred (some [])) → Q .normal { a with defers := { target := .collected D, args := #[] } :: a.defers } W)
    (hstop : ∀ (D : Nat) (c : Code) (pre : List ByteArray) (T : Nat → Prop) (W : World), w.heap.size ≤ D → ¬ T D → pre <+: L → Ix c pre T W → Chg T₀ w W → (∀ b, T b → Up T₀ w W b) → W.heap[D]? = some (.deferred (some [])) →
      c.wpIn Fence.wide 8 P Q { a with defers := { target := .collected D, args := #[] } :: a.defers } W) :
    (Code.rangeFunc g ps assign body).wpIn Fence.wide 8 P Q a w :=
  range_lawC hv hg hb hB hB hps I Ix fI fX T₀ h0 a₁ hassign hbody hdone hstop
end Sm
end Go.Proofs.YtohfhkdhccpoaaaGreatDoor
/- Layer 8: a stream's walk as a value (All); the walk of a list that was laid out (Of). -/
namespace Go.Proofs.YtohfhkdhccpoaaaGreatDoor
open Go.RowKit Go.Shelf
namespace Sm
attribute [local go_sem] Oper.semAt_some

/-- a list of texts in memory, below B -/
def RowAt (w : World) (v : Value) (L : List Tx) (B : Nat) : Prop :=
  ∃ ao c, v = .slice ao L.length c ∧ (0 < L.length → ∃ g off, ao = some ⟨g, off, none⟩ ∧ g < B ∧ ∀ (j : Nat) x, L[j]? = some x → w.cell? ⟨g, off + j, none⟩ = some (.string x))
theorem RowAt.below {w w' : World} {v : Value} {L : List Tx} {B : Nat} (h : RowAt w v L B) (hb : Below B w w') : RowAt w' v L B := by
  obtain ⟨ao, c, e, hat⟩ := h
  refine ⟨ao, c, e, fun h0 => ?_⟩
  obtain ⟨g, off, e1, e2, e3⟩ := hat h0
  exact ⟨g, off, e1, e2, fun j x hj => (hb.cell (p := ⟨g, off + j, none⟩) e2).trans (e3 j x hj)⟩
theorem RowAt.mono {w : World} {v : Value} {L : List Tx} {B B' : Nat} (h : RowAt w v L B) (hB : B ≤ B') : RowAt w v L B' := by
  obtain ⟨ao, c, e, hat⟩ := h
  refine ⟨ao, c, e, fun h0 => ?_⟩
  obtain ⟨g, off, e1, e2, e3⟩ := hat h0
  exact ⟨g, off, e1, by omega, e3⟩

theorem nil_walks {w₀ : World} {B : Nat} : Walks Tryz.prog 135 #[] [] B w₀ := by
  refine ⟨enters_of Tryz.func135 (by kernel_rfl) rfl, fun l J Jx W T₀ hW hs fJ fX hY h0 => ?_⟩
  refine (callsIn_wide (n := 8)).1 ?_
  refine callsIn_of_wp Tryz.func135 rfl trivial ?_ rfl
  simp only [Tryz.ntmps135, List.size_toArray, List.length_cons, List.length_nil, Nat.reduceAdd, Nat.reduceSub, Array.replicate_succ, Array.replicate_zero, List.push_toArray, List.append_toArray, List.nil_append, List.cons_append]
  gi_wp2
  go_end0
  exact ⟨⟨_, rfl⟩, T₀, Chg.refl _ _, fun b hb => .inl hb, .inl h0⟩

theorem eq_fn (gf : FuncId) (lb : Array Value) (W : World) : Sem.run Tryz.prog (binOp .eql 134 (.func (.func gf) #[] lb) .nilFunc) W = .ok (.bool false) W := by kernel_rfl
theorem eq_nofn (W : World) : Sem.run Tryz.prog (binOp .eql 134 .nilFunc .nilFunc) W = .ok (.bool true) W := by kernel_rfl

set_option maxRecDepth 100000 in
theorem all_any {v : Value} {L : List Tx} {B : Nat} {w₀ : World} (h : Gives Tryz.prog v L B w₀) (w : World) :
    Calls Tryz.prog 114 #[.agg #[v]] w fun e w' => ∃ gf lb, e = .returned (.func (.func gf) #[] lb) ∧ Walks Tryz.prog gf lb L B w₀ ∧ w' = w.alloc (.cells #[v] 136) := by
  have q1 := eq_fn
  have q2 := eq_nofn
  rcases h with ⟨rfl, rfl⟩ | ⟨gf, lb, rfl, h⟩
  · go_enter Tryz.func114, Tryz.ntmps114
    go_wp2
    go_ret
    exact ⟨_, _, rfl, nil_walks, rfl⟩
  · have H := hide h
    clear h
    go_enter Tryz.func114, Tryz.ntmps114
    go_wp2
    go_ret
    exact ⟨_, _, rfl, unhide H, rfl⟩

set_option maxRecDepth 100000 in
theorem all_fn (gf : FuncId) (lb : Array Value) (w : World) :
    Calls Tryz.prog 114 #[.agg #[.func (.func gf) #[] lb]] w fun e w' => e = .returned (.func (.func gf) #[] lb) ∧ w' = w.alloc (.cells #[.func (.func gf) #[] lb] 136) := by
  have q1 := eq_fn
  go_enter Tryz.func114, Tryz.ntmps114
  go_wp2
  go_ret
  exact ⟨rfl, rfl⟩
end Sm
end Go.Proofs.YtohfhkdhccpoaaaGreatDoor
/- Layer 8: List, Count, Has of a stream. -/
namespace Go.Proofs.YtohfhkdhccpoaaaGreatDoor
open Go.RowKit Go.Shelf
namespace Sm
attribute [local go_sem] Oper.semAt_some

/-- append to a row of one's own, and where the row lies behind it -/
theorem append_blk {P : Program} (W : World) (t ty e : TypeId) (i : TypeInfo) (z : Value) (size bytes : Nat) (ht : P.underlying t = some (.slice e)) (hi : P.info? e = some i) (hz : i.zero = some z)
    (hsize : i.size = size) (hby : i.bytes = bytes) (hzs : z.cells.size = size) (hsz : 0 < size)
    (v : Value) (n : Nat) (xs : List Value) (hown : W.ownsRow 0 e size v n xs)
    (a : Addr) (m c : Nat) (news : List Value) (hl : news.length = m * size) (hnews : ∀ j u, news[j]? = some u → W.cell? (a.add j) = some u) (h1 : ∀ u ∈ news, u.oneCell' = true)
    (h63 : n + m ≤ maxLen) (hbytes : (n + m) * bytes ≤ 140737488355328) :
    ∃ v' W', (Builtin.append_ #[t, t] ty #[v, .slice (some a) m c]).run P W = .ok v' W' ∧ W'.ownsRow 0 e size v' (n + m) (xs ++ news) ∧ W.grownBy W' v.ownBlock ∧ (v'.ownBlock = v.ownBlock ∨ v'.ownBlock = some W.heap.size) := by
  obtain ⟨v', W', hr, h2, h3, h4⟩ := run_append_own (P := P) W 0 t ty e i z size bytes ht hi hz hsize hby hzs hsz v n xs hown a m c news hl hnews h1 h63 hbytes (Nat.zero_le _)
  refine ⟨v', W', hr, h2, h3, ?_⟩
  subst hsize hby
  rcases hown.2 with ⟨rfl, rfl⟩ | ⟨g, cap, cur, rfl, hbg, hg, hnc, hcm, hcs, htake⟩
  · by_cases hm : m = 0
    · left
      have := h4.2 ⟨rfl, hm⟩
      rw [this]
    · right
      have q := run_append_nil (P := P) W t ty e i z ht hi hz a m c news hl hnews (by omega) (by unfold maxLen at h63; omega) (by have hb := hbytes; simp only [Nat.zero_add] at hb; omega)
      rw [hr] at q
      injection q with q _
      rw [q]; rfl
  · by_cases hroom : n + m ≤ cap
    · left
      have hfit : n * i.size + news.length ≤ cur.size := by rw [hl, hcs, ← Nat.add_mul]; exact Nat.mul_le_mul_right _ hroom
      have q := run_append_room (P := P) W t ty e i ht hi g n cap cur hg a m c news hl hnews h1 hroom hfit
      rw [hr] at q
      injection q with q _
      rw [q]; rfl
    · right
      have q := run_append_grow (P := P) W t ty e i z ht hi hz ⟨g, 0, none⟩ n cap xs hown.1 (hown.cells (g := g) rfl) a m c news hl hnews (by omega) (by unfold maxLen at h63; omega) (growslice_fits (by unfold maxLen at h63; omega) hbytes)
      rw [hr] at q
      injection q with q _
      rw [q]; rfl

theorem in_append_run {F : Fence} {n : Nat} {P : Program} {w : World} {ops : Array Oper} {rest : List Oper} {o : Oper} {a : Act} {Q : Exit → Act → World → Prop}
    (hg : o.guard = none) (s x : Operand) (t1 t2 : TypeId) (hop : o.op = Op.call { callee := Callee.builtin Builtin.append, args := #[s, x], argTypes := #[t1, t2] })
    (v u : Value) (hs : a.eval s = v) (hx : a.eval x = u) (v' : Value) (w' : World) (hrun : (Builtin.append_ #[t1, t2] o.type #[v, u]).run P w = .ok v' w') (hK : wpListIn F n P ops Q rest (a.put o.dst v') w') :
    wpListIn F n P ops Q (o :: rest) a w := by
  refine wpListIn_plain hg fun K hK' => ?_
  unfold Oper.wpIn
  refine ⟨?_, ?_⟩
  · simp [Oper.about, hop, resolve, Target.leads, Sem.run_pure]
  · rw [Oper.semAt_plain F _ _ (by rw [hop]; intro c hc'; cases hc')]
    simp [execOp, hop, resolve, invoke, builtin, hs, hx, hrun, Result.andThen]
    exact hK' _ _ hK
theorem addr0 (g j : Nat) : (⟨g, 0, none⟩ : Addr).add j = ⟨g, j, none⟩ := by
  unfold Addr.add
  split <;> simp_all
theorem own_kept {W W' : World} {B : Nat} {e : TypeId} {size n : Nat} {v : Value} {xs : List Value} (h : W.ownsRow B e size v n xs) (hb : ∀ g, v.ownBlock = some g → W'.heap[g]? = W.heap[g]?) : W'.ownsRow B e size v n xs := by
  obtain ⟨hl, ⟨e1, e2⟩ | ⟨g, cap, cur, e1, h1, hg, r⟩⟩ := h
  · exact ⟨hl, .inl ⟨e1, e2⟩⟩
  · exact ⟨hl, .inr ⟨g, cap, cur, e1, h1, (hb g (by rw [e1]; rfl)).trans hg, r⟩⟩
theorem own_lt {W : World} {B : Nat} {e : TypeId} {size n : Nat} {v : Value} {xs : List Value} (h : W.ownsRow B e size v n xs) {g : Nat} (hg : v.ownBlock = some g) : B ≤ g ∧ g < W.heap.size := h.lt g hg
abbrev txs (A : List Tx) : List Value := A.map .string
theorem info9 : (Tryz.prog.info? 9).map (fun i => (i.zero, i.size, i.bytes)) = some (some (.string ⟨#[]⟩), 1, 16) := by kernel_rfl
/-- a row of texts that one has -/
def Own (W : World) (v : Value) (A : List Tx) : Prop := W.ownsRow 0 9 1 v A.length (txs A)
theorem Own.slice {W : World} {v : Value} {A : List Tx} (h : Own W v A) : ∃ a c, v = .slice a A.length c := by
  rcases h.2 with ⟨e1, e2⟩ | ⟨g, cap, cur, e1, _⟩
  · exact ⟨none, 0, by rw [e1, e2]⟩
  · exact ⟨_, _, e1⟩
theorem Own.kept {W W' : World} {v : Value} {A : List Tx} (h : Own W v A) (hb : ∀ g, v.ownBlock = some g → W'.heap[g]? = W.heap[g]?) : Own W' v A := own_kept h hb
theorem Own.below {W W' : World} {v : Value} {A : List Tx} (h : Own W v A) (hb : Below W.heap.size W W') : Own W' v A := h.kept fun g hg => hb.block g (own_lt h hg).2
theorem Own.row {W : World} {v : Value} {A : List Tx} {B : Nat} (h : Own W v A) (hB : ∀ g, v.ownBlock = some g → g < B) : RowAt W v A B := by
  rcases h.2 with ⟨e1, e2⟩ | ⟨g, cap, cur, e1, _⟩
  · exact ⟨none, 0, by rw [e1, e2], fun h => by omega⟩
  · subst e1
    refine ⟨_, _, rfl, fun _ => ⟨g, 0, rfl, hB g rfl, fun j x hj => ?_⟩⟩
    have hjl := (List.getElem?_eq_some_iff.1 hj).1
    rw [Nat.zero_add, World.ownsRow.cellAt h j (by omega)]
    simp [txs, hj]
theorem own_cell {w : World} {g N c : Nat} {L : List Tx} (h : Own w (.slice (some ⟨g, 0, none⟩) N c) L) (hN : L.length = N) {j : Nat} {x : Tx} (hj : L[j]? = some x) : w.cell? ⟨g, j, none⟩ = some (.string x) := by
  subst hN
  have hl := (List.getElem?_eq_some_iff.1 hj).1
  rw [World.ownsRow.cellAt h j (by omega)]
  simp [txs, hj]
theorem bx_below {B b : Nat} {w w' : World} {t : TypeId} {v : Value} (h : Boxed w b t v) (hb : Below B w w') (hlt : b < B) : Boxed w' b t v := (hb.block b hlt).trans h
theorem own_row {w : World} {v : Value} {A : List Tx} (h : Own w v A) : RowAt w v A w.heap.size := h.row fun _ hg => (own_lt h hg).2
theorem push_tx {W : World} {v : Value} {A : List Tx} (x : Tx) (hown : Own W v A) (hz : A.length + 1 ≤ 8796093022208) (t ty : TypeId) (ht : Tryz.prog.underlying t = some (.slice 9)) :
    ∃ g c W', (Builtin.append_ #[t, t] ty #[v, .slice (some ⟨W.heap.size, 0, none⟩) 1 1]).run Tryz.prog (W.alloc (.cells #[.string x] 9)) = .ok (.slice (some ⟨g, 0, none⟩) (A.length + 1) c) W' ∧ Own W' (.slice (some ⟨g, 0, none⟩) (A.length + 1) c) (A ++ [x]) ∧ Chg (fun b => v.ownBlock = some b) W W' ∧ Up (fun b => v.ownBlock = some b) W W' g ∧ (∀ b, b < W.heap.size → v.ownBlock ≠ some b → b ≠ g) := by
  obtain ⟨i, hi, hz'⟩ := Option.map_eq_some_iff.1 info9
  simp only [Prod.mk.injEq] at hz'
  obtain ⟨hz0, hz1, hz2⟩ := hz'
  have hown1 : Own (W.alloc (.cells #[.string x] 9)) v A := hown.below ((Below.refl _ W).alloc (Nat.le_refl _) _)
  obtain ⟨v', W', hrun, ho, hg, hb⟩ := append_blk (P := Tryz.prog) (W.alloc (.cells #[.string x] 9)) t ty 9 i _ 1 16 ht hi hz0 hz1 hz2 rfl (by decide) v A.length (txs A) hown1 ⟨W.heap.size, 0, none⟩ 1 1 [.string x] rfl (cell_one_new _ _ _) (by simp [Value.oneCell']) (by unfold maxLen; omega) (by omega)
  obtain ⟨g, c, rfl⟩ := ownsRow_succ ho
  have hc : Chg (fun b => v.ownBlock = some b) W W' := ((Chg.refl _ W).alloc _).grown hg fun k hk => .inl hk
  have hlt := (own_lt ho (g := g) rfl).2
  have hgw : v.ownBlock = some g ∨ W.heap.size ≤ g := by
    rcases hb with e | e
    · exact .inl e.symm
    · have e : g = (W.alloc (.cells #[.string x] 9)).heap.size := by simpa [Value.ownBlock] using e
      rw [World.size_alloc] at e
      exact .inr (by omega)
  refine ⟨g, c, W', hrun, ?_, hc, ?_, fun b hb hn e => ?_⟩
  · unfold Own txs
    rw [List.length_append, List.map_append]
    exact ho
  · rcases hgw with e | e
    · exact .inl e
    · exact .inr ⟨e, hlt⟩
  · subst e
    rcases hgw with e | e
    · exact hn e
    · omega

/-- texts that lie in one of the blocks G, with room for as many -/
def CRow (w : World) (v : Value) (R : List Tx) (G : Nat → Prop) : Prop :=
  ∃ ao c, v = .slice ao R.length c ∧ R.length ≤ c ∧ (0 < R.length → ∃ g off, ao = some ⟨g, off, none⟩ ∧ G g ∧ g < w.heap.size ∧ ∀ (j : Nat) x, R[j]? = some x → w.cell? ⟨g, off + j, none⟩ = some (.string x))
theorem CRow.slice {w : World} {v : Value} {R : List Tx} {G : Nat → Prop} (h : CRow w v R G) : ∃ a c, v = .slice a R.length c := by
  obtain ⟨ao, c, e, _⟩ := h
  exact ⟨ao, c, e⟩
theorem CRow.kept {w w' : World} {v : Value} {R : List Tx} {G : Nat → Prop} (h : CRow w v R G) (hG : ∀ g, G g → w'.heap[g]? = w.heap[g]?) : CRow w' v R G := by
  obtain ⟨ao, c, e, hc, hat⟩ := h
  refine ⟨ao, c, e, hc, fun h0 => ?_⟩
  obtain ⟨g, off, e1, e2, e3, e4⟩ := hat h0
  refine ⟨g, off, e1, e2, ?_, fun j x hj => (World.cell?_of_block (w := w) (hG g e2)).trans (e4 j x hj)⟩
  rcases Nat.lt_or_ge g w'.heap.size with h | h
  · exact h
  · have h1 := hG g e2
    rw [Array.getElem?_eq_none h, Array.getElem?_eq_getElem e3] at h1
    cases h1
theorem CRow.below {w w' : World} {v : Value} {R : List Tx} {G : Nat → Prop} (h : CRow w v R G) (hb : Below w.heap.size w w') : CRow w' v R G := by
  obtain ⟨ao, c, e, hc, hat⟩ := h
  refine ⟨ao, c, e, hc, fun h0 => ?_⟩
  obtain ⟨g, off, e1, e2, e3, e4⟩ := hat h0
  exact ⟨g, off, e1, e2, Nat.lt_of_lt_of_le e3 hb.size, fun j x hj => (hb.cell (p := ⟨g, off + j, none⟩) e3).trans (e4 j x hj)⟩
theorem Own.crow {W : World} {v : Value} {A : List Tx} (h : Own W v A) : CRow W v A (fun g => v.ownBlock = some g) := by
  have hr := own_row h
  rcases h.2 with ⟨e1, e2⟩ | ⟨g, cap, cur, e1, hbs, hb, h1, h2, h3, h4⟩
  · exact ⟨none, 0, by rw [e1, e2], by omega, fun h => by omega⟩
  · subst e1
    obtain ⟨ao, c, e, hat⟩ := hr
    injection e with e1 e2 e3
    subst e1 e3
    refine ⟨_, _, rfl, h1, fun h0 => ?_⟩
    obtain ⟨g', off, e4, e5, e6⟩ := hat h0
    injection e4 with e4
    injection e4 with e7 e8 e9
    subst e7 e8
    exact ⟨_, _, rfl, rfl, e5, e6⟩
theorem CRow.row {w : World} {v : Value} {R : List Tx} {G : Nat → Prop} (h : CRow w v R G) : RowAt w v R w.heap.size := by
  obtain ⟨ao, c, e, _, hat⟩ := h
  refine ⟨ao, c, e, fun h0 => ?_⟩
  obtain ⟨g, off, e1, _, e3, e4⟩ := hat h0
  exact ⟨g, off, e1, e3, e4⟩
theorem CRow.any {w : World} {v : Value} {R : List Tx} {G : Nat → Prop} (h : CRow w v R G) : CRow w v R (fun _ => True) := by
  obtain ⟨ao, c, e, hc, hat⟩ := h
  refine ⟨ao, c, e, hc, fun h0 => ?_⟩
  obtain ⟨g, off, e1, _, e3, e4⟩ := hat h0
  exact ⟨g, off, e1, trivial, e3, e4⟩
/-- the first one cut off -/
theorem CRow.cut {w : World} {g off n c : Nat} {x : Tx} {R : List Tx} {G : Nat → Prop} (hl : n = R.length + 1) (hc : n ≤ c) (h : CRow w (.slice (some ⟨g, off, none⟩) n c) (x :: R) G) {ao : Option Addr} (ha : 0 < R.length → ao = some ⟨g, off + 1, none⟩) : CRow w (.slice ao R.length (c - 1)) R G := by
  obtain ⟨ao', c', e, hc', hat⟩ := h
  injection e with e1 e2 e3
  subst e1 e3
  obtain ⟨g', off', e4, e5, e6, e7⟩ := hat (by simp)
  injection e4 with e4
  injection e4 with e8 e9 e10
  subst e8 e9
  refine ⟨ao, c - 1, rfl, by omega, fun h0 => ⟨g, off + 1, ha h0, e5, e6, fun j z hj => ?_⟩⟩
  have := e7 (j + 1) z (by simpa using hj)
  rw [show off + 1 + j = off + (j + 1) by omega]
  exact this


end Sm
end Go.Proofs.YtohfhkdhccpoaaaGreatDoor
/- Layer 8: List of a stream. -/
namespace Go.Proofs.YtohfhkdhccpoaaaGreatDoor
open Go.RowKit Go.Shelf
namespace Sm
attribute [local go_sem] Oper.semAt_some

/-- what List has: the most, and the list up to now -/
structure LsI (n : Nat) (most : Int) (full : Bool) (pre : List Tx) (T : Nat → Prop) (W : World) : Prop where
  st : ∃ v, (∀ b, T b ↔ b = n + 1 ∨ b = n + 1 + 1 ∨ v.ownBlock = some b) ∧ Boxed W (n + 1) 3 (.int .i64 most) ∧ Boxed W (n + 1 + 1) 29 v ∧ Own W v pre ∧ (∀ g, v.ownBlock = some g → n + 3 ≤ g)
  len : if full then (pre.length : Int) = most else (pre.length : Int) < most
theorem LsI.fit {n B : Nat} {most : Int} {full : Bool} (hB : B ≤ n) : Fit B (LsI n most full) := by
  refine ⟨fun {s T W b} h hb => ?_, fun {s T W W'} h c => ?_⟩
  · obtain ⟨⟨v, e, b1, b2, ho, hn⟩, _⟩ := h
    rcases (e b).1 hb with q | q | q
    · subst q; exact ⟨by omega, b1.lt⟩
    · subst q; exact ⟨by omega, b2.lt⟩
    · exact ⟨by have := hn b q; omega, (own_lt ho q).2⟩
  · obtain ⟨⟨v, e, b1, b2, ho, hn⟩, hl⟩ := h
    exact ⟨⟨v, e, (c.block _ b1.lt (fun q => q ((e _).2 (.inl rfl)))).trans b1, (c.block _ b2.lt (fun q => q ((e _).2 (.inr (.inl rfl))))).trans b2,
      ho.kept fun g hg => c.block g (own_lt ho hg).2 (fun q => q ((e _).2 (.inr (.inr hg)))), hn⟩, hl⟩

theorem gen_in {F : Fence} {n : Nat} {P : Program} {c : Code} {Q : Exit → Act → World → Prop} {a : Act} {W : World} (h : ∀ V, V = W → Code.wpIn F n P c Q a V) : Code.wpIn F n P c Q a W := h W rfl
set_option maxRecDepth 100000 in
set_option maxHeartbeats 2000000 in
theorem list_any {v : Value} {L : List Tx} {B : Nat} {w₀ w : World} (h : Gives Tryz.prog v L B w₀) (hb : Below B w₀ w) (hB : B ≤ w.heap.size) (hz : L.length ≤ 8796093022208) (most : Int) :
    Calls Tryz.prog 162 #[.agg #[v], .int .i64 most] w fun e w' => ∃ sl, e = .returned sl ∧ Own w' sl (L.take most.toNat) ∧ (∀ g, sl.ownBlock = some g → w.heap.size ≤ g) ∧ Below w.heap.size w w' := by
  by_cases hm : most < 1
  · go_enter Tryz.func162, Tryz.ntmps162
    go_wp2
    go_ret
    refine ⟨_, rfl, ?_, (fun g hg => by cases hg), by (repeat (first | exact Below.refl _ _ | refine Below.drew ?_ | refine Below.alloc ?_ (by first | (simp; done) | (simp; omega)) _ | refine Below.setCell ?_ (by first | (simp; done) | (simp; omega)) _))⟩
    have e : most.toNat = 0 := by omega
    rw [e]
    exact World.ownsRow_nil _ _ _ _
  · have H := hide h
    have HB := hide hb
    clear h hb
    refine (callsIn_wide (n := 8)).1 ?_
    refine callsIn_of_wp_marks Tryz.func162 rfl trivial ?_ rfl
    simp only [Tryz.ntmps162, List.size_toArray, List.length_cons, List.length_nil, Nat.reduceAdd, Nat.reduceSub, Array.replicate_succ, Array.replicate_zero, List.push_toArray, List.append_toArray, List.nil_append, List.cons_append]
    gi_wp2_with (refine ⟨trivial, ?_⟩; gi_at_call 114; refine (callsIn_wide.2 (all_any (unhide H) _)).mono ?_; rintro e w' ⟨gf, lb, rfl, hwk, rfl⟩)
    have HW := hide hwk
    clear hwk
    refine gen_in ?_
    intro V hV
    have bM : Boxed V (w.heap.size + 1) 3 (.int .i64 most) := by
      have := ((Boxed.new (w.alloc (.cells #[v] 136)) 3 (.int .i64 most)).alloc (.cells #[.slice none 0 0] 29)).alloc (.cells #[v] 136)
      rw [World.size_alloc] at this
      rw [hV]; exact this
    have bL : Boxed V (w.heap.size + 1 + 1) 29 (.slice none 0 0) := by
      have := (Boxed.new ((w.alloc (.cells #[v] 136)).alloc (.cells #[.int .i64 most] 3)) 29 (.slice none 0 0)).alloc (.cells #[v] 136)
      rw [World.size_alloc, World.size_alloc] at this
      rw [hV]; exact this
    have hVw : Below w.heap.size w V := by rw [hV]; (repeat (first | exact Below.refl _ _ | refine Below.drew ?_ | refine Below.alloc ?_ (by first | (simp; done) | (simp; omega)) _ | refine Below.setCell ?_ (by first | (simp; done) | (simp; omega)) _))
    have hVs : w.heap.size + 4 ≤ V.heap.size := by rw [hV]; simp
    clear hV
    have hVB : Below B w₀ V := (unhide HB).trans (hVw.mono hB)
    refine range_law (unhide HW) rfl hVB (by omega) rfl (LsI w.heap.size most false) (fun c pre T W => c = .exit 0 ∧ LsI w.heap.size most true pre T W) (LsI.fit hB) (fun c => ⟨fun h hb => (LsI.fit hB).foot h.2 hb, fun h k => ⟨h.1, (LsI.fit hB).abide h.2 k⟩⟩)
      (fun b => b = w.heap.size + 1 ∨ b = w.heap.size + 1 + 1) ⟨⟨.slice none 0 0, fun b => by simp [Value.ownBlock], bM, bL, World.ownsRow_nil _ _ _ _, fun g hg => by cases hg⟩, by simp; omega⟩
      (fun x => { tmps := #[.agg #[v], .int .i64 most, .pointer (some ⟨w.heap.size, 0, none⟩), .pointer (some ⟨w.heap.size + 1, 0, none⟩), .slice none 0 0, .pointer (some ⟨w.heap.size + 1 + 1, 0, none⟩), .string x, .int .i64 most, .bool false, .agg #[v], .func (.func gf) #[] lb, .string x, undef, undef, undef, undef, undef, undef, undef, undef, undef], defers := [] }) ?assign ?body ?done ?stop
    case assign =>
      intro l x W K hK
      gi_wp2
      exact hK
    case body =>
      rintro l pre x T W ⟨⟨sl, eT, b1, b2, ho, hn⟩, hlen⟩ hpre hch
      have hlz : pre.length + 1 ≤ 8796093022208 := by have := hpre.length_le; simp at this; omega
      obtain ⟨g, c, W1, hrun, ho1, hc1, hu1, hd1⟩ := push_tx x ho hlz 29 29 Tryz.underlying29
      obtain ⟨a0, c0, rfl⟩ := ho.slice
      have n1 : (Value.slice a0 pre.length c0).ownBlock ≠ some (w.heap.size + 1) := fun e => by have := hn _ e; omega
      have n2 : (Value.slice a0 pre.length c0).ownBlock ≠ some (w.heap.size + 1 + 1) := fun e => by have := hn _ e; omega
      have m1 : Boxed W1 (w.heap.size + 1) 3 (.int .i64 most) := (hc1.block _ b1.lt n1).trans b1
      have m2 : Boxed W1 (w.heap.size + 1 + 1) 29 (.slice a0 pre.length c0) := (hc1.block _ b2.lt n2).trans b2
      have q1 := m1.other (B' := w.heap.size + 1 + 1) (by omega) (.slice (some ⟨g, 0, none⟩) (pre.length + 1) c)
      have q2 := m2.set (.slice (some ⟨g, 0, none⟩) (pre.length + 1) c)
      have hg : g ≠ w.heap.size + 1 + 1 := fun e => hd1 _ b2.lt n2 e.symm
      have q3 : Own (W1.setCell ⟨w.heap.size + 1 + 1, 0, none⟩ (.slice (some ⟨g, 0, none⟩) (pre.length + 1) c)) (.slice (some ⟨g, 0, none⟩) (pre.length + 1) c) (pre ++ [x]) :=
        ho1.kept fun g' hg' => by
          have e0 : g = g' := by injection hg'
          subst e0
          exact Below.heap_setCell _ _ _ _ hg
      have hWs : w.heap.size + 4 ≤ W.heap.size := Nat.le_trans hVs hch.size
      have fin : ∀ (full : Bool), (if full then ((pre ++ [x]).length : Int) = most else ((pre ++ [x]).length : Int) < most) → ∃ T', Chg T W (W1.setCell ⟨w.heap.size + 1 + 1, 0, none⟩ (.slice (some ⟨g, 0, none⟩) (pre.length + 1) c)) ∧ (∀ b, T' b → Up T W (W1.setCell ⟨w.heap.size + 1 + 1, 0, none⟩ (.slice (some ⟨g, 0, none⟩) (pre.length + 1) c)) b) ∧ LsI w.heap.size most full (pre ++ [x]) T' (W1.setCell ⟨w.heap.size + 1 + 1, 0, none⟩ (.slice (some ⟨g, 0, none⟩) (pre.length + 1) c)) := fun full hf => by
        refine ⟨fun b => b = w.heap.size + 1 ∨ b = w.heap.size + 1 + 1 ∨ b = g, (hc1.mono fun k hk => (eT k).2 (.inr (.inr hk))).setCell (.inl ((eT _).2 (.inr (.inl rfl)))) _, fun b hb => ?_, ⟨_, fun b => by simp [Value.ownBlock, eq_comm], q1, q2, q3, fun g' hg' => ?_⟩, hf⟩
        · have hsz : (W1.setCell ⟨w.heap.size + 1 + 1, 0, none⟩ (.slice (some ⟨g, 0, none⟩) (pre.length + 1) c)).heap.size = W1.heap.size := by simp [World.setCell]
          rcases hb with e | e | e
          · exact .inl ((eT _).2 (.inl e))
          · exact .inl ((eT _).2 (.inr (.inl e)))
          · subst e
            rcases hu1 with e | e
            · exact .inl ((eT _).2 (.inr (.inr e)))
            · exact .inr ⟨e.1, by rw [hsz]; exact e.2⟩
        · have : g = g' := by injection hg'
          subst this
          rcases hu1 with e | e
          · exact hn _ e
          · omega
      have FIN := hide fin
      have hcW := b2.cell
      have hc1' := m2.cell
      have hf1' := m2.frozen
      have hcM := q1.cell
      have hcL := q2.cell
      have hlen' : (pre.length : Int) < most := by simpa using hlen
      clear fin q1 q2 q3 m1 m2 n1 n2 hc1 hu1 hd1 ho1 ho hn eT b1 b2 hg hlen hpre
      have HAP := hide hrun
      clear hrun
      by_cases hfull : (pre.length : Int) + 1 = most
      · gi_wp2_with (gi_at_builtin; refine in_append_run rfl _ _ 29 29 rfl _ _ rfl rfl (.slice (some ⟨g, 0, none⟩) (pre.length + 1) c) W1 (unhide HAP) ?_)
        obtain ⟨T', x1, x2, x3⟩ := unhide FIN true (by simpa using hfull)
        exact ⟨T', x1, x2, rfl, x3⟩
      · gi_wp2_with (gi_at_builtin; refine in_append_run rfl _ _ 29 29 rfl _ _ rfl rfl (.slice (some ⟨g, 0, none⟩) (pre.length + 1) c) W1 (unhide HAP) ?_)
        exact unhide FIN false (by simp; omega)
    case done =>
      rintro D T W hD hTD ⟨⟨sl, eT, b1, b2, ho, hn⟩, hlen⟩ hch hup hK
      have hc := b2.cell
      have e : L.take most.toNat = L := List.take_of_length_le (by have : (L.length : Int) < most := by simpa using hlen
                                                                   omega)
      have hfo : Own (W.putObj D (.deferred none)) sl (L.take most.toNat) := by
        rw [e]; exact ownsRow_putObj ho _ hK rfl
      have hfb : Below w.heap.size w (W.putObj D (.deferred none)) :=
        (hVw.trans (hch.below hVw.size (fun b hb => by rcases hb with e | e <;> omega))).trans ((Chg.refl (fun b => w.heap.size ≤ b) W).putObj (.inl (Nat.le_trans hVw.size hD)) _ |>.below (by have := hch.size; omega) (fun _ h => h))
      have hfn : ∀ g, sl.ownBlock = some g → w.heap.size ≤ g := fun g hg => by have := hn g hg; omega
      have HF := hide (⟨hfo, hfn, hfb⟩ : _ ∧ _ ∧ _)
      clear hfo hfb hfn e eT b1 b2 hn hlen
      obtain ⟨a0, c0, rfl⟩ := ho.slice
      clear ho
      gi_wp2
      refine ⟨by simp, .inl ⟨_, _, rfl, run_takeDeferred hK, ?_⟩⟩
      exact ⟨_, results_tmp rfl _ _ _, .slice a0 L.length c0, rfl, unhide HF⟩
    case stop =>
      rintro D c pre T W hD hTD hpre ⟨rfl, ⟨sl, eT, b1, b2, ho, hn⟩, hlen⟩ hch hup hK
      have hc := b2.cell
      have e : L.take most.toNat = pre := by
        have : (pre.length : Int) = most := by simpa using hlen
        have e2 : most.toNat = pre.length := by omega
        rw [e2]
        exact (List.prefix_iff_eq_take.1 hpre).symm
      have hfo : Own (W.putObj D (.deferred none)) sl (L.take most.toNat) := by
        rw [e]; exact ownsRow_putObj ho _ hK rfl
      have hfb : Below w.heap.size w (W.putObj D (.deferred none)) :=
        (hVw.trans (hch.below hVw.size (fun b hb => by rcases hb with e | e <;> omega))).trans ((Chg.refl (fun b => w.heap.size ≤ b) W).putObj (.inl (Nat.le_trans hVw.size hD)) _ |>.below (by have := hch.size; omega) (fun _ h => h))
      have hfn : ∀ g, sl.ownBlock = some g → w.heap.size ≤ g := fun g hg => by have := hn g hg; omega
      have HF := hide (⟨hfo, hfn, hfb⟩ : _ ∧ _ ∧ _)
      clear hfo hfb hfn e eT b1 b2 hn hlen
      obtain ⟨a0, c0, rfl⟩ := ho.slice
      clear ho
      gi_wp2
      refine ⟨by simp, .inl ⟨_, _, rfl, run_takeDeferred hK, ?_⟩⟩
      exact ⟨_, results_tmp rfl _ _ _, .slice a0 pre.length c0, rfl, unhide HF⟩
end Sm
end Go.Proofs.YtohfhkdhccpoaaaGreatDoor
/- Layer 8: a cursor: what is left of a list that is cut off from its beginning; begin, from. -/
namespace Go.Proofs.YtohfhkdhccpoaaaGreatDoor
open Go.RowKit Go.Shelf
namespace Sm

set_option maxRecDepth 100000 in
theorem begin_any {sv : Value} {L : List Tx} {B : Nat} {w₀ w : World} (h : Gives Tryz.prog sv L B w₀) (hb : Below B w₀ w) (hB : B ≤ w.heap.size) (hz : L.length ≤ 8796093022208) :
    Calls Tryz.prog 152 #[.agg #[sv]] w fun e w' => ∃ sl, e = .returned sl ∧ Own w' sl L ∧ (∀ g, sl.ownBlock = some g → w.heap.size + 1 ≤ g) ∧ Below w.heap.size w w' := by
  have H := hide h
  have HB := hide hb
  clear h hb
  go_enter Tryz.func152, Tryz.ntmps152
  go_wp2_with fail
  have b0 : Below w.heap.size w (w.alloc (.cells #[sv] 136)) := (Below.refl _ w).alloc (Nat.le_refl _) _
  refine (list_any (unhide H) ((unhide HB).trans (b0.mono hB)) (by simp; omega) hz 9223372036854775807).mono ?_
  rintro e w1 ⟨sl, rfl, ho, hn, hb1⟩
  rw [List.take_of_length_le (by show L.length ≤ (9223372036854775807 : Int).toNat; omega)] at ho
  have HF := hide (⟨ho, fun g hg => by have := hn g hg; simpa using this, b0.trans (hb1.mono (by simp))⟩ : Own w1 sl L ∧ (∀ g, sl.ownBlock = some g → w.heap.size + 1 ≤ g) ∧ Below w.heap.size w w1)
  obtain ⟨a, c, rfl⟩ := ho.slice
  clear b0 ho hn hb1
  go_wp2
  go_ret
  exact ⟨.slice a L.length c, rfl, unhide HF⟩

theorem results_stream {fn : Func} {p : Tmp} (h : fn.results = #[.cell p 136]) {tmps : Array Value} {w : World} {g : Nat} {v : Value} (hp : tmps.getD p undef = .pointer (some ⟨g, 0, none⟩)) (hc : Boxed w g 136 v) :
    (results fn tmps).run Tryz.prog w = .ok (.agg #[v]) w :=
  results_cell_row h tmps w g _ #[v] (0, 0) _ hp hc Tryz.underlying136 rfl (by kernel_rfl)
theorem lt_of_block {w w' : World} {g : Nat} (h : w'.heap[g]? = w.heap[g]?) (hg : g < w.heap.size) : g < w'.heap.size := by
  rcases Nat.lt_or_ge g w'.heap.size with k | k
  · exact k
  · rw [Array.getElem?_eq_none k, Array.getElem?_eq_getElem hg] at h
    cases h
theorem gen_post {P : Program} {f : Func} {R : Ending → World → Prop} {e : Exit} {a : Act} {W : World} (h : ∀ V, V = W → bodyPost P f R e a V) : bodyPost P f R e a W := h W rfl
theorem below_drewN (B : Nat) (w : World) (n : Nat) : Below B w (w.drewN n) := ⟨rfl, rfl, rfl, Nat.le_refl _, fun _ _ => rfl⟩
theorem tx_beq {x y : Tx} : (x.toList == y.toList) = true ↔ x = y := by
  rw [beq_iff_eq, Lib.toList_data, Lib.toList_data]
  exact ⟨tx_ext, fun e => by rw [e]⟩
end Sm
end Go.Proofs.YtohfhkdhccpoaaaGreatDoor
