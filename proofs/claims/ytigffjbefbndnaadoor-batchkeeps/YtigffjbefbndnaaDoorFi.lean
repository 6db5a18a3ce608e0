/- Layer 9: a former in memory. No walk. -/
import Derived.Test.YtigffjbefbndnaaDoorFm
import Derived.Test.YtigffjbefbndnaaDoorBa
import Derived.Test.YtigffjbefbndnaaDoorWd
namespace Go.Proofs.YtigffjbefbndnaaDoor
open Go.RowKit
namespace Rs
open Sm (Tx ofS)
def nts (l : List Nat) : List Value := l.map fun n : Nat => Value.int .i64 (n : Int)
def forC (sb : Nat) (f : For) (bv mv : Value) : Array Value := #[.pointer (some ⟨sb, 0, none⟩), .int .i64 f.size, bv, mv, .nilIface]
/-- the living former f of the store at sb lies at block fb, in the blocks G -/
structure FIn (w : World) (sb fb : Nat) (f : For) (G : Nat → Prop) (bv mv : Value) : Prop where
  lt : ∀ b, G b → b < w.heap.size
  own : G fb
  sto : w.heap[fb]? = some (.cells (forC sb f bv mv) 54 (0, 0))
  row : Own w bv f.buf
  rowG : ∀ g, bv.ownBlock = some g → G g
  int : w.ownsRow 0 3 1 mv f.made.length (nts f.made)
  intG : ∀ g, mv.ownBlock = some g → G g
/-- a former that died of the failure c -/
def FDe (w : World) (E : Nat → Addr) (sb fb c : Nat) : Prop := w.heap[fb]? = some (.cells #[.pointer (some ⟨sb, 0, none⟩), .int .i64 0, .slice none 0 0, .slice none 0 0, er E c] 54 (0, 0))
/-- a closed former -/
def FCl (w : World) (fb : Nat) : Prop := w.heap[fb]? = some (.cells #[.pointer none, .int .i64 0, .slice none 0 0, .slice none 0 0, .nilIface] 54 (0, 0))
/-- a former, living, dead or closed -/
structure FAt (w : World) (E : Nat → Addr) (sb fb : Nat) (f : For) (G : Nat → Prop) : Prop where
  lt : ∀ b, G b → b < w.heap.size
  own : G fb
  st : (f.dead = 0 ∧ ∃ bv mv, FIn w sb fb f G bv mv) ∨ (f.dead = 13 ∧ FCl w fb) ∨ (f.dead ≠ 0 ∧ f.dead ≠ 13 ∧ FDe w E sb fb f.dead)
theorem FIn.kept {w w' : World} {sb fb : Nat} {f : For} {G H : Nat → Prop} {bv mv : Value} (h : FIn w sb fb f G bv mv) (hb : ∀ b, G b → w'.heap[b]? = w.heap[b]?) (hG : ∀ b, G b → H b) (hl : ∀ b, H b → b < w'.heap.size) : FIn w' sb fb f H bv mv :=
  ⟨hl, hG _ h.own, (hb _ h.own).trans h.sto, h.row.kept fun g hg => hb g (h.rowG g hg), fun g hg => hG g (h.rowG g hg), own_kept h.int fun g hg => hb g (h.intG g hg), fun g hg => hG g (h.intG g hg)⟩
theorem FIn.below {w w' : World} {sb fb : Nat} {f : For} {G : Nat → Prop} {bv mv : Value} (h : FIn w sb fb f G bv mv) (hb : Below w.heap.size w w') : FIn w' sb fb f G bv mv :=
  h.kept (fun b hF => hb.block b (h.lt b hF)) (fun _ x => x) fun b hF => Nat.lt_of_lt_of_le (h.lt b hF) hb.size
theorem FAt.kept {w w' : World} {E : Nat → Addr} {sb fb : Nat} {f : For} {G H : Nat → Prop} (h : FAt w E sb fb f G) (hb : ∀ b, G b → w'.heap[b]? = w.heap[b]?) (hG : ∀ b, G b → H b) (hl : ∀ b, H b → b < w'.heap.size) : FAt w' E sb fb f H := by
  refine ⟨hl, hG _ h.own, ?_⟩
  rcases h.st with ⟨e, bv, mv, k⟩ | ⟨e, k⟩ | ⟨e, e2, k⟩
  · exact .inl ⟨e, bv, mv, k.kept hb hG hl⟩
  · exact .inr (.inl ⟨e, (hb _ h.own).trans k⟩)
  · exact .inr (.inr ⟨e, e2, (hb _ h.own).trans k⟩)
theorem FAt.below {w w' : World} {E : Nat → Addr} {sb fb : Nat} {f : For} {G : Nat → Prop} (h : FAt w E sb fb f G) (hb : Below w.heap.size w w') : FAt w' E sb fb f G :=
  h.kept (fun b hF => hb.block b (h.lt b hF)) (fun _ x => x) fun b hF => Nat.lt_of_lt_of_le (h.lt b hF) hb.size
theorem FIn.at {w : World} {E : Nat → Addr} {sb fb : Nat} {f : For} {G : Nat → Prop} {bv mv : Value} (h : FIn w sb fb f G bv mv) (hd : f.dead = 0) : FAt w E sb fb f G := ⟨h.lt, h.own, .inl ⟨hd, bv, mv, h⟩⟩
theorem FAt.live {w : World} {E : Nat → Addr} {sb fb : Nat} {f : For} {G : Nat → Prop} (h : FAt w E sb fb f G) (hd : f.dead = 0) : ∃ bv mv, FIn w sb fb f G bv mv := by
  rcases h.st with ⟨e, k⟩ | ⟨e, k⟩ | ⟨e, e2, k⟩
  · exact k
  · omega
  · exact absurd hd e
theorem fcells {w : World} {sb fb : Nat} {f : For} {bv mv : Value} (h : w.heap[fb]? = some (.cells (forC sb f bv mv) 54 (0, 0))) :
    w.cell? ⟨fb, 0, none⟩ = some (.pointer (some ⟨sb, 0, none⟩)) ∧ w.cell? ⟨fb, 1, none⟩ = some (.int .i64 f.size) ∧ w.cell? ⟨fb, 2, none⟩ = some bv ∧ w.cell? ⟨fb, 3, none⟩ = some mv ∧ w.cell? ⟨fb, 4, none⟩ = some .nilIface ∧ ∀ k, w.frozen? ⟨fb, k, none⟩ = false := by
  refine ⟨?_, ?_, ?_, ?_, ?_, fun k => ?_⟩ <;> simp [World.cell?, World.frozen?, h, forC]
/-- a row of texts, a row of numbers and a former never share a block -/
theorem FIn.apart {w : World} {sb fb : Nat} {f : For} {G : Nat → Prop} {bv mv : Value} (h : FIn w sb fb f G bv mv) : bv.ownBlock ≠ some fb ∧ mv.ownBlock ≠ some fb ∧ ∀ g, bv.ownBlock = some g → mv.ownBlock ≠ some g := by
  refine ⟨fun e => ?_, fun e => ?_, fun g e e2 => ?_⟩
  · obtain ⟨c1, z1, q1⟩ := Lib.ownsRow_kind h.row fb e
    rw [h.sto] at q1
    injection q1 with q1
    injection q1 with _ q1 _
    exact absurd q1 (by decide)
  · obtain ⟨c1, z1, q1⟩ := Lib.ownsRow_kind h.int fb e
    rw [h.sto] at q1
    injection q1 with q1
    injection q1 with _ q1 _
    exact absurd q1 (by decide)
  · obtain ⟨c1, z1, q1⟩ := Lib.ownsRow_kind h.row g e
    obtain ⟨c2, z2, q2⟩ := Lib.ownsRow_kind h.int g e2
    rw [q1] at q2
    injection q2 with q2
    injection q2 with _ q2 _
    exact absurd q2 (by decide)
/-- behind a call that turned a store and a former -/
def FRes (F G : Nat → Prop) (w : World) (E : Nat → Addr) (sb fb : Nat) (m : Sto) (f : For) (w' : World) : Prop :=
  ∃ F' G', At w' sb m F' ∧ FAt w' E sb fb f G' ∧ (∀ b, F' b → ¬ G' b) ∧ (∀ b, F' b → Up F w w' b) ∧ (∀ b, G' b → Up G w w' b) ∧ Chg (fun b => F b ∨ G b) w w'
theorem own_nums {W : World} {v : Value} {l : List Nat} (h : W.ownsRow 0 3 1 v l.length (nts l)) : ∃ a c, v = .slice a l.length c := by
  rcases h.2 with ⟨e1, e2⟩ | ⟨g, cap, cur, e1, _⟩
  · exact ⟨none, 0, by rw [e1, e2]⟩
  · exact ⟨_, _, e1⟩
theorem nums_cell {w : World} {g N c : Nat} {l : List Nat} (h : w.ownsRow 0 3 1 (.slice (some ⟨g, 0, none⟩) N c) l.length (nts l)) {j n : Nat} (hj : l[j]? = some n) : w.cell? ⟨g, j, none⟩ = some (.int .i64 n) := by
  have hl := (List.getElem?_eq_some_iff.1 hj).1
  have hN : l.length = N := by
    rcases h.2 with ⟨e1, e2⟩ | ⟨g, cap, cur, e1, _⟩
    · cases e1
    · injection e1 with _ e1 _; exact e1.symm
  subst hN
  rw [World.ownsRow.cellAt h j (by omega)]
  simp [nts, hj]
end Rs
end Go.Proofs.YtigffjbefbndnaaDoor
