/- Layer 6: a writer in memory; check, die, checkPlace. -/
import Derived.Test.YtigffjbefbndnaaDoorRy6
import Derived.Test.YtigffjbefbndnaaDoorRb
import Derived.Test.YtigffjbefbndnaaDoorRs5
import Derived.Test.YtigffjbefbndnaaDoorGb
namespace Go.Proofs.YtigffjbefbndnaaDoor
open Go.RowKit
namespace Rs
/-- a writer: its run, its block, what it holds, the failure of which it died -/
structure Wri where
  run : Nat
  blk : Nat
  buf : List UInt8
  dead : Nat
def wriC (E : Nat → Addr) (sb : Nat) (x : Wri) (bv : Value) : Array Value := #[.pointer (some ⟨sb, 0, none⟩), .int .i64 x.run, .int .i64 x.blk, bv, errV E x.dead]
/-- the writer x of the store at sb lies at block wb, in the blocks G -/
structure WIn (w : World) (E : Nat → Addr) (sb wb : Nat) (x : Wri) (G : Nat → Prop) (bv : Value) : Prop where
  lt : ∀ b, G b → b < w.heap.size
  own : G wb
  sto : w.heap[wb]? = some (.cells (wriC E sb x bv) 86 (0, 0))
  row : w.ownsRow 0 5 1 bv x.buf.length (x.buf.map encB)
  rowG : ∀ g, bv.ownBlock = some g → G g
  small : x.buf.length < x.blk
  blk1 : 1 ≤ x.blk
  blk2 : x.blk ≤ 4096
theorem WIn.kept {w w' : World} {E : Nat → Addr} {sb wb : Nat} {x : Wri} {G H : Nat → Prop} {bv : Value} (h : WIn w E sb wb x G bv) (hb : ∀ b, G b → w'.heap[b]? = w.heap[b]?) (hG : ∀ b, G b → H b) (hl : ∀ b, H b → b < w'.heap.size) : WIn w' E sb wb x H bv :=
  ⟨hl, hG _ h.own, (hb _ h.own).trans h.sto, own_kept h.row fun g hg => hb g (h.rowG g hg), fun g hg => hG g (h.rowG g hg), h.small, h.blk1, h.blk2⟩
theorem WIn.below {w w' : World} {E : Nat → Addr} {sb wb : Nat} {x : Wri} {G : Nat → Prop} {bv : Value} (h : WIn w E sb wb x G bv) (hb : Below w.heap.size w w') : WIn w' E sb wb x G bv :=
  h.kept (fun b hF => hb.block b (h.lt b hF)) (fun _ x => x) fun b hF => Nat.lt_of_lt_of_le (h.lt b hF) hb.size
theorem wcells {w : World} {E : Nat → Addr} {sb wb : Nat} {x : Wri} {bv : Value} (h : w.heap[wb]? = some (.cells (wriC E sb x bv) 86 (0, 0))) :
    w.cell? ⟨wb, 0, none⟩ = some (.pointer (some ⟨sb, 0, none⟩)) ∧ w.cell? ⟨wb, 1, none⟩ = some (.int .i64 x.run) ∧ w.cell? ⟨wb, 2, none⟩ = some (.int .i64 x.blk) ∧ w.cell? ⟨wb, 3, none⟩ = some bv ∧ w.cell? ⟨wb, 4, none⟩ = some (errV E x.dead) ∧ ∀ k, w.frozen? ⟨wb, k, none⟩ = false := by
  refine ⟨?_, ?_, ?_, ?_, ?_, fun k => ?_⟩ <;> simp [World.cell?, World.frozen?, h, wriC]
set_option maxRecDepth 100000 in
theorem check_any {w : World} {E : Nat → Addr} {sb wb : Nat} {x : Wri} {G : Nat → Prop} {bv : Value} (h : WIn w E sb wb x G bv) :
    Calls Tryd.prog 49 #[.pointer (some ⟨wb, 0, none⟩)] w fun e w' => e = .returned (errV E x.dead) ∧ w' = w := by
  obtain ⟨c0, c1, c2, c3, c4, cf⟩ := wcells h.sto
  clear h
  generalize errV E x.dead = ev at *
  go_enter Tryd.func49, Tryd.ntmps49
  go_wp2
  go_ret
  exact ⟨rfl, rfl⟩
set_option maxRecDepth 100000 in
theorem place_ok {w : World} (sb b : Nat) (h1 : 1 ≤ b) (h2 : b ≤ 4096) :
    Calls Tryd.prog 47 #[.pointer (some ⟨sb, 0, none⟩), .int .i64 b] w fun e w' => e = .returned .nilIface ∧ w' = w := by
  have q1 : ¬ (b : Int) < 1 := by omega
  have q2 : ¬ 4096 < (b : Int) := by omega
  go_enter Tryd.func47, Tryd.ntmps47
  go_wp2
  go_ret
  exact ⟨rfl, rfl⟩
set_option maxRecDepth 100000 in
theorem place_no {w : World} {E : Nat → Addr} {B : Nat} (V : Env w E B) (sb : Nat) (b : Int) (h : b < 1 ∨ 4096 < b) :
    Calls Tryd.prog 47 #[.pointer (some ⟨sb, 0, none⟩), .int .i64 b] w fun e w' => e = .returned (er E 2) ∧ w' = w := by
  have hl := V.li
  have hz : 1 < w.heap.size := by have := V.g.sz; omega
  clear V
  by_cases h1 : b < 1
  · clear h
    go_enter Tryd.func47, Tryd.ntmps47
    go_wp2
    go_ret
    exact ⟨rfl, rfl⟩
  · have h2 : 4096 < b := by omega
    clear h
    go_enter Tryd.func47, Tryd.ntmps47
    go_wp2
    go_ret
    exact ⟨rfl, rfl⟩
/-- what lies in memory behind a call that turned a store and a writer -/
def WRes (F G : Nat → Prop) (w : World) (E : Nat → Addr) (sb wb : Nat) (m : Sto) (x : Wri) (w' : World) : Prop :=
  ∃ F' G' bv, At w' sb m F' ∧ WIn w' E sb wb x G' bv ∧ (∀ b, F' b → ¬ G' b) ∧ (∀ b, F' b → Up F w w' b) ∧ (∀ b, G' b → Up G w w' b) ∧ Chg (fun b => F b ∨ G b) w w'
end Rs
end Go.Proofs.YtigffjbefbndnaaDoor
