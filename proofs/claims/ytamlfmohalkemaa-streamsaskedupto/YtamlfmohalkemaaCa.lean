/- Layer 8, a heap of cursors: what its order rests upon; ahead. -/
import Derived.Test.YtamlfmohalkemaaHg
namespace Go.Proofs.Ytamlfmohalkemaa
open Go.RowKit
namespace Hpc
open Hp
def Hid (p : Prop) : Prop := p
theorem hide {p : Prop} (h : p) : Hid p := h
theorem unhide {p : Prop} (h : Hid p) : p := h
/-- a cursor: the list's words, and what texts they mean -/
structure Cu where
  ao : Option Addr
  n : Nat
  c : Nat
  L : List ByteArray
abbrev It := Cu
abbrev Nd := It × Nat
abbrev cu0 : Cu := ⟨none, 0, 0, []⟩
instance : Inhabited Cu := ⟨cu0⟩
/-- what the heap's less rests upon: which cursors may be in it, and what holds of memory, in blocks that are not N -/
structure Cx where
  Z : Cu → Prop
  K : World → Prop
  N : Nat → Prop
  D : Nat
  new : ∀ b, D ≤ b → N b
  keeps : ∀ W W', K W → W.heap.size ≤ W'.heap.size → (∀ b, b < W.heap.size → ¬ N b → W'.heap[b]? = W.heap[b]?) → K W'
/-- a less that is handed in, and the order that it is -/
structure Les (C : Cx) (f : FuncId) (lt : It → It → Bool) : Prop where
  ord : Ord lt
  nil : ∀ W : World, Sem.run Try.prog (binOp .eql 59 (.func (.func f) #[] #[]) .nilFunc) W = .ok (.bool false) W
  ent : ∀ (x y : Value) (W : World), Sem.run Try.prog (callFunc f #[x, y]) W = .ok (.enter f #[x, y]) W
  call : ∀ (a b : It) (W : World), C.Z a → C.Z b → C.K W → Calls Try.prog f #[.slice a.ao a.n a.c, .slice b.ao b.n b.c] W fun e w' => e = .returned (.bool (lt a b)) ∧ Below W.heap.size W w'
theorem Cx.below (C : Cx) {W W' : World} (h : C.K W) (k : Below W.heap.size W W') : C.K W' := C.keeps W W' h k.size fun b hb _ => k.block b hb
variable {C : Cx}
set_option maxRecDepth 100000 in
set_option maxHeartbeats 1000000 in
theorem ahead_fn {f : FuncId} {lt : It → It → Bool} (L : Les C f lt) {w : World} {hb : Nat} (hc : w.cell? ⟨hb, 0, none⟩ = some (.func (.func f) #[] #[])) (hl : hb < w.heap.size) (a b : Nd) (za : C.Z a.1) (zb : C.Z b.1) (hK : C.K w) :
    Calls Try.prog 69 #[.pointer (some ⟨hb, 0, none⟩), .agg #[.slice a.1.ao a.1.n a.1.c, .int .i64 a.2], .agg #[.slice b.1.ao b.1.n b.1.c, .int .i64 b.2]] w fun e w' => e = .returned (.bool (ahd lt a b)) ∧ Below w.heap.size w w' := by
  have hnil := L.nil
  have hent := L.ent
  have HL : Hid (∀ W, Below w.heap.size w W → (Calls Try.prog f #[.slice a.1.ao a.1.n a.1.c, .slice b.1.ao b.1.n b.1.c] W fun e w' => e = .returned (.bool (lt a.1 b.1)) ∧ Below W.heap.size W w') ∧ Calls Try.prog f #[.slice b.1.ao b.1.n b.1.c, .slice a.1.ao a.1.n a.1.c] W fun e w' => e = .returned (.bool (lt b.1 a.1)) ∧ Below W.heap.size W w') := fun W hW => ⟨L.call _ _ W za zb (C.below hK hW), L.call _ _ W zb za (C.below hK hW)⟩
  have HC := hide hc
  clear L za zb hK
  by_cases h : a.2 < b.2
  · have e : ahd lt a b = !lt b.1 a.1 := by unfold ahd; rw [if_pos h]
    rw [e]
    have hz : (a.2 : Int) < (b.2 : Int) := by omega
    clear h e
    go_enter Try.func69, Try.ntmps69
    go_wp2
    clear hc
    refine gen_world ?_
    intro V hV
    obtain ⟨t1, t2, t3, t4, t5⟩ := two_new w #[.slice a.1.ao a.1.n a.1.c, .int .i64 a.2] #[.slice b.1.ao b.1.n b.1.c, .int .i64 b.2] 85 85
    rw [← hV] at t1 t2 t3 t4 t5
    have s0 := t3 _ _ (unhide HC) hl
    have s1 : V.cell? ⟨w.heap.size, 0, none⟩ = some (.slice a.1.ao a.1.n a.1.c) := t1 0
    have s3 : V.cell? ⟨w.heap.size + 1, 0, none⟩ = some (.slice b.1.ao b.1.n b.1.c) := t2 0
    have HB := hide t4
    have HZ := hide t5
    clear t1 t2 t3 t4 t5 hV
    go_region_held3 (fun w' => w'.cell? ⟨hb, 0, none⟩ = some (.func (.func f) #[] #[]) ∧ w'.cell? ⟨w.heap.size, 0, none⟩ = some (.slice a.1.ao a.1.n a.1.c) ∧ w'.cell? ⟨w.heap.size + 1, 0, none⟩ = some (.slice b.1.ao b.1.n b.1.c))
      (first | exact ⟨s0, s1, s3⟩ | exact k3)
      (first | (refine (unhide HL _ ((unhide HB).trans ((Below.refl _ _).drew.mono (unhide HB).size))).2.mono ?_; rintro e w3 ⟨rfl, hb3⟩; have k3 := (⟨(hb3.cell (p := ⟨hb, 0, none⟩) (by show hb < V.heap.size; rw [unhide HZ]; omega)).trans s0, (hb3.cell (p := ⟨w.heap.size, 0, none⟩) (by show w.heap.size < V.heap.size; rw [unhide HZ]; omega)).trans s1, (hb3.cell (p := ⟨w.heap.size + 1, 0, none⟩) (by show w.heap.size + 1 < V.heap.size; rw [unhide HZ]; omega)).trans s3⟩ : _ ∧ _ ∧ _); have HB3 := hide hb3; clear hb3))
    go_wp2
    go_ret
    exact ⟨rfl, (unhide HB).trans (((Below.refl _ _).drew.trans (unhide HB3)).mono (unhide HB).size)⟩
  · have e : ahd lt a b = lt a.1 b.1 := by unfold ahd; rw [if_neg h]
    rw [e]
    have hz : ¬ (a.2 : Int) < (b.2 : Int) := by omega
    clear h e
    go_enter Try.func69, Try.ntmps69
    go_wp2
    clear hc
    refine gen_world ?_
    intro V hV
    obtain ⟨t1, t2, t3, t4, t5⟩ := two_new w #[.slice a.1.ao a.1.n a.1.c, .int .i64 a.2] #[.slice b.1.ao b.1.n b.1.c, .int .i64 b.2] 85 85
    rw [← hV] at t1 t2 t3 t4 t5
    have s0 := t3 _ _ (unhide HC) hl
    have s1 : V.cell? ⟨w.heap.size, 0, none⟩ = some (.slice a.1.ao a.1.n a.1.c) := t1 0
    have s3 : V.cell? ⟨w.heap.size + 1, 0, none⟩ = some (.slice b.1.ao b.1.n b.1.c) := t2 0
    have HB := hide t4
    have HZ := hide t5
    clear t1 t2 t3 t4 t5 hV
    go_region_held3 (fun w' => w'.cell? ⟨hb, 0, none⟩ = some (.func (.func f) #[] #[]) ∧ w'.cell? ⟨w.heap.size, 0, none⟩ = some (.slice a.1.ao a.1.n a.1.c) ∧ w'.cell? ⟨w.heap.size + 1, 0, none⟩ = some (.slice b.1.ao b.1.n b.1.c))
      (first | exact ⟨s0, s1, s3⟩ | exact k3)
      (first | (refine (unhide HL _ ((unhide HB).trans ((Below.refl _ _).drew.mono (unhide HB).size))).1.mono ?_; rintro e w3 ⟨rfl, hb3⟩; have k3 := (⟨(hb3.cell (p := ⟨hb, 0, none⟩) (by show hb < V.heap.size; rw [unhide HZ]; omega)).trans s0, (hb3.cell (p := ⟨w.heap.size, 0, none⟩) (by show w.heap.size < V.heap.size; rw [unhide HZ]; omega)).trans s1, (hb3.cell (p := ⟨w.heap.size + 1, 0, none⟩) (by show w.heap.size + 1 < V.heap.size; rw [unhide HZ]; omega)).trans s3⟩ : _ ∧ _ ∧ _); have HB3 := hide hb3; clear hb3))
    go_wp2
    go_ret
    exact ⟨rfl, (unhide HB).trans (((Below.refl _ _).drew.trans (unhide HB3)).mono (unhide HB).size)⟩

/-- a heap's own less as the order that it is -/
def LessV (C : Cx) (fv : Value) (lt : It → It → Bool) : Prop := ∃ f, fv = .func (.func f) #[] #[] ∧ Les C f lt
theorem LessV.ord {fv : Value} {lt : It → It → Bool} (h : LessV C fv lt) : Ord lt := by
  obtain ⟨f, _, h⟩ := h
  exact h.ord
theorem ahead_any {fv : Value} {lt : It → It → Bool} (L : LessV C fv lt) {w : World} {hb : Nat} (hc : w.cell? ⟨hb, 0, none⟩ = some fv) (hl : hb < w.heap.size) (a b : Nd) (za : C.Z a.1) (zb : C.Z b.1) (hK : C.K w) :
    Calls Try.prog 69 #[.pointer (some ⟨hb, 0, none⟩), .agg #[.slice a.1.ao a.1.n a.1.c, .int .i64 a.2], .agg #[.slice b.1.ao b.1.n b.1.c, .int .i64 b.2]] w fun e w' => e = .returned (.bool (ahd lt a b)) ∧ Below w.heap.size w w' := by
  obtain ⟨f, rfl, h⟩ := L
  exact ahead_fn h hc hl a b za zb hK
end Hpc
end Go.Proofs.Ytamlfmohalkemaa
