/- Layer 7: the order of a heap of items; ahead. -/
import Derived.Test.YtddfljlecnllaaaHp
import Derived.Deep.RegionHeld3
import Derived.Deep.Quiet
import Derived.BigQuiet
namespace Go.Proofs.Ytddfljlecnllaaa
open Go.RowKit
namespace Hp
abbrev It := Int × Int
abbrev Nd := It × Nat
def itV (x : It) : Value := .agg #[.int .i64 x.1, .int .i64 x.2]
def ndV (x : Nd) : Value := .agg #[.int .i64 x.1.1, .int .i64 x.1.2, .int .i64 x.2]
def rise_ (a b : It) : Bool := decide (a.1 < b.1)
def fall_ (a b : It) : Bool := decide (b.1 < a.1)
def none_ (_ _ : It) : Bool := false
theorem rise_ord : Ord rise_ := ⟨fun a b h => by simp [rise_] at *; omega, fun a b c h => by simp [rise_] at *; omega⟩
theorem fall_ord : Ord fall_ := ⟨fun a b h => by simp [fall_] at *; omega, fun a b c h => by simp [fall_] at *; omega⟩
theorem none_ord : Ord none_ := ⟨fun a b h => by simp [none_] at *, fun a b c h => by simp [none_] at *⟩
/-- a less that is handed in, and the order that it is -/
structure Les (f : FuncId) (lt : It → It → Bool) : Prop where
  ord : Ord lt
  nil : ∀ W : World, Sem.run Try.prog (binOp .eql 47 (.func (.func f) #[] #[]) .nilFunc) W = .ok (.bool false) W
  ent : ∀ (x y : Value) (W : World), Sem.run Try.prog (callFunc f #[x, y]) W = .ok (.enter f #[x, y]) W
  call : ∀ (a b : It) (W : World), Calls Try.prog f #[.agg #[.int .i64 a.1, .int .i64 a.2], .agg #[.int .i64 b.1, .int .i64 b.2]] W fun e w' => e = .returned (.bool (lt a b)) ∧ Below W.heap.size W w'
theorem les_item : Les 18 rise_ := by
  refine ⟨rise_ord, fun W => by kernel_rfl, fun x y W => by kernel_rfl, fun a b W => ?_⟩
  go_enter Try.func18, Try.ntmps18
  go_wp2
  go_ret
  exact ⟨rfl, by (repeat (first | exact Below.refl _ _ | refine Below.drew ?_ | refine Below.alloc ?_ (by first | (simp; done) | (simp; omega)) _ | refine Below.setCell ?_ (by first | (simp; done) | (simp; omega)) _))⟩
theorem wp_region_below {P : Program} {id : Nat} {Q : Exit → Act → World → Prop} {a : Act} {w : World} {l : List Oper} (hm : P.follows .mixedOrders = true) (hB : Region.lexB .any l.toArray = true)
    (h : wpQuiet P l.toArray (fun W' => Below w.heap.size w W') (fun a' => ∀ w', Below w.heap.size w w' → Q .normal a' w') l a) : (Code.region id l.toArray true).wp P Q a w :=
  wp_region_quiet (C := fun W' => Below w.heap.size w W') hm hB ((Below.refl _ w).drew) (by simpa using h)
theorem calls_keep {f : FuncId} {args : Array Value} {w0 W : World} {v : Value} (h : Calls Try.prog f args W fun e w' => e = .returned v ∧ Below W.heap.size W w') (hW : Below w0.heap.size w0 W) : Calls Try.prog f args W fun e w'' => e = .returned v ∧ Below w0.heap.size w0 w'' :=
  h.mono fun _ _ ⟨he, hb⟩ => ⟨he, hW.trans (hb.mono hW.size)⟩
theorem gen_world {P : Program} {c : Code} {Q : Exit → Act → World → Prop} {a : Act} {W : World} (h : ∀ V, V = W → Code.wp P c Q a V) : Code.wp P c Q a W := h W rfl
theorem cell_old {W : World} {o : Obj} {p : Addr} {v : Value} (h : W.cell? p = some v) (hl : p.block < W.heap.size) : (W.alloc o).cell? p = some v := by
  rw [World.cell?_of_block (w := W) (Below.heap_alloc W o p.block hl)]; exact h
theorem two_new (w : World) (A B : Array Value) (s t : TypeId) :
    (∀ k, ((w.alloc (.cells A s)).alloc (.cells B t)).cell? ⟨w.heap.size, k, none⟩ = A[k]?) ∧ (∀ k, ((w.alloc (.cells A s)).alloc (.cells B t)).cell? ⟨w.heap.size + 1, k, none⟩ = B[k]?) ∧ (∀ p v, w.cell? p = some v → p.block < w.heap.size → ((w.alloc (.cells A s)).alloc (.cells B t)).cell? p = some v) ∧ Below w.heap.size w ((w.alloc (.cells A s)).alloc (.cells B t)) ∧ ((w.alloc (.cells A s)).alloc (.cells B t)).heap.size = w.heap.size + 2 := by
  refine ⟨fun k => by simp, fun k => World.cell?_alloc_at _ _ _ _ (by simp), fun p v h hl => cell_old (cell_old h hl) (by simp; omega), ((Below.refl _ w).alloc (Nat.le_refl _) _).alloc (by simp) _, by simp⟩
set_option maxRecDepth 100000 in
set_option maxHeartbeats 1000000 in
theorem ahead_fn {f : FuncId} {lt : It → It → Bool} (L : Les f lt) {w : World} {hb : Nat} (hc : w.cell? ⟨hb, 0, none⟩ = some (.func (.func f) #[] #[])) (hl : hb < w.heap.size) (a b : Nd) :
    Calls Try.prog 45 #[.pointer (some ⟨hb, 0, none⟩), .agg #[.int .i64 a.1.1, .int .i64 a.1.2, .int .i64 a.2], .agg #[.int .i64 b.1.1, .int .i64 b.1.2, .int .i64 b.2]] w fun e w' => e = .returned (.bool (ahd lt a b)) ∧ Below w.heap.size w w' := by
  have hnil := L.nil
  have hent := L.ent
  have HL := hide L.call
  have HC := hide hc
  clear L
  by_cases h : a.2 < b.2
  · have e : ahd lt a b = !lt b.1 a.1 := by unfold ahd; rw [if_pos h]
    rw [e]
    have hz : (a.2 : Int) < (b.2 : Int) := by omega
    clear h e
    go_enter Try.func45, Try.ntmps45
    go_wp2
    clear hc
    refine gen_world ?_
    intro V hV
    obtain ⟨t1, t2, t3, t4, t5⟩ := two_new w #[.int .i64 a.1.1, .int .i64 a.1.2, .int .i64 a.2] #[.int .i64 b.1.1, .int .i64 b.1.2, .int .i64 b.2] 74 74
    rw [← hV] at t1 t2 t3 t4 t5
    have s0 := t3 _ _ (unhide HC) hl
    have s1 : V.cell? ⟨w.heap.size, 0, none⟩ = some (.int .i64 a.1.1) := t1 0
    have s2 : V.cell? ⟨w.heap.size, 1, none⟩ = some (.int .i64 a.1.2) := t1 1
    have s3 : V.cell? ⟨w.heap.size + 1, 0, none⟩ = some (.int .i64 b.1.1) := t2 0
    have s4 : V.cell? ⟨w.heap.size + 1, 1, none⟩ = some (.int .i64 b.1.2) := t2 1
    have HB := hide t4
    have HZ := hide t5
    clear t1 t2 t3 t4 t5 hV
    go_region_held3 (fun w' => w'.cell? ⟨hb, 0, none⟩ = some (.func (.func f) #[] #[]) ∧ w'.cell? ⟨w.heap.size, 0, none⟩ = some (.int .i64 a.1.1) ∧ w'.cell? ⟨w.heap.size, 1, none⟩ = some (.int .i64 a.1.2) ∧ w'.cell? ⟨w.heap.size + 1, 0, none⟩ = some (.int .i64 b.1.1) ∧ w'.cell? ⟨w.heap.size + 1, 1, none⟩ = some (.int .i64 b.1.2))
      (first | exact ⟨s0, s1, s2, s3, s4⟩ | exact k3)
      (first | (refine (unhide HL _ _ _).mono ?_; rintro e w3 ⟨rfl, hb3⟩; have k3 := (⟨(hb3.cell (p := ⟨hb, 0, none⟩) (by show hb < V.heap.size; rw [unhide HZ]; omega)).trans s0, (hb3.cell (p := ⟨w.heap.size, 0, none⟩) (by show w.heap.size < V.heap.size; rw [unhide HZ]; omega)).trans s1, (hb3.cell (p := ⟨w.heap.size, 1, none⟩) (by show w.heap.size < V.heap.size; rw [unhide HZ]; omega)).trans s2, (hb3.cell (p := ⟨w.heap.size + 1, 0, none⟩) (by show w.heap.size + 1 < V.heap.size; rw [unhide HZ]; omega)).trans s3, (hb3.cell (p := ⟨w.heap.size + 1, 1, none⟩) (by show w.heap.size + 1 < V.heap.size; rw [unhide HZ]; omega)).trans s4⟩ : _ ∧ _ ∧ _ ∧ _ ∧ _); have HB3 := hide hb3; clear hb3))
    go_wp2
    go_ret
    exact ⟨rfl, (unhide HB).trans (((Below.refl _ _).drew.trans (unhide HB3)).mono (unhide HB).size)⟩
  · have e : ahd lt a b = lt a.1 b.1 := by unfold ahd; rw [if_neg h]
    rw [e]
    have hz : ¬ (a.2 : Int) < (b.2 : Int) := by omega
    clear h e
    go_enter Try.func45, Try.ntmps45
    go_wp2
    clear hc
    refine gen_world ?_
    intro V hV
    obtain ⟨t1, t2, t3, t4, t5⟩ := two_new w #[.int .i64 a.1.1, .int .i64 a.1.2, .int .i64 a.2] #[.int .i64 b.1.1, .int .i64 b.1.2, .int .i64 b.2] 74 74
    rw [← hV] at t1 t2 t3 t4 t5
    have s0 := t3 _ _ (unhide HC) hl
    have s1 : V.cell? ⟨w.heap.size, 0, none⟩ = some (.int .i64 a.1.1) := t1 0
    have s2 : V.cell? ⟨w.heap.size, 1, none⟩ = some (.int .i64 a.1.2) := t1 1
    have s3 : V.cell? ⟨w.heap.size + 1, 0, none⟩ = some (.int .i64 b.1.1) := t2 0
    have s4 : V.cell? ⟨w.heap.size + 1, 1, none⟩ = some (.int .i64 b.1.2) := t2 1
    have HB := hide t4
    have HZ := hide t5
    clear t1 t2 t3 t4 t5 hV
    go_region_held3 (fun w' => w'.cell? ⟨hb, 0, none⟩ = some (.func (.func f) #[] #[]) ∧ w'.cell? ⟨w.heap.size, 0, none⟩ = some (.int .i64 a.1.1) ∧ w'.cell? ⟨w.heap.size, 1, none⟩ = some (.int .i64 a.1.2) ∧ w'.cell? ⟨w.heap.size + 1, 0, none⟩ = some (.int .i64 b.1.1) ∧ w'.cell? ⟨w.heap.size + 1, 1, none⟩ = some (.int .i64 b.1.2))
      (first | exact ⟨s0, s1, s2, s3, s4⟩ | exact k3)
      (first | (refine (unhide HL _ _ _).mono ?_; rintro e w3 ⟨rfl, hb3⟩; have k3 := (⟨(hb3.cell (p := ⟨hb, 0, none⟩) (by show hb < V.heap.size; rw [unhide HZ]; omega)).trans s0, (hb3.cell (p := ⟨w.heap.size, 0, none⟩) (by show w.heap.size < V.heap.size; rw [unhide HZ]; omega)).trans s1, (hb3.cell (p := ⟨w.heap.size, 1, none⟩) (by show w.heap.size < V.heap.size; rw [unhide HZ]; omega)).trans s2, (hb3.cell (p := ⟨w.heap.size + 1, 0, none⟩) (by show w.heap.size + 1 < V.heap.size; rw [unhide HZ]; omega)).trans s3, (hb3.cell (p := ⟨w.heap.size + 1, 1, none⟩) (by show w.heap.size + 1 < V.heap.size; rw [unhide HZ]; omega)).trans s4⟩ : _ ∧ _ ∧ _ ∧ _ ∧ _); have HB3 := hide hb3; clear hb3))
    go_wp2
    go_ret
    exact ⟨rfl, (unhide HB).trans (((Below.refl _ _).drew.trans (unhide HB3)).mono (unhide HB).size)⟩

theorem none_nil : ∀ W : World, Sem.run Try.prog (binOp .eql 47 .nilFunc .nilFunc) W = .ok (.bool true) W := fun W => by kernel_rfl
set_option maxRecDepth 100000 in
theorem ahead_nil {w : World} {hb : Nat} (hc : w.cell? ⟨hb, 0, none⟩ = some .nilFunc) (hl : hb < w.heap.size) (a b : Nd) :
    Calls Try.prog 45 #[.pointer (some ⟨hb, 0, none⟩), .agg #[.int .i64 a.1.1, .int .i64 a.1.2, .int .i64 a.2], .agg #[.int .i64 b.1.1, .int .i64 b.1.2, .int .i64 b.2]] w fun e w' => e = .returned (.bool (ahd none_ a b)) ∧ Below w.heap.size w w' := by
  have hnil := none_nil
  have e : ahd none_ a b = decide ((a.2 : Int) < (b.2 : Int)) := by unfold ahd none_; by_cases h : a.2 < b.2 <;> simp [h]
  rw [e]
  clear e
  go_enter Try.func45, Try.ntmps45
  go_wp2
  go_ret
  exact ⟨by first | rfl | simp, by (repeat (first | exact Below.refl _ _ | refine Below.drew ?_ | refine Below.alloc ?_ (by first | (simp; done) | (simp; omega)) _ | refine Below.setCell ?_ (by first | (simp; done) | (simp; omega)) _))⟩
/-- a heap's own less, nil or not, as the order that it is -/
def LessV (fv : Value) (lt : It → It → Bool) : Prop := (fv = .nilFunc ∧ lt = none_) ∨ ∃ f, fv = .func (.func f) #[] #[] ∧ Les f lt
theorem LessV.ord {fv : Value} {lt : It → It → Bool} (h : LessV fv lt) : Ord lt := by
  rcases h with ⟨_, rfl⟩ | ⟨f, _, h⟩
  · exact none_ord
  · exact h.ord
theorem ahead_any {fv : Value} {lt : It → It → Bool} (L : LessV fv lt) {w : World} {hb : Nat} (hc : w.cell? ⟨hb, 0, none⟩ = some fv) (hl : hb < w.heap.size) (a b : Nd) :
    Calls Try.prog 45 #[.pointer (some ⟨hb, 0, none⟩), .agg #[.int .i64 a.1.1, .int .i64 a.1.2, .int .i64 a.2], .agg #[.int .i64 b.1.1, .int .i64 b.1.2, .int .i64 b.2]] w fun e w' => e = .returned (.bool (ahd lt a b)) ∧ Below w.heap.size w w' := by
  rcases L with ⟨rfl, rfl⟩ | ⟨f, rfl, h⟩
  · exact ahead_nil hc hl a b
  · exact ahead_fn h hc hl a b
theorem lessV_item : LessV (.func (.func 18) #[] #[]) rise_ := .inr ⟨_, rfl, les_item⟩
end Hp
end Go.Proofs.Ytddfljlecnllaaa
