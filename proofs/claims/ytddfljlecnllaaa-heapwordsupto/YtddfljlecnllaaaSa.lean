/- Layer 7, a heap of texts: the order; ahead. -/
import Derived.Test.YtddfljlecnllaaaKa
import Derived.Sort.Walk0
import Derived.Laws.Strings
namespace Go.Proofs.Ytddfljlecnllaaa
open Go.RowKit
namespace Hpt
open Hp
def Hid (p : Prop) : Prop := p
theorem hide {p : Prop} (h : p) : Hid p := h
theorem unhide {p : Prop} (h : Hid p) : p := h
abbrev It := ByteArray
abbrev Nd := It × Nat
/-- texts by their bytes -/
def word_ (a b : It) : Bool := Op.bytesLess a.toList b.toList
theorem bl_asym (a b : List UInt8) (h : Op.bytesLess a b = true) : Op.bytesLess b a = false := by
  rw [Go.Proofs.bytesLess_eq] at h ⊢
  simp only [decide_eq_true_eq, decide_eq_false_iff_not] at h ⊢
  exact List.lt_asymm h
theorem bl_cot (a b c : List UInt8) (h : Op.bytesLess a b = true) : Op.bytesLess a c = true ∨ Op.bytesLess c b = true := by
  rw [Go.Proofs.bytesLess_eq] at h
  rw [Go.Proofs.bytesLess_eq, Go.Proofs.bytesLess_eq]
  simp only [decide_eq_true_eq] at h ⊢
  by_cases k : a < c
  · exact .inl k
  · exact .inr (List.lt_of_le_of_lt (List.not_lt.1 k) h)
theorem word_ord : Ord word_ := ⟨fun _ _ h => bl_asym _ _ h, fun _ _ _ h => bl_cot _ _ _ h⟩
/-- a less that is handed in, and the order that it is -/
structure Les (f : FuncId) (lt : It → It → Bool) : Prop where
  ord : Ord lt
  nil : ∀ W : World, Sem.run Try.prog (binOp .eql 77 (.func (.func f) #[] #[]) .nilFunc) W = .ok (.bool false) W
  ent : ∀ (x y : Value) (W : World), Sem.run Try.prog (callFunc f #[x, y]) W = .ok (.enter f #[x, y]) W
  call : ∀ (a b : It) (W : World), Calls Try.prog f #[.string a, .string b] W fun e w' => e = .returned (.bool (lt a b)) ∧ Below W.heap.size W w'
theorem les_word : Les 40 word_ := by
  refine ⟨word_ord, fun W => by kernel_rfl, fun x y W => by kernel_rfl, fun a b W => ?_⟩
  go_enter Try.func40, Try.ntmps40
  go_wp2
  go_ret
  exact ⟨rfl, by (repeat (first | exact Below.refl _ _ | refine Below.drew ?_ | refine Below.alloc ?_ (by first | (simp; done) | (simp; omega)) _ | refine Below.setCell ?_ (by first | (simp; done) | (simp; omega)) _))⟩
set_option maxRecDepth 100000 in
set_option maxHeartbeats 1000000 in
theorem ahead_fn {f : FuncId} {lt : It → It → Bool} (L : Les f lt) {w : World} {hb : Nat} (hc : w.cell? ⟨hb, 0, none⟩ = some (.func (.func f) #[] #[])) (hl : hb < w.heap.size) (a b : Nd) :
    Calls Try.prog 46 #[.pointer (some ⟨hb, 0, none⟩), .agg #[.string a.1, .int .i64 a.2], .agg #[.string b.1, .int .i64 b.2]] w fun e w' => e = .returned (.bool (ahd lt a b)) ∧ Below w.heap.size w w' := by
  have hnil := L.nil
  have hent := L.ent
  have HL := hide L.call
  have HC := hide hc
  clear L
  by_cases h : a.2 < b.2
  · have e : ahd lt a b = !lt b.1 a.1 := by unfold ahd; rw [if_pos h]
    rw [e]
    have hz : (a.2 : Int) < (b.2 : Int) := by omega
    clear h e
    go_enter Try.func46, Try.ntmps46
    go_wp2
    clear hc
    refine gen_world ?_
    intro V hV
    obtain ⟨t1, t2, t3, t4, t5⟩ := two_new w #[.string a.1, .int .i64 a.2] #[.string b.1, .int .i64 b.2] 82 82
    rw [← hV] at t1 t2 t3 t4 t5
    have s0 := t3 _ _ (unhide HC) hl
    have s1 : V.cell? ⟨w.heap.size, 0, none⟩ = some (.string a.1) := t1 0
    have s3 : V.cell? ⟨w.heap.size + 1, 0, none⟩ = some (.string b.1) := t2 0
    have HB := hide t4
    have HZ := hide t5
    clear t1 t2 t3 t4 t5 hV
    go_region_held3 (fun w' => w'.cell? ⟨hb, 0, none⟩ = some (.func (.func f) #[] #[]) ∧ w'.cell? ⟨w.heap.size, 0, none⟩ = some (.string a.1) ∧ w'.cell? ⟨w.heap.size + 1, 0, none⟩ = some (.string b.1))
      (first | exact ⟨s0, s1, s3⟩ | exact k3)
      (first | (refine (unhide HL _ _ _).mono ?_; rintro e w3 ⟨rfl, hb3⟩; have k3 := (⟨(hb3.cell (p := ⟨hb, 0, none⟩) (by show hb < V.heap.size; rw [unhide HZ]; omega)).trans s0, (hb3.cell (p := ⟨w.heap.size, 0, none⟩) (by show w.heap.size < V.heap.size; rw [unhide HZ]; omega)).trans s1, (hb3.cell (p := ⟨w.heap.size + 1, 0, none⟩) (by show w.heap.size + 1 < V.heap.size; rw [unhide HZ]; omega)).trans s3⟩ : _ ∧ _ ∧ _); have HB3 := hide hb3; clear hb3))
    go_wp2
    go_ret
    exact ⟨rfl, (unhide HB).trans (((Below.refl _ _).drew.trans (unhide HB3)).mono (unhide HB).size)⟩
  · have e : ahd lt a b = lt a.1 b.1 := by unfold ahd; rw [if_neg h]
    rw [e]
    have hz : ¬ (a.2 : Int) < (b.2 : Int) := by omega
    clear h e
    go_enter Try.func46, Try.ntmps46
    go_wp2
    clear hc
    refine gen_world ?_
    intro V hV
    obtain ⟨t1, t2, t3, t4, t5⟩ := two_new w #[.string a.1, .int .i64 a.2] #[.string b.1, .int .i64 b.2] 82 82
    rw [← hV] at t1 t2 t3 t4 t5
    have s0 := t3 _ _ (unhide HC) hl
    have s1 : V.cell? ⟨w.heap.size, 0, none⟩ = some (.string a.1) := t1 0
    have s3 : V.cell? ⟨w.heap.size + 1, 0, none⟩ = some (.string b.1) := t2 0
    have HB := hide t4
    have HZ := hide t5
    clear t1 t2 t3 t4 t5 hV
    go_region_held3 (fun w' => w'.cell? ⟨hb, 0, none⟩ = some (.func (.func f) #[] #[]) ∧ w'.cell? ⟨w.heap.size, 0, none⟩ = some (.string a.1) ∧ w'.cell? ⟨w.heap.size + 1, 0, none⟩ = some (.string b.1))
      (first | exact ⟨s0, s1, s3⟩ | exact k3)
      (first | (refine (unhide HL _ _ _).mono ?_; rintro e w3 ⟨rfl, hb3⟩; have k3 := (⟨(hb3.cell (p := ⟨hb, 0, none⟩) (by show hb < V.heap.size; rw [unhide HZ]; omega)).trans s0, (hb3.cell (p := ⟨w.heap.size, 0, none⟩) (by show w.heap.size < V.heap.size; rw [unhide HZ]; omega)).trans s1, (hb3.cell (p := ⟨w.heap.size + 1, 0, none⟩) (by show w.heap.size + 1 < V.heap.size; rw [unhide HZ]; omega)).trans s3⟩ : _ ∧ _ ∧ _); have HB3 := hide hb3; clear hb3))
    go_wp2
    go_ret
    exact ⟨rfl, (unhide HB).trans (((Below.refl _ _).drew.trans (unhide HB3)).mono (unhide HB).size)⟩

/-- a heap's own less as the order that it is -/
def LessV (fv : Value) (lt : It → It → Bool) : Prop := ∃ f, fv = .func (.func f) #[] #[] ∧ Les f lt
theorem LessV.ord {fv : Value} {lt : It → It → Bool} (h : LessV fv lt) : Ord lt := by
  obtain ⟨f, _, h⟩ := h
  exact h.ord
theorem ahead_any {fv : Value} {lt : It → It → Bool} (L : LessV fv lt) {w : World} {hb : Nat} (hc : w.cell? ⟨hb, 0, none⟩ = some fv) (hl : hb < w.heap.size) (a b : Nd) :
    Calls Try.prog 46 #[.pointer (some ⟨hb, 0, none⟩), .agg #[.string a.1, .int .i64 a.2], .agg #[.string b.1, .int .i64 b.2]] w fun e w' => e = .returned (.bool (ahd lt a b)) ∧ Below w.heap.size w w' := by
  obtain ⟨f, rfl, h⟩ := L
  exact ahead_fn h hc hl a b
theorem lessV_word : LessV (.func (.func 40) #[] #[]) word_ := ⟨_, rfl, les_word⟩
end Hpt
end Go.Proofs.Ytddfljlecnllaaa
