/- Layer 7: Len, Peek, Pop. -/
import Derived.Test.YtddfljlecnllaaaHt
namespace Go.Proofs.Ytddfljlecnllaaa
open Go.RowKit
namespace Hp
theorem len_nil (w : World) : Calls Try.prog 17 #[.pointer none] w fun e w' => e = .returned (.int .i64 0) ∧ w' = w := by
  go_enter Try.func17, Try.ntmps17
  go_wp2
  go_ret
  exact ⟨rfl, rfl⟩
theorem len_in {fv nv : Value} {w : World} {hb : Nat} {A : List Nd} {p : Nat} {F : Nat → Prop} (h : HIn w hb fv A p F nv) :
    Calls Try.prog 17 #[.pointer (some ⟨hb, 0, none⟩)] w fun e w' => e = .returned (.int .i64 A.length) ∧ w' = w := by
  obtain ⟨c0, c1, c2, cf, hl⟩ := hcells h.obj
  obtain ⟨ao, c, rfl⟩ := own_slice h.row
  clear h c0 c2
  go_enter Try.func17, Try.ntmps17
  go_wp2
  go_ret
  exact ⟨rfl, rfl⟩
theorem len_any {fv : Value} {lt : It → It → Bool} {w : World} {hb : Nat} {I : List It} {p : Nat} {F : Nat → Prop} (h : HAt w hb fv lt I p F) :
    Calls Try.prog 17 #[.pointer (some ⟨hb, 0, none⟩)] w fun e w' => e = .returned (.int .i64 I.length) ∧ w' = w := by
  obtain ⟨A, nv, h1, h2, h3⟩ := h
  rw [← h2.len]
  exact len_in h1
set_option maxRecDepth 100000 in
theorem peek_nil (w : World) : Calls Try.prog 32 #[.pointer none] w fun e w' => e = .returned (.tuple #[.agg #[.int .i64 0, .int .i64 0], .bool false]) ∧ Below w.heap.size w w' := by
  go_enter Try.func32, Try.ntmps32
  go_wp2_with (go_at_call 17; refine (len_nil _).mono ?_; rintro e w1 ⟨rfl, rfl⟩)
  refine gen_post ?_
  intro V hV
  have v0 : V.cell? ⟨w.heap.size, 0, none⟩ = some (.int .i64 0) := by rw [hV]; go_simp
  have v1 : V.cell? ⟨w.heap.size, 1, none⟩ = some (.int .i64 0) := by rw [hV]; go_simp
  have HE : Hid (Below w.heap.size w V) := by rw [hV]; unfold Hid; (repeat (first | exact Below.refl _ _ | refine Below.drew ?_ | refine Below.alloc ?_ (by first | (simp; done) | (simp; omega)) _ | refine Below.setCell ?_ (by first | (simp; done) | (simp; omega)) _))
  clear hV
  exact bodyPost_ret (v := .tuple #[.agg #[.int .i64 0, .int .i64 0], .bool false]) (by simp [results, Try.results32, go_sem, v0, v1]) rfl ⟨rfl, unhide HE⟩
set_option maxRecDepth 100000 in
theorem peek_none {fv nv : Value} {w : World} {hb : Nat} {p : Nat} {F : Nat → Prop} (h : HIn w hb fv [] p F nv) :
    Calls Try.prog 32 #[.pointer (some ⟨hb, 0, none⟩)] w fun e w' => e = .returned (.tuple #[.agg #[.int .i64 0, .int .i64 0], .bool false]) ∧ Below w.heap.size w w' := by
  have HL : Hid (∀ o : Obj, Calls Try.prog 17 #[.pointer (some ⟨hb, 0, none⟩)] (w.alloc o) fun e w' => e = .returned (.int .i64 0) ∧ w' = w.alloc o) := fun o => len_in (h.below ((Below.refl _ _).alloc (Nat.le_refl _) o))
  clear h
  go_enter Try.func32, Try.ntmps32
  go_wp2_with (go_at_call 17; refine (unhide HL _).mono ?_; rintro e w1 ⟨rfl, rfl⟩)
  refine gen_post ?_
  intro V hV
  have v0 : V.cell? ⟨w.heap.size, 0, none⟩ = some (.int .i64 0) := by rw [hV]; go_simp
  have v1 : V.cell? ⟨w.heap.size, 1, none⟩ = some (.int .i64 0) := by rw [hV]; go_simp
  have HE : Hid (Below w.heap.size w V) := by rw [hV]; unfold Hid; (repeat (first | exact Below.refl _ _ | refine Below.drew ?_ | refine Below.alloc ?_ (by first | (simp; done) | (simp; omega)) _ | refine Below.setCell ?_ (by first | (simp; done) | (simp; omega)) _))
  clear hV
  exact bodyPost_ret (v := .tuple #[.agg #[.int .i64 0, .int .i64 0], .bool false]) (by simp [results, Try.results32, go_sem, v0, v1]) rfl ⟨rfl, unhide HE⟩
set_option maxRecDepth 100000 in
theorem peek_some {fv : Value} {w : World} {hb g c : Nat} {A : List Nd} {p : Nat} {F : Nat → Prop} (h : HIn w hb fv A p F (.slice (some ⟨g, 0, none⟩) A.length c)) (h0 : 0 < A.length) :
    Calls Try.prog 32 #[.pointer (some ⟨hb, 0, none⟩)] w fun e w' => e = .returned (.tuple #[.agg #[.int .i64 (gd A 0).1.1, .int .i64 (gd A 0).1.2], .bool true]) ∧ Below w.heap.size w w' := by
  have HL : Hid (∀ o : Obj, Calls Try.prog 17 #[.pointer (some ⟨hb, 0, none⟩)] (w.alloc o) fun e w' => e = .returned (.int .i64 A.length) ∧ w' = w.alloc o) := fun o => len_in (h.below ((Below.refl _ _).alloc (Nat.le_refl _) o))
  obtain ⟨c0, c1, c2, cf, hl⟩ := hcells h.obj
  obtain ⟨d0, d1, d2, df⟩ := ncells h rfl
  have k0 : w.cell? ⟨g, 0, none⟩ = some (.int .i64 (gd A 0).1.1) := by simpa using d0 0 h0
  have k1 : w.cell? ⟨g, 1, none⟩ = some (.int .i64 (gd A 0).1.2) := by simpa using d1 0 h0
  have hg : g < w.heap.size := h.lt g (h.rowF g rfl)
  clear h d0 d1 d2 c0 c2
  generalize gd A 0 = x at *
  generalize A.length = n at *
  have hnz : ((n : Int) == 0) = false := by simp; omega
  have hn0 : (0 : Int) < (n : Int) := by omega
  go_enter Try.func32, Try.ntmps32
  go_wp2_with (go_at_call 17; refine (unhide HL _).mono ?_; rintro e w1 ⟨rfl, rfl⟩)
  refine gen_post ?_
  intro V hV
  have v0 : V.cell? ⟨w.heap.size, 0, none⟩ = some (.int .i64 x.1.1) := by rw [hV]; go_simp
  have v1 : V.cell? ⟨w.heap.size, 1, none⟩ = some (.int .i64 x.1.2) := by rw [hV]; go_simp
  have HE : Hid (Below w.heap.size w V) := by rw [hV]; unfold Hid; (repeat (first | exact Below.refl _ _ | refine Below.drew ?_ | refine Below.alloc ?_ (by first | (simp; done) | (simp; omega)) _ | refine Below.setCell ?_ (by first | (simp; done) | (simp; omega)) _))
  clear hV
  exact bodyPost_ret (v := .tuple #[.agg #[.int .i64 x.1.1, .int .i64 x.1.2], .bool true]) (by simp [results, Try.results32, go_sem, v0, v1]) rfl ⟨rfl, unhide HE⟩
end Hp
end Go.Proofs.Ytddfljlecnllaaa
