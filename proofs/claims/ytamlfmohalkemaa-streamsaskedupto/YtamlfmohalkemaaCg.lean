/- Layer 8, a heap of cursors: Len, Peek. -/
import Derived.Test.YtamlfmohalkemaaCf
namespace Go.Proofs.Ytamlfmohalkemaa
open Go.RowKit
namespace Hpc
open Hp
variable {C : Cx}
theorem len_in {fv nv : Value} {w : World} {hb : Nat} {A : List Nd} {p : Nat} {F : Nat → Prop} (h : HIn C w hb fv A p F nv) :
    Calls Try.prog 32 #[.pointer (some ⟨hb, 0, none⟩)] w fun e w' => e = .returned (.int .i64 A.length) ∧ w' = w := by
  obtain ⟨c0, c1, c2, cf, hl⟩ := hcells h.obj
  obtain ⟨ao, c, rfl⟩ := own_slice h.row
  clear h c0 c2
  go_enter Try.func32, Try.ntmps32
  go_wp2
  go_ret
  exact ⟨rfl, rfl⟩
theorem len_any {fv : Value} {lt : It → It → Bool} {w : World} {hb : Nat} {I : List It} {p : Nat} {F : Nat → Prop} (h : HAt C w hb fv lt I p F) :
    Calls Try.prog 32 #[.pointer (some ⟨hb, 0, none⟩)] w fun e w' => e = .returned (.int .i64 I.length) ∧ w' = w := by
  obtain ⟨A, nv, h1, h2, h3⟩ := h
  rw [← h2.len]
  exact len_in h1
set_option maxRecDepth 100000 in
theorem peek_none {fv nv : Value} {w : World} {hb : Nat} {p : Nat} {F : Nat → Prop} (h : HIn C w hb fv [] p F nv) :
    Calls Try.prog 44 #[.pointer (some ⟨hb, 0, none⟩)] w fun e w' => e = .returned (.tuple #[.slice none 0 0, .bool false]) ∧ w' = w := by
  have HL : Hid (Calls Try.prog 32 #[.pointer (some ⟨hb, 0, none⟩)] w fun e w' => e = .returned (.int .i64 0) ∧ w' = w) := len_in h
  clear h
  go_enter Try.func44, Try.ntmps44
  go_wp2_with (go_at_call 32; refine (unhide HL).mono ?_; rintro e w1 ⟨rfl, hw1⟩; have hw2 := hw1.symm; subst hw2; clear hw1)
  exact bodyPost_ret (v := .tuple #[.slice none 0 0, .bool false]) (by simp [results, Try.results44, go_sem]) rfl ⟨rfl, rfl⟩
set_option maxRecDepth 100000 in
theorem peek_some {fv : Value} {w : World} {hb g c : Nat} {A : List Nd} {p : Nat} {F : Nat → Prop} (h : HIn C w hb fv A p F (.slice (some ⟨g, 0, none⟩) A.length c)) (h0 : 0 < A.length) :
    Calls Try.prog 44 #[.pointer (some ⟨hb, 0, none⟩)] w fun e w' => e = .returned (.tuple #[.slice (gd A 0).1.ao (gd A 0).1.n (gd A 0).1.c, .bool true]) ∧ w' = w := by
  have HL : Hid (Calls Try.prog 32 #[.pointer (some ⟨hb, 0, none⟩)] w fun e w' => e = .returned (.int .i64 A.length) ∧ w' = w) := len_in h
  obtain ⟨c0, c1, c2, cf, hl⟩ := hcells h.obj
  obtain ⟨d0, d1, df⟩ := ncells h rfl
  have k0 : w.cell? ⟨g, 0, none⟩ = some (.slice (gd A 0).1.ao (gd A 0).1.n (gd A 0).1.c) := by simpa using d0 0 h0
  clear h d0 d1 c0 c2
  generalize gd A 0 = x at *
  generalize A.length = n at *
  have hnz : ((n : Int) == 0) = false := by simp; omega
  have hn0 : (0 : Int) < (n : Int) := by omega
  go_enter Try.func44, Try.ntmps44
  go_wp2_with (go_at_call 32; refine (unhide HL).mono ?_; rintro e w1 ⟨rfl, hw1⟩; have hw2 := hw1.symm; subst hw2; clear hw1)
  exact bodyPost_ret (v := .tuple #[.slice x.1.ao x.1.n x.1.c, .bool true]) (by simp [results, Try.results44, go_sem]) rfl ⟨rfl, rfl⟩
/-- what is least, without taking it -/
theorem HAt.top {fv : Value} {lt : It → It → Bool} (L : LessV C fv lt) {w : World} {hb : Nat} {I J : List It} {x : It} {p : Nat} {F : Nat → Prop} (h : HAt C w hb fv lt I p F) (hp : pop lt I = some (x, J)) :
    Calls Try.prog 44 #[.pointer (some ⟨hb, 0, none⟩)] w fun e w' => e = .returned (.tuple #[.slice x.ao x.n x.c, .bool true]) ∧ w' = w := by
  obtain ⟨A, nv, hin, hbag, hsh⟩ := h
  have hAl := hbag.len
  obtain ⟨ao, cap, rfl⟩ := own_slice hin.row
  have hA0 : 0 < A.length := by
    rw [hAl]
    cases I with
    | nil => simp [pop] at hp
    | cons y t => simp
  obtain ⟨g, rfl⟩ : ∃ g, ao = some ⟨g, 0, none⟩ := by
    rcases hin.row.2 with ⟨e1, e2⟩ | ⟨g, c, cur, e1, _⟩
    · omega
    · injection e1 with e1 _ _; exact ⟨g, e1⟩
  have q := peek_some hin hA0
  obtain ⟨a, T, rfl⟩ : ∃ a T, A = a :: T := by cases A with | nil => simp at hA0 | cons a T => exact ⟨a, T, rfl⟩
  obtain ⟨J', e1, e2⟩ := hbag.pop L.ord (fun y hy => by
    obtain ⟨i, hi⟩ := List.mem_iff_getElem?.1 hy
    have := hsh.root L.ord i (List.getElem?_eq_some_iff.1 hi).1
    rw [gd_some hi] at this
    exact this)
  rw [hp] at e1
  injection e1 with e1
  injection e1 with e1 e3
  rw [e1]
  exact q
end Hpc
end Go.Proofs.Ytamlfmohalkemaa
