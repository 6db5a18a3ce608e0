/- Contracts: admits (the rule's pattern at the word's side) and stemOf, against the plain meaning (Ta). -/
import Derived.Test.YtjcchogilbekoabTb1
namespace Go.Proofs.Ytjcchogilbekoab
open Go.RowKit
namespace Pt
open Cd

/-- does the pattern admit the word's side? false, if it is none -/
def admR (k : Int) (c : ByteArray) (w : List UInt8) : Bool := decide ((rd c.data.toList).2 = 0) && (if k = 1 then startsB (rdP c.data.toList) w else endsB (rdP c.data.toList) w)
/-- a rule's plain meaning -/
def ruR (k : Int) (st ad cd : ByteArray) : Ta.Ru := ⟨k, st.data.toList, ad.data.toList, admR k cd⟩

attribute [local go_sem ↓] Pt.load_as
attribute [local go_sem] Pt.ldP_new Pt.ldP_drew
set_option maxHeartbeats 1000000 in
set_option maxRecDepth 100000 in
theorem admits_any (k fl : Int) (cr : Bool) (st ad cd : ByteArray) (ao : Option Addr) (nl nc : Nat) (t : ByteArray) (w : World) (ht : t.size ≤ maxLen) :
    Calls Try.prog 15 #[.agg #[.int .i64 k, .int .u16 fl, .bool cr, .string st, .string ad, .string cd, .slice ao nl nc], .string t] w fun e w' => e = .returned (.bool (admR k cd t.data.toList)) ∧ Below w.heap.size w w' := by
  have HRD : Hid (∀ W, Calls Try.prog 19 #[.string cd] W fun e w' => e = .returned (.tuple #[.agg (patC (rdP cd.data.toList)), .int .i64 ((rd cd.data.toList).2 : Nat)]) ∧ Below W.heap.size W w') := fun W => read_any cd W
  have HS := hide (fun W => starts_any (rdP cd.data.toList) t W (rdP_len _))
  have HE := hide (fun W => ends_any (rdP cd.data.toList) t W (rdP_len _) ht)
  have hX := sz_pat cd.data.toList
  have hstn := fun W => store_new W _ hX (patC_one _)
  have hz := zero_pat
  unfold admR
  generalize startsB (rdP cd.data.toList) t.data.toList = B1 at *
  generalize endsB (rdP cd.data.toList) t.data.toList = B2 at *
  generalize patC (rdP cd.data.toList) = X at *
  generalize patC [] = Z at *
  generalize (rd cd.data.toList).2 = E at *
  by_cases hE : E = 0
  · subst hE
    rw [decide_eq_true rfl, Bool.true_and]
    by_cases hk : k = 1
    · subst hk
      rw [if_pos rfl]
      go_enter Try.func15, Try.ntmps15
      go_wp2_with fail
      refine (unhide HRD _).mono ?_
      rintro e w1 ⟨rfl, hb1⟩
      have c0 : w1.cell? ⟨w.heap.size, 0, none⟩ = some (.int .i64 1) := (hb1.cell (p := ⟨w.heap.size, 0, none⟩) (by simp)).trans (new_cells w _ _ 0 _ rfl)
      have hlt : w.heap.size < w1.heap.size := by have := hb1.size; simp at this; omega
      have HBB : Hid (Below w.heap.size w w1) := hide (((Below.refl _ w).alloc (Nat.le_refl _) _).trans (hb1.mono (by simp)))
      clear hb1
      go_wp2_with fail
      refine (unhide HS _).mono ?_
      rintro e w2 ⟨rfl, hb2⟩
      have HB2 := hide hb2
      clear hb2
      go_wp2
      go_ret
      exact ⟨rfl, ((unhide HBB).alloc (by omega) _).trans ((unhide HB2).mono (by simp; omega))⟩
    · rw [if_neg hk]
      go_enter Try.func15, Try.ntmps15
      go_wp2_with fail
      refine (unhide HRD _).mono ?_
      rintro e w1 ⟨rfl, hb1⟩
      have c0 : w1.cell? ⟨w.heap.size, 0, none⟩ = some (.int .i64 k) := (hb1.cell (p := ⟨w.heap.size, 0, none⟩) (by simp)).trans (new_cells w _ _ 0 _ rfl)
      have hlt : w.heap.size < w1.heap.size := by have := hb1.size; simp at this; omega
      have HBB : Hid (Below w.heap.size w w1) := hide (((Below.refl _ w).alloc (Nat.le_refl _) _).trans (hb1.mono (by simp)))
      clear hb1
      go_wp2_with fail
      refine (unhide HE _).mono ?_
      rintro e w2 ⟨rfl, hb2⟩
      have HB2 := hide hb2
      clear hb2
      go_wp2
      go_ret
      exact ⟨rfl, ((unhide HBB).alloc (by omega) _).trans ((unhide HB2).mono (by simp; omega))⟩
  · rw [decide_eq_false hE, Bool.false_and]
    have hE2 : ¬ (E : Int) = 0 := by omega
    go_enter Try.func15, Try.ntmps15
    go_wp2_with fail
    refine (unhide HRD _).mono ?_
    rintro e w1 ⟨rfl, hb1⟩
    have c0 : w1.cell? ⟨w.heap.size, 0, none⟩ = some (.int .i64 k) := (hb1.cell (p := ⟨w.heap.size, 0, none⟩) (by simp)).trans (new_cells w _ _ 0 _ rfl)
    have hlt : w.heap.size < w1.heap.size := by have := hb1.size; simp at this; omega
    have HBB : Hid (Below w.heap.size w w1) := hide (((Below.refl _ w).alloc (Nat.le_refl _) _).trans (hb1.mono (by simp)))
    clear hb1
    go_wp2
    go_ret
    exact ⟨rfl, (unhide HBB).alloc (by omega) _⟩
end Pt
end Go.Proofs.Ytjcchogilbekoab
