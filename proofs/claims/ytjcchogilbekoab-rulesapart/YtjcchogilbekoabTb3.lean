/- Contracts: stemOf, Fits, Apply and Undo of any rule, against the plain meaning (Ta). -/
import Derived.Test.YtjcchogilbekoabTb2
namespace Go.Proofs.Ytjcchogilbekoab
open Go.RowKit
namespace Pt
open Cd

/-- a word and whether there is one -/
def ansV : Option (List UInt8) → Value
  | some m => .tuple #[.string (str m), .bool true]
  | none => .tuple #[.string ⟨#[]⟩, .bool false]
theorem box7 {w w1 : World} {v0 v1 v2 v3 v4 v5 v6 : Value} {T : TypeId} (hb : Below (w.alloc (.cells #[v0, v1, v2, v3, v4, v5, v6] T)).heap.size (w.alloc (.cells #[v0, v1, v2, v3, v4, v5, v6] T)) w1) :
    w1.cell? ⟨w.heap.size, 0, none⟩ = some v0 ∧ w1.cell? ⟨w.heap.size, 1, none⟩ = some v1 ∧ w1.cell? ⟨w.heap.size, 2, none⟩ = some v2 ∧ w1.cell? ⟨w.heap.size, 3, none⟩ = some v3 ∧ w1.cell? ⟨w.heap.size, 4, none⟩ = some v4 ∧ w1.cell? ⟨w.heap.size, 5, none⟩ = some v5 ∧ w1.cell? ⟨w.heap.size, 6, none⟩ = some v6 := by
  have h : ∀ j u, (#[v0, v1, v2, v3, v4, v5, v6] : Array Value).toList[j]? = some u → w1.cell? ⟨w.heap.size, j, none⟩ = some u := fun j u hu => by
    have := new_cells w _ T j u hu
    rw [Go.WideShapes.add_plain, Nat.zero_add] at this
    exact (hb.cell (p := ⟨w.heap.size, j, none⟩) (by simp)).trans this
  exact ⟨h 0 _ rfl, h 1 _ rfl, h 2 _ rfl, h 3 _ rfl, h 4 _ rfl, h 5 _ rfl, h 6 _ rfl⟩
theorem rstr_ne {l : List UInt8} (h : l ≠ []) : ¬ (str l).toList = [] := fun e => h (by rw [ByteArray.toList_eq, str_list] at e; exact e)
theorem cut_len {k : Int} {w p st : List UInt8} (h : Ta.cut k w p = some st) : st.length + p.length = w.length := by
  obtain ⟨_, rfl⟩ := Ta.cut_some.1 h
  rw [Ta.put_len]

set_option maxHeartbeats 1000000 in
set_option maxRecDepth 100000 in
theorem stemOf_any (k fl : Int) (cr : Bool) (st ad cd : ByteArray) (ao : Option Addr) (nl nc : Nat) (t : ByteArray) (w : World) (ht : t.size ≤ 9223372036854775807) :
    Calls Try.prog 10 #[.agg #[.int .i64 k, .int .u16 fl, .bool cr, .string st, .string ad, .string cd, .slice ao nl nc], .string t] w fun e w' => e = .returned (ansV (Ta.stem (ruR k st ad cd) t.data.toList)) ∧ Below w.heap.size w w' := by
  have HC := hide (fun W => rcut_any k t st W ht)
  have HA := hide (fun W => admits_any k fl cr st ad cd ao nl nc t W ht)
  have e0 : Ta.stem (ruR k st ad cd) t.data.toList = (Ta.cut k t.data.toList st.data.toList).bind fun s => if s = [] ∨ admR k cd t.data.toList = false then none else some s := rfl
  rw [e0]
  clear e0
  generalize admR k cd t.data.toList = AD at *
  generalize Ta.cut k t.data.toList st.data.toList = CU at *
  cases CU with
  | none =>
    go_enter Try.func10, Try.ntmps10
    go_wp2_with (go_at_call 14; refine (unhide HC _).mono ?_; rintro e w1 ⟨⟨x, rfl, _⟩, rfl⟩)
    go_ret2
    exact ⟨rfl, (Below.refl _ w).alloc (Nat.le_refl _) _⟩
  | some s =>
    by_cases hs : s = []
    · subst hs
      go_enter Try.func10, Try.ntmps10
      go_wp2_with (go_at_call 14; refine (unhide HC _).mono ?_; rintro e w1 ⟨⟨x, rfl, hx⟩, rfl⟩; obtain rfl := hx _ rfl; rw [show str [] = ⟨#[]⟩ from rfl])
      go_ret2
      exact ⟨rfl, (Below.refl _ w).alloc (Nat.le_refl _) _⟩
    · have hn := rstr_ne hs
      have hn2 : (str s).toList.isEmpty = false := by cases h : (str s).toList with | nil => exact absurd h hn | cons _ _ => rfl
      cases AD with
      | false =>
        go_enter Try.func10, Try.ntmps10
        go_wp2_with (first | (go_at_call 14; refine (unhide HC _).mono ?_; rintro e w1 ⟨⟨x, rfl, hx⟩, rfl⟩; obtain rfl := hx _ rfl; clear hx) | (go_at_call 15; refine (unhide HA _).mono ?_; rintro e w2 ⟨rfl, hb2⟩; have HB2 := hide hb2; clear hb2))
        go_ret2
        exact ⟨by simp [ansV], ((Below.refl _ w).alloc (Nat.le_refl _) _).trans ((unhide HB2).mono (by simp))⟩
      | true =>
        go_enter Try.func10, Try.ntmps10
        go_wp2_with (first | (go_at_call 14; refine (unhide HC _).mono ?_; rintro e w1 ⟨⟨x, rfl, hx⟩, rfl⟩; obtain rfl := hx _ rfl; clear hx) | (go_at_call 15; refine (unhide HA _).mono ?_; rintro e w2 ⟨rfl, hb2⟩; have HB2 := hide hb2; clear hb2))
        go_ret2
        exact ⟨by simp [ansV, hs], ((Below.refl _ w).alloc (Nat.le_refl _) _).trans ((unhide HB2).mono (by simp))⟩
set_option maxHeartbeats 1000000 in
set_option maxRecDepth 100000 in
theorem fits_any (k fl : Int) (cr : Bool) (st ad cd : ByteArray) (ao : Option Addr) (nl nc : Nat) (t : ByteArray) (w : World) (ht : t.size ≤ 9223372036854775807) :
    Calls Try.prog 5 #[.agg #[.int .i64 k, .int .u16 fl, .bool cr, .string st, .string ad, .string cd, .slice ao nl nc], .string t] w fun e w' => e = .returned (.bool (Ta.fits (ruR k st ad cd) t.data.toList)) ∧ Below w.heap.size w w' := by
  have HT := hide (fun W => stemOf_any k fl cr st ad cd ao nl nc t W ht)
  unfold Ta.fits
  generalize Ta.stem (ruR k st ad cd) t.data.toList = S at *
  cases S with
  | none =>
    go_enter Try.func5, Try.ntmps5
    go_wp2_with (go_at_call 10; refine (unhide HT _).mono ?_; rintro e w2 ⟨rfl, hb2⟩; simp only [ansV]; have HB2 := hide hb2; clear hb2)
    go_ret
    exact ⟨rfl, ((Below.refl _ w).alloc (Nat.le_refl _) _).trans ((unhide HB2).mono (by simp))⟩
  | some s =>
    go_enter Try.func5, Try.ntmps5
    go_wp2_with (go_at_call 10; refine (unhide HT _).mono ?_; rintro e w2 ⟨rfl, hb2⟩; simp only [ansV]; have HB2 := hide hb2; clear hb2)
    go_ret
    exact ⟨rfl, ((Below.refl _ w).alloc (Nat.le_refl _) _).trans ((unhide HB2).mono (by simp))⟩
set_option maxHeartbeats 1000000 in
set_option maxRecDepth 100000 in
theorem app_any (k fl : Int) (cr : Bool) (st ad cd : ByteArray) (ao : Option Addr) (nl nc : Nat) (t : ByteArray) (w : World) (ht : t.size + st.size + ad.size ≤ 9223372036854775807) :
    Calls Try.prog 7 #[.agg #[.int .i64 k, .int .u16 fl, .bool cr, .string st, .string ad, .string cd, .slice ao nl nc], .string t] w fun e w' => e = .returned (ansV (Ta.app (ruR k st ad cd) t.data.toList)) ∧ Below w.heap.size w w' := by
  have HT := hide (fun W => stemOf_any k fl cr st ad cd ao nl nc t W (by omega))
  have e0 : Ta.app (ruR k st ad cd) t.data.toList = (Ta.stem (ruR k st ad cd) t.data.toList).map fun s => Ta.put k s ad.data.toList := rfl
  have hl : ∀ s, Ta.stem (ruR k st ad cd) t.data.toList = some s → s.length ≤ t.size := fun s h => by
    obtain ⟨_, e, _, _⟩ := Ta.stem_some.1 h
    have := congrArg List.length e
    rw [Ta.put_len] at this
    have e2 : t.data.toList.length = t.size := by simp
    omega
  rw [e0]
  clear e0
  generalize Ta.stem (ruR k st ad cd) t.data.toList = S at *
  cases S with
  | none =>
    clear hl
    go_enter Try.func7, Try.ntmps7
    go_wp2_with (go_at_call 10; refine (unhide HT _).mono ?_; rintro e w2 ⟨rfl, hb2⟩; simp only [ansV]; have HB2 := hide hb2; clear hb2)
    go_ret2
    exact ⟨rfl, ((Below.refl _ w).alloc (Nat.le_refl _) _).trans ((unhide HB2).mono (by simp))⟩
  | some s =>
    have hl2 := hl s rfl
    clear hl
    have HP := hide (fun W => rput_any k (str s) ad W (by rw [str_size]; omega))
    go_enter Try.func7, Try.ntmps7
    go_wp2_with (first | (go_at_call 10; refine (unhide HT _).mono ?_; rintro e w2 ⟨rfl, hb2⟩; simp only [ansV]; obtain ⟨c0, _, _, _, c4, _, _⟩ := box7 hb2; have HB2 := hide hb2; clear hb2) | (go_at_call 13; refine (unhide HP _).mono ?_; rintro e w3 ⟨rfl, rfl⟩))
    go_ret2
    exact ⟨by simp [ansV, str_list], ((Below.refl _ w).alloc (Nat.le_refl _) _).trans ((unhide HB2).mono (by simp))⟩
set_option maxHeartbeats 1000000 in
set_option maxRecDepth 100000 in
theorem und_any (k fl : Int) (cr : Bool) (st ad cd : ByteArray) (ao : Option Addr) (nl nc : Nat) (t : ByteArray) (w : World) (ht : t.size + st.size + ad.size ≤ 9223372036854775807) :
    Calls Try.prog 9 #[.agg #[.int .i64 k, .int .u16 fl, .bool cr, .string st, .string ad, .string cd, .slice ao nl nc], .string t] w fun e w' => e = .returned (ansV (Ta.und (ruR k st ad cd) t.data.toList)) ∧ Below w.heap.size w w' := by
  have HC := hide (fun W => rcut_any k t ad W (by omega))
  have e0 : Ta.und (ruR k st ad cd) t.data.toList = (Ta.cut k t.data.toList ad.data.toList).bind fun s => if Ta.fits (ruR k st ad cd) (Ta.put k s st.data.toList) = true then some (Ta.put k s st.data.toList) else none := rfl
  have hl : ∀ s, Ta.cut k t.data.toList ad.data.toList = some s → s.length ≤ t.size := fun s h => by
    have := cut_len h
    have e2 : t.data.toList.length = t.size := by simp
    omega
  rw [e0]
  clear e0
  generalize Ta.cut k t.data.toList ad.data.toList = S at *
  cases S with
  | none =>
    clear hl
    go_enter Try.func9, Try.ntmps9
    go_wp2_with (go_at_call 14; refine (unhide HC _).mono ?_; rintro e w1 ⟨⟨x, rfl, _⟩, rfl⟩)
    go_ret2
    exact ⟨rfl, (Below.refl _ w).alloc (Nat.le_refl _) _⟩
  | some s =>
    have hl2 := hl s rfl
    clear hl
    have HP := hide (fun W => rput_any k (str s) st W (by rw [str_size]; omega))
    have HF := hide (fun W => fits_any k fl cr st ad cd ao nl nc (str (Ta.put k s st.data.toList)) W (by
      rw [str_size, Ta.put_len]
      have e2 : st.data.toList.length = st.size := by simp
      omega))
    rw [str_list] at HF HP
    rw [Option.bind_some]
    generalize Ta.put k s st.data.toList = P at *
    cases hf : Ta.fits (ruR k st ad cd) P with
    | false =>
      rw [hf] at HF
      go_enter Try.func9, Try.ntmps9
      go_wp2_with (first | (go_at_call 14; refine (unhide HC _).mono ?_; rintro e w1 ⟨⟨x, rfl, hx⟩, rfl⟩; obtain rfl := hx _ rfl; clear hx) | (go_at_call 13; refine (unhide HP _).mono ?_; rintro e w3 ⟨rfl, rfl⟩) | (go_at_call 5; refine (unhide HF _).mono ?_; rintro e w2 ⟨rfl, hb2⟩; have HB2 := hide hb2; clear hb2))
      go_ret2
      exact ⟨by simp [ansV], ((Below.refl _ w).alloc (Nat.le_refl _) _).trans ((unhide HB2).mono (by simp))⟩
    | true =>
      rw [hf] at HF
      go_enter Try.func9, Try.ntmps9
      go_wp2_with (first | (go_at_call 14; refine (unhide HC _).mono ?_; rintro e w1 ⟨⟨x, rfl, hx⟩, rfl⟩; obtain rfl := hx _ rfl; clear hx) | (go_at_call 13; refine (unhide HP _).mono ?_; rintro e w3 ⟨rfl, rfl⟩) | (go_at_call 5; refine (unhide HF _).mono ?_; rintro e w2 ⟨rfl, hb2⟩; have HB2 := hide hb2; clear hb2))
      go_ret2
      exact ⟨by simp [ansV], ((Below.refl _ w).alloc (Nat.le_refl _) _).trans ((unhide HB2).mono (by simp))⟩
end Pt
end Go.Proofs.Ytjcchogilbekoab
