/- Contracts: the document's Starts and Ends at any text; the laws' wakes. -/
import Derived.Test.YtgaagbjbolfbjaaRsW
namespace Go.Proofs.Ytgaagbjbolfbjaa
open Go.RowKit
namespace Pt
open Cd

def rdP (l : List UInt8) : List (UInt8 → Bool) := (rd l).1.map adm
theorem rdP_len (l : List UInt8) : (rdP l).length ≤ 16 := by rw [rdP, List.length_map]; exact rd_len l
attribute [local go_sem ↓] load_as
attribute [local go_sem] ldP_new ldP_drew
theorem keep_pat {W W' : World} {g : Nat} {X : Array Value} {t : TypeId} (h : W.heap[g]? = some (.cells X t (0, 0))) (hb : Below W.heap.size W W') : W'.heap[g]? = some (.cells X t (0, 0)) := (hb.block g (Array.getElem?_eq_some_iff.1 h).1).trans h
theorem store_new (W : World) (X : Array Value) (hX : Sz65 X) (h1 : X.all (·.oneCell') = true) : (storeCells ⟨W.heap.size, 0, none⟩ X.toList 0).run Try.prog (W.alloc (.cells (patC []) 27)) = .ok () (W.alloc (.cells X 27)) := by
  have := store_pat _ _ _ _ _ (heap_alloc_last W (.cells (patC []) 27)) (patC_size [] (by decide)) hX h1
  rw [setRow_last] at this
  exact this
theorem sz_pat (l : List UInt8) : Sz65 (patC (rdP l)) := patC_size _ (rdP_len l)
theorem each_take (fs : List (UInt8 → Bool)) (l : List UInt8) : each fs (l.take fs.length) = each fs l := by
  induction fs generalizing l with
  | nil => cases l <;> rfl
  | cons f t ih =>
    cases l with
    | nil => rfl
    | cons b u =>
      rw [List.length_cons, List.take_succ_cons]
      simp only [each]
      rw [ih]
theorem texts_slice {W : World} {v : Value} {P : List (List UInt8)} (h : TextsAt W v P) : ∃ a cap, v = .slice a P.length cap := by
  rcases h with ⟨rfl, rfl⟩ | ⟨g, cap, rfl, _⟩
  · exact ⟨none, 0, rfl⟩
  · exact ⟨_, cap, rfl⟩
theorem refStarts_any (P : List (List UInt8)) (v : Value) (t : ByteArray) (w : World) (hP : ∀ p ∈ P, Pcs p) (h16 : P.length ≤ 16) (hv : TextsAt w v P) :
    Calls Try.prog 15 #[v, .string t] w fun e w' => e = .returned (.bool (startsB (P.map adm) t.data.toList)) ∧ Below w.heap.size w w' := by
  have hl : t.data.toList.length = t.size := by simp
  unfold startsB
  rw [each_take, hl, List.length_map]
  by_cases h : P.length ≤ t.size
  · rw [decide_eq_true h, Bool.true_and]
    rcases hv with ⟨rfl, rfl⟩ | ⟨g, cap, rfl, hg, hc⟩
    · refine (refStarts_none t w).mono ?_
      rintro e w' ⟨rfl, rfl⟩
      refine ⟨?_, Below.refl _ _⟩
      cases t.data.toList <;> rfl
    · exact refStarts_long P g cap t w hP h16 hg hc h
  · rw [decide_eq_false h, Bool.false_and]
    obtain ⟨a, cap, rfl⟩ := texts_slice hv
    refine (refStarts_short P.length a cap t w (by omega)).mono ?_
    rintro e w' ⟨rfl, rfl⟩
    exact ⟨rfl, Below.refl _ _⟩
theorem ends_starts (fs : List (UInt8 → Bool)) (l : List UInt8) (h : fs.length ≤ l.length) : startsB fs (l.drop (l.length - fs.length)) = endsB fs l := by
  unfold startsB endsB
  rw [List.take_of_length_le (by rw [List.length_drop]; omega), List.length_drop]
  have : fs.length ≤ l.length - (l.length - fs.length) := by omega
  simp [h, this]
set_option maxHeartbeats 1000000 in
set_option maxRecDepth 100000 in
theorem refEnds_any (P : List (List UInt8)) (v : Value) (t : ByteArray) (w : World) (hP : ∀ p ∈ P, Pcs p) (h16 : P.length ≤ 16) (hv : TextsAt w v P) (ht : t.size ≤ maxLen) :
    Calls Try.prog 17 #[v, .string t] w fun e w' => e = .returned (.bool (endsB (P.map adm) t.data.toList)) ∧ Below w.heap.size w w' := by
  unfold maxLen at ht
  have hl : t.data.toList.length = t.size := by simp
  obtain ⟨a, cap, rfl⟩ := texts_slice hv
  by_cases h : P.length ≤ t.size
  · have HS : Hid (Calls Try.prog 15 #[.slice a P.length cap, .string (t.extract (t.size - P.length) t.size)] w fun e w' => e = .returned (.bool (endsB (P.map adm) t.data.toList)) ∧ Below w.heap.size w w') := hide (by
      have := refStarts_any P _ (t.extract (t.size - P.length) t.size) w hP h16 hv
      rw [extract_str, str_list, List.take_of_length_le (by simp)] at this
      have e := ends_starts (P.map adm) t.data.toList (by rw [List.length_map]; omega)
      rw [List.length_map, hl] at e
      rw [e] at this
      rw [extract_str, List.take_of_length_le (by simp)]
      exact this)
    have hsub : (t.size : Int) - (P.length : Int) = ((t.size - P.length : Nat) : Int) := by omega
    have hw : IntKind.i64.wrap ((t.size : Int) - (P.length : Int)) = ((t.size - P.length : Nat) : Int) := by rw [hsub]; simp [IntKind.wrap, IntKind.signed, IntKind.bits]; omega
    have hmz : ((t.size - P.length : Nat) : Int) ≤ (t.size : Int) := by omega
    have hnl : ¬ (t.size : Int) < (P.length : Int) := by omega
    generalize endsB (P.map adm) t.data.toList = RES at *
    clear hv hP hl
    generalize P.length = n at *
    generalize t.size - n = m at *
    clear hsub
    go_enter Try.func17, Try.ntmps17
    go_wp2_with (go_at_call 15; refine (unhide HS).mono ?_; rintro e w1 ⟨rfl, hb1⟩; have HB1 := hide hb1; clear hb1)
    go_ret
    exact ⟨rfl, unhide HB1⟩
  · have e : endsB (P.map adm) t.data.toList = false := by unfold endsB; rw [List.length_map, hl, decide_eq_false h, Bool.false_and]
    rw [e]
    have hnl : (t.size : Int) < (P.length : Int) := by omega
    go_enter Try.func17, Try.ntmps17
    go_wp2
    go_ret
    exact ⟨rfl, Below.refl _ _⟩

theorem wk_len : (rdP [91, 94, 97, 101, 105, 111, 117, 93, 121]).length = 2 := by decide
theorem wk_yes : endsB (rdP [91, 94, 97, 101, 105, 111, 117, 93, 121]) [102, 108, 121] = true := by decide
theorem wk_no : endsB (rdP [91, 94, 97, 101, 105, 111, 117, 93, 121]) [100, 97, 121] = false := by decide
theorem wk_ok : (rd [91, 94, 97, 101, 105, 111, 117, 93, 121]).2 = 0 := by decide
set_option maxHeartbeats 1000000 in
set_option maxRecDepth 100000 in
theorem wakes_any (w : World) : Calls Try.prog 10 #[] w fun e w' => e = .returned (.bool true) ∧ Below w.heap.size w w' := by
  have HR : Hid (∀ W, Calls Try.prog 8 #[.string ⟨#[91, 94, 97, 101, 105, 111, 117, 93, 121]⟩] W fun e w' => e = .returned (.tuple #[.agg (patC (rdP [91, 94, 97, 101, 105, 111, 117, 93, 121])), .int .i64 0]) ∧ Below W.heap.size W w') := fun W => by
    have := read_any ⟨#[91, 94, 97, 101, 105, 111, 117, 93, 121]⟩ W
    unfold rdV at this
    rw [show (⟨#[91, 94, 97, 101, 105, 111, 117, 93, 121]⟩ : ByteArray).data.toList = [91, 94, 97, 101, 105, 111, 117, 93, 121] from rfl, wk_ok] at this
    exact this
  have HL : Hid (∀ W, Calls Try.prog 11 #[.agg (patC (rdP [91, 94, 97, 101, 105, 111, 117, 93, 121]))] W fun e w' => e = .returned (.int .i64 2) ∧ Below W.heap.size W w') := fun W => by
    have := len_any (rdP [91, 94, 97, 101, 105, 111, 117, 93, 121]) W
    rw [wk_len] at this
    exact this
  have HE1 : Hid (∀ W, Calls Try.prog 16 #[.agg (patC (rdP [91, 94, 97, 101, 105, 111, 117, 93, 121])), .string ⟨#[102, 108, 121]⟩] W fun e w' => e = .returned (.bool true) ∧ Below W.heap.size W w') := fun W => by
    have := ends_any (rdP [91, 94, 97, 101, 105, 111, 117, 93, 121]) ⟨#[102, 108, 121]⟩ W (rdP_len _) (by decide)
    rw [show (⟨#[102, 108, 121]⟩ : ByteArray).data.toList = [102, 108, 121] from rfl, wk_yes] at this
    exact this
  have HE2 : Hid (∀ W, Calls Try.prog 16 #[.agg (patC (rdP [91, 94, 97, 101, 105, 111, 117, 93, 121])), .string ⟨#[100, 97, 121]⟩] W fun e w' => e = .returned (.bool false) ∧ Below W.heap.size W w') := fun W => by
    have := ends_any (rdP [91, 94, 97, 101, 105, 111, 117, 93, 121]) ⟨#[100, 97, 121]⟩ W (rdP_len _) (by decide)
    rw [show (⟨#[100, 97, 121]⟩ : ByteArray).data.toList = [100, 97, 121] from rfl, wk_no] at this
    exact this
  have hX := sz_pat [91, 94, 97, 101, 105, 111, 117, 93, 121]
  have hstn := fun W => store_new W _ hX (patC_one _)
  have hz := zero_pat
  generalize patC (rdP [91, 94, 97, 101, 105, 111, 117, 93, 121]) = X at *
  generalize patC [] = Z at *
  go_enter Try.func10, Try.ntmps10
  go_wp2_with (go_at_call 8; refine (unhide HR _).mono ?_; rintro e w1 ⟨rfl, hb1⟩; have HB1 := hide hb1; clear hb1)
  refine (unhide HL _).mono ?_
  rintro e w2 ⟨rfl, hb2⟩
  have hg2 := keep_pat (heap_alloc_last w1 (.cells X 27)) hb2
  have hld2 := ldP_row hg2 hX
  have HG2 := hide hg2
  have HB2 := hide hb2
  clear hg2 hb2
  go_wp2_with fail
  refine (unhide HE1 _).mono ?_
  rintro e w3 ⟨rfl, hb3⟩
  have hg3 := keep_pat (unhide HG2) hb3
  have hld3 := ldP_row hg3 hX
  have HB3 := hide hb3
  clear hg3 hb3 hld2
  go_wp2_with fail
  refine (unhide HE2 _).mono ?_
  rintro e w4 ⟨rfl, hb4⟩
  have HB4 := hide hb4
  clear hb4 hld3
  go_wp2
  go_ret
  have b1 := unhide HB1
  have b2 := (b1.alloc b1.size (.cells X 27)).trans ((unhide HB2).mono (by have := b1.size; simp; omega))
  have b3 := b2.trans ((unhide HB3).mono b2.size)
  exact ⟨rfl, b3.trans ((unhide HB4).mono b3.size)⟩
end Pt
end Go.Proofs.Ytgaagbjbolfbjaa
