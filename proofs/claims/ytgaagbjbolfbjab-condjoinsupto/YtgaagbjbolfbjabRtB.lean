/- What the laws of layer 4 lean on: patterns in memory; their wakes. -/
import Derived.Test.YtgaagbjbolfbjabRaW
namespace Go.Proofs.Ytgaagbjbolfbjab
open Go.RowKit
namespace Pt
open Cd

def rdP (l : List UInt8) : List (UInt8 → Bool) := (rd l).1.map adm
theorem rdP_len (l : List UInt8) : (rdP l).length ≤ 16 := by rw [rdP, List.length_map]; exact rd_len l
attribute [local go_sem ↓] load_as
attribute [local go_sem] ldP_new ldP_drew
theorem keep_pat {W W' : World} {g : Nat} {X : Array Value} {t : TypeId} (h : W.heap[g]? = some (.cells X t (0, 0))) (hb : Below W.heap.size W W') : W'.heap[g]? = some (.cells X t (0, 0)) := (hb.block g (Array.getElem?_eq_some_iff.1 h).1).trans h
theorem store_new (W : World) (X : Array Value) (hX : Sz65 X) (h1 : X.all (·.oneCell') = true) : (storeCells ⟨W.heap.size, 0, none⟩ X.toList 0).run Try.prog (W.alloc (.cells (patC []) 31)) = .ok () (W.alloc (.cells X 31)) := by
  have := store_pat _ _ _ _ _ (heap_alloc_last W (.cells (patC []) 31)) (patC_size [] (by decide)) hX h1
  rw [setRow_last] at this
  exact this
theorem sz_pat (l : List UInt8) : Sz65 (patC (rdP l)) := patC_size _ (rdP_len l)
theorem wk_len : (rdP [91, 94, 97, 101, 105, 111, 117, 93, 121]).length = 2 := by decide
theorem wk_yes : endsB (rdP [91, 94, 97, 101, 105, 111, 117, 93, 121]) [102, 108, 121] = true := by decide
theorem wk_no : endsB (rdP [91, 94, 97, 101, 105, 111, 117, 93, 121]) [100, 97, 121] = false := by decide
theorem wk_ok : (rd [91, 94, 97, 101, 105, 111, 117, 93, 121]).2 = 0 := by decide
set_option maxHeartbeats 1000000 in
set_option maxRecDepth 100000 in
theorem wakes_any (w : World) : Calls Try.prog 6 #[] w fun e w' => e = .returned (.bool true) ∧ Below w.heap.size w w' := by
  have HR : Hid (∀ W, Calls Try.prog 7 #[.string ⟨#[91, 94, 97, 101, 105, 111, 117, 93, 121]⟩] W fun e w' => e = .returned (.tuple #[.agg (patC (rdP [91, 94, 97, 101, 105, 111, 117, 93, 121])), .int .i64 0]) ∧ Below W.heap.size W w') := fun W => by
    have := read_any ⟨#[91, 94, 97, 101, 105, 111, 117, 93, 121]⟩ W
    unfold rdV at this
    rw [show (⟨#[91, 94, 97, 101, 105, 111, 117, 93, 121]⟩ : ByteArray).data.toList = [91, 94, 97, 101, 105, 111, 117, 93, 121] from rfl, wk_ok] at this
    exact this
  have HL : Hid (∀ W, Calls Try.prog 12 #[.agg (patC (rdP [91, 94, 97, 101, 105, 111, 117, 93, 121]))] W fun e w' => e = .returned (.int .i64 2) ∧ Below W.heap.size W w') := fun W => by
    have := len_any (rdP [91, 94, 97, 101, 105, 111, 117, 93, 121]) W
    rw [wk_len] at this
    exact this
  have HE1 : Hid (∀ W, Calls Try.prog 14 #[.agg (patC (rdP [91, 94, 97, 101, 105, 111, 117, 93, 121])), .string ⟨#[102, 108, 121]⟩] W fun e w' => e = .returned (.bool true) ∧ Below W.heap.size W w') := fun W => by
    have := ends_any (rdP [91, 94, 97, 101, 105, 111, 117, 93, 121]) ⟨#[102, 108, 121]⟩ W (rdP_len _) (by decide)
    rw [show (⟨#[102, 108, 121]⟩ : ByteArray).data.toList = [102, 108, 121] from rfl, wk_yes] at this
    exact this
  have HE2 : Hid (∀ W, Calls Try.prog 14 #[.agg (patC (rdP [91, 94, 97, 101, 105, 111, 117, 93, 121])), .string ⟨#[100, 97, 121]⟩] W fun e w' => e = .returned (.bool false) ∧ Below W.heap.size W w') := fun W => by
    have := ends_any (rdP [91, 94, 97, 101, 105, 111, 117, 93, 121]) ⟨#[100, 97, 121]⟩ W (rdP_len _) (by decide)
    rw [show (⟨#[100, 97, 121]⟩ : ByteArray).data.toList = [100, 97, 121] from rfl, wk_no] at this
    exact this
  have hX := sz_pat [91, 94, 97, 101, 105, 111, 117, 93, 121]
  have hstn := fun W => store_new W _ hX (patC_one _)
  have hz := zero_pat
  generalize patC (rdP [91, 94, 97, 101, 105, 111, 117, 93, 121]) = X at *
  generalize patC [] = Z at *
  go_enter Try.func6, Try.ntmps6
  go_wp2_with (go_at_call 7; refine (unhide HR _).mono ?_; rintro e w1 ⟨rfl, hb1⟩; have HB1 := hide hb1; clear hb1)
  refine (unhide HL _).mono ?_
  rintro e w2 ⟨rfl, hb2⟩
  have hg2 := keep_pat (heap_alloc_last w1 (.cells X 31)) hb2
  have hld2 := ldP_row hg2 hX
  have HG2 := hide hg2
  have HB2 := hide hb2
  clear hg2 hb2
  go_wp2_with fail
  refine (unhide HE1 _).mono ?_
  rintro e w3 ⟨rfl, hb3⟩
  have hg3 := keep_pat (unhide HG2) hb3
  have hld3 := ldP_row hg3 hX
  have HB3 := hide hb3
  clear hg3 hb3 hld2
  go_wp2_with fail
  refine (unhide HE2 _).mono ?_
  rintro e w4 ⟨rfl, hb4⟩
  have HB4 := hide hb4
  clear hb4 hld3
  go_wp2
  go_ret
  have b1 := unhide HB1
  have b2 := (b1.alloc b1.size (.cells X 31)).trans ((unhide HB2).mono (by have := b1.size; simp; omega))
  have b3 := b2.trans ((unhide HB3).mono b2.size)
  exact ⟨rfl, b3.trans ((unhide HB4).mono b3.size)⟩
end Pt
end Go.Proofs.Ytgaagbjbolfbjab
