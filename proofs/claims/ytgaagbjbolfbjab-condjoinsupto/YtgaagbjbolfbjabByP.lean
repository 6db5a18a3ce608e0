/- Lists of bytes that a call owns; an item's list. -/
import Derived.Test.YtgaagbjbolfbjabRtB
import Derived.Maps.AppendAt
import Derived.Laws.IdiomStrings
import Derived.Laws.BytesArg
namespace Go.Proofs.Ytgaagbjbolfbjab
open Go.RowKit
namespace Pt
open Cd

def byts (l : List UInt8) : List Value := l.map fun b => Value.int .u8 (b.toNat : Int)
theorem byts_snoc (l : List UInt8) (c : UInt8) : byts l ++ [.int .u8 (c.toNat : Int)] = byts (l ++ [c]) := by simp [byts]
theorem infoB : (Try.prog.info? 5).map (fun i => (i.zero, i.size, i.bytes)) = some (some (.int .u8 0), 1, 1) := by kernel_rfl
/-- a list of bytes in a block of its own, or nil -/
def Own (n : Nat) (W : World) (v : Value) (L : List UInt8) : Prop := W.ownsRow n 5 1 v L.length (byts L)
theorem own_push {W : World} {B : Nat} {v : Value} {L : List UInt8} {c : UInt8} {x : Int} (hx : (c.toNat : Int) = x) (h : W.ownsRow B 5 1 v (L.length + 1) (byts L ++ [.int .u8 x])) : Own B W v (L ++ [c]) := by
  rw [← hx, byts_snoc] at h
  unfold Own
  rw [List.length_append]
  exact h
theorem own_nil (n : Nat) (W : World) : Own n W (.slice none 0 0) [] := World.ownsRow_nil _ _ _ _
theorem own_made (w : World) : Own w.heap.size (w.alloc (.cells #[] 5)) (.slice (some ⟨w.heap.size, 0, none⟩) 0 0) [] := World.ownsRow_made w #[] 0 (Nat.le_refl _) (by simp) rfl
theorem own_cells {w : World} {B : Nat} {v : Value} {L : List UInt8} (h : Own B w v L) (h0 : 0 < L.length) :
    ∃ g cap, v = .slice (some ⟨g, 0, none⟩) L.length cap ∧ g < w.heap.size ∧ ∀ j x, L[j]? = some x → w.cell? ⟨g, j, none⟩ = some (.int .u8 (x.toNat : Int)) := by
  have hc : w.ownsRow B 5 1 v L.length (byts L) := h
  obtain ⟨hl, ⟨rfl, h1⟩ | ⟨g, cap, cur, rfl, hg, hh, hc1, hm, hsz, htk⟩⟩ := h
  · omega
  · refine ⟨g, cap, rfl, (Array.getElem?_eq_some_iff.1 hh).1, fun j x hj => ?_⟩
    have := hc.cells (g := g) rfl j (.int .u8 (x.toNat : Int)) (by simp [byts, hj])
    rwa [add_off] at this
theorem own_slice {w : World} {B : Nat} {v : Value} {L : List UInt8} (h : Own B w v L) : ∃ a cap, v = .slice a L.length cap := by
  obtain ⟨_, ⟨e, e2⟩ | ⟨g, cap, cur, e, _⟩⟩ := h
  · exact ⟨none, 0, by rw [e, e2]⟩
  · exact ⟨_, cap, e⟩
theorem conv_own {w : World} {B : Nat} {v : Value} {L : List UInt8} (h : Own B w v L) : (convert 53 9 v).run Try.prog w = .ok (.string (str L)) w := by
  by_cases h0 : 0 < L.length
  · obtain ⟨g, cap, rfl, _, hcell⟩ := own_cells h h0
    exact run_convert_bytes_back w 53 9 5 ⟨g, 0, none⟩ cap L Try.underlying53 Try.underlying5 Try.underlying9 (fun j hj => by rw [add_off]; exact hcell j _ (List.getElem?_eq_getElem hj))
  · have : L = [] := List.eq_nil_of_length_eq_zero (by omega)
    subst this
    obtain ⟨hl, ⟨rfl, h1⟩ | ⟨g, cap, cur, rfl, hg, hh, hc1, hm, hsz, htk⟩⟩ := h
    · exact run_convert_bytes_nil w 53 5 Try.underlying53 Try.underlying5 0 0 9 Try.underlying9
    · exact run_convert_bytes_back w 53 9 5 ⟨g, 0, none⟩ cap [] Try.underlying53 Try.underlying5 Try.underlying9 (fun j hj => absurd hj (by simp))
theorem Own.below {n : Nat} {W W' : World} {v : Value} {L : List UInt8} (h : Own n W v L) (hb : Below W.heap.size W W') : Own n W' v L := owns_below h hb
/-- the bytes below k of a set -/
def lsoK (f : UInt8 → Bool) (k : Nat) : List UInt8 := ((List.range k).map bt).filter f
theorem lsoK_yes {f : UInt8 → Bool} {k : Nat} (h : f (bt k) = true) : lsoK f (k + 1) = lsoK f k ++ [bt k] := by
  simp [lsoK, List.range_succ, h]
theorem lsoK_no {f : UInt8 → Bool} {k : Nat} (h : f (bt k) = false) : lsoK f (k + 1) = lsoK f k := by
  simp [lsoK, List.range_succ, h]
theorem lsoK_len (f : UInt8 → Bool) (k : Nat) : (lsoK f k).length ≤ k := by
  have := List.length_filter_le f ((List.range k).map bt)
  simp at this
  exact this
theorem lsoK_full (f : UInt8 → Bool) {k : Nat} (h : k = 256) : lsoK f k = lso f := by rw [h]; rfl
theorem btz {k : Nat} (h : k < 256) : ((bt k).toNat : Int) = (k : Int) := by rw [bt_toNat]; omega
theorem u8wrap {k : Nat} (h : k < 256) : IntKind.u8.wrap (k : Int) = (k : Int) := by rw [IntKind.wrap_u8]; omega

set_option maxHeartbeats 1000000 in
set_option maxRecDepth 100000 in
theorem list_any (f : UInt8 → Bool) (w : World) :
    Calls Try.prog 28 #[.agg (itC f)] w fun e w' => e = .returned (.string (str (lso f))) ∧ Below w.heap.size w w' := by
  obtain ⟨i0, hi, hz0, hz1, hz2⟩ := info_parts infoB
  have HH : Hid (∀ k W, k < 256 → Calls Try.prog 29 #[.agg (itC f), .int .u8 (k : Nat)] W fun e w' => e = .returned (.bool (f (bt k))) ∧ w' = W.alloc (.cells (itC f) 28)) := fun k W hk => by
    have := has_any f (bt k) W
    rw [btz hk] at this
    exact this
  obtain ⟨x0, x1, x2, x3, hC⟩ := cells_four f
  rw [hC] at HH ⊢
  clear hC
  go_enter Try.func28, Try.ntmps28
  go_wp2
  go_loopw [3, 5] (fun s3 s5 wr => ∃ (k : Nat) (v : Value), v = s3 ∧ s5 = .int .i64 k ∧ k ≤ 256 ∧ Hid (Own (w.heap.size + 1) wr v (lsoK f k)) ∧ Hid (wr.heap[w.heap.size]? = some (.cells #[.int .u64 x0, .int .u64 x1, .int .u64 x2, .int .u64 x3] 28 (0, 0))) ∧ Hid (Below w.heap.size w wr)) (fun _ i _ => 256 - (intOf i).toNat)
  case atStart => exact ⟨0, _, rfl, rfl, by omega, own_nil _ _, heap_alloc_last w _, (Below.refl _ w).alloc (Nat.le_refl _) _⟩
  case round =>
    obtain ⟨k, v, rfl, rfl, hk, HO, HG, HB⟩ := hrel
    by_cases hlt : k < 256
    · have hltz : (k : Int) < 256 := by omega
      have hwr := u8wrap hlt
      have hc0 := cell_of_row wr _ 0 _ _ _ (unhide HG)
      have hc1 := cell_of_row wr _ 1 _ _ _ (unhide HG)
      have hc2 := cell_of_row wr _ 2 _ _ _ (unhide HG)
      have hc3 := cell_of_row wr _ 3 _ _ _ (unhide HG)
      have HLT : Hid (w.heap.size + 1 ≤ wr.heap.size) := (Array.getElem?_eq_some_iff.1 (unhide HG)).1
      have HH2 := hide (fun W => unhide HH k W hlt)
      have hln := lsoK_len f k
      cases hf : f (bt k) with
      | true =>
        have HY := hide (lsoK_yes hf)
        rw [hf] at HH2
        clear hf
        generalize lsoK f k = acc at *
        go_wp2_with (first
          | (go_at_call 29; refine (unhide HH2 _).mono ?_; rintro e W1 ⟨rfl, rfl⟩)
          | (at_builtin; refine wpList_append_own _ rfl _ _ 53 rfl (w.heap.size + 1) 5 i0 (.int .u8 0) 1 1 Try.underlying53 hi hz0 hz1 hz2 rfl (by decide) _ _ _ rfl (((unhide HO).alloc _).alloc _) ⟨wr.heap.size + 1, 0, none⟩ 1 1 [.int .u8 (k : Int)] rfl rfl (new_cells2 _ _ #[.int .u8 (k : Int)] _) (by simp [Value.oneCell']) (by unfold maxLen; omega) (by omega) (by have h1 := unhide HLT; simp; omega) ?_; intro v' w2 hown' hgrow hnil; clear hnil; have HO2 := hide (own_push (btz hlt) hown'); have HB2 := hide (push_below (unhide HLT) (Below.refl _ _) (unhide HO) hgrow); clear hown' hgrow))
        go_roundw
        case rel => exact ⟨k + 1, v', rfl, by go_num, by omega, by rw [unhide HY]; exact HO2, hide (((unhide HB2).block w.heap.size (by omega)).trans (unhide HG)), (unhide HB).trans ((unhide HB2).mono (by omega))⟩
        case measure => simp [intOf]; omega
      | false =>
        have HY := hide (lsoK_no hf)
        rw [hf] at HH2
        clear hf
        generalize lsoK f k = acc at *
        go_wp2_with (go_at_call 29; refine (unhide HH2 _).mono ?_; rintro e W1 ⟨rfl, rfl⟩)
        go_roundw
        case rel => exact ⟨k + 1, v, rfl, by go_num, by omega, by rw [unhide HY]; exact (unhide HO).alloc _, hide (heap_two (unhide HG)), (unhide HB).alloc (unhide HB).size _⟩
        case measure => simp [intOf]; omega
    · have hltz : ¬ (k : Int) < 256 := by omega
      have HF := hide (lsoK_full f (k := k) (by omega))
      generalize lsoK f k = acc at *
      have hcv := conv_own (unhide HO)
      go_wp2
      go_ret
      exact ⟨by rw [← unhide HF]; rfl, unhide HB⟩
end Pt
end Go.Proofs.Ytgaagbjbolfbjab
