/- What the laws of layer 4 lean on: patterns in memory; their wakes. -/
import Derived.Test.YtlajdmjpobckhaaGreatDoorGd12
import Derived.Maps.AppendAt
import Derived.Laws.IdiomStrings
import Derived.Laws.BytesArg
import Derived.Test.YtlajdmjpobckhaaGreatDoorGd01
import Derived.Shelf.Strings.BuilderK
import Derived.Test.YtlajdmjpobckhaaGreatDoorProg
namespace Go.Proofs.YtlajdmjpobckhaaGreatDoor
open Go.RowKit
namespace Pt
open Cd

def rdP (l : List UInt8) : List (UInt8 → Bool) := (rd l).1.map adm
theorem rdP_len (l : List UInt8) : (rdP l).length ≤ 16 := by rw [rdP, List.length_map]; exact rd_len l
attribute [local go_sem ↓] load_as
attribute [local go_sem] ldP_new ldP_drew
theorem keep_pat {W W' : World} {g : Nat} {X : Array Value} {t : TypeId} (h : W.heap[g]? = some (.cells X t (0, 0))) (hb : Below W.heap.size W W') : W'.heap[g]? = some (.cells X t (0, 0)) := (hb.block g (Array.getElem?_eq_some_iff.1 h).1).trans h
theorem store_new (W : World) (X : Array Value) (hX : Sz65 X) (h1 : X.all (·.oneCell') = true) : (storeCells ⟨W.heap.size, 0, none⟩ X.toList 0).run Tryz.prog (W.alloc (.cells (patC []) 226)) = .ok () (W.alloc (.cells X 226)) := by
  have := store_pat _ _ _ _ _ (heap_alloc_last W (.cells (patC []) 226)) (patC_size [] (by decide)) hX h1
  rw [setRow_last] at this
  exact this
theorem sz_pat (l : List UInt8) : Sz65 (patC (rdP l)) := patC_size _ (rdP_len l)
theorem wk_len : (rdP [91, 94, 97, 101, 105, 111, 117, 93, 121]).length = 2 := by decide
theorem wk_yes : endsB (rdP [91, 94, 97, 101, 105, 111, 117, 93, 121]) [102, 108, 121] = true := by decide
theorem wk_no : endsB (rdP [91, 94, 97, 101, 105, 111, 117, 93, 121]) [100, 97, 121] = false := by decide
theorem wk_ok : (rd [91, 94, 97, 101, 105, 111, 117, 93, 121]).2 = 0 := by decide
end Pt
end Go.Proofs.YtlajdmjpobckhaaGreatDoor
/- Lists of bytes that a call owns; an item's list. -/
namespace Go.Proofs.YtlajdmjpobckhaaGreatDoor
open Go.RowKit
namespace Pt
open Cd

def byts (l : List UInt8) : List Value := l.map fun b => Value.int .u8 (b.toNat : Int)
theorem byts_snoc (l : List UInt8) (c : UInt8) : byts l ++ [.int .u8 (c.toNat : Int)] = byts (l ++ [c]) := by simp [byts]
theorem infoB : (Tryz.prog.info? 5).map (fun i => (i.zero, i.size, i.bytes)) = some (some (.int .u8 0), 1, 1) := by kernel_rfl
/-- a list of bytes in a block of its own, or nil -/
def Own (n : Nat) (W : World) (v : Value) (L : List UInt8) : Prop := W.ownsRow n 5 1 v L.length (byts L)
theorem own_push {W : World} {B : Nat} {v : Value} {L : List UInt8} {c : UInt8} {x : Int} (hx : (c.toNat : Int) = x) (h : W.ownsRow B 5 1 v (L.length + 1) (byts L ++ [.int .u8 x])) : Own B W v (L ++ [c]) := by
  rw [← hx, byts_snoc] at h
  unfold Own
  rw [List.length_append]
  exact h
theorem own_nil (n : Nat) (W : World) : Own n W (.slice none 0 0) [] := World.ownsRow_nil _ _ _ _
theorem own_made (w : World) : Own w.heap.size (w.alloc (.cells #[] 5)) (.slice (some ⟨w.heap.size, 0, none⟩) 0 0) [] := World.ownsRow_made w #[] 0 (Nat.le_refl _) (by simp) rfl
theorem own_cells {w : World} {B : Nat} {v : Value} {L : List UInt8} (h : Own B w v L) (h0 : 0 < L.length) :
    ∃ g cap, v = .slice (some ⟨g, 0, none⟩) L.length cap ∧ g < w.heap.size ∧ ∀ j x, L[j]? = some x → w.cell? ⟨g, j, none⟩ = some (.int .u8 (x.toNat : Int)) := by
  have hc : w.ownsRow B 5 1 v L.length (byts L) := h
  obtain ⟨hl, ⟨rfl, h1⟩ | ⟨g, cap, cur, rfl, hg, hh, hc1, hm, hsz, htk⟩⟩ := h
  · omega
  · refine ⟨g, cap, rfl, (Array.getElem?_eq_some_iff.1 hh).1, fun j x hj => ?_⟩
    have := hc.cells (g := g) rfl j (.int .u8 (x.toNat : Int)) (by simp [byts, hj])
    rwa [add_off] at this
theorem own_slice {w : World} {B : Nat} {v : Value} {L : List UInt8} (h : Own B w v L) : ∃ a cap, v = .slice a L.length cap := by
  obtain ⟨_, ⟨e, e2⟩ | ⟨g, cap, cur, e, _⟩⟩ := h
  · exact ⟨none, 0, by rw [e, e2]⟩
  · exact ⟨_, cap, e⟩
theorem conv_own {w : World} {B : Nat} {v : Value} {L : List UInt8} (h : Own B w v L) : (convert 81 9 v).run Tryz.prog w = .ok (.string (str L)) w := by
  by_cases h0 : 0 < L.length
  · obtain ⟨g, cap, rfl, _, hcell⟩ := own_cells h h0
    exact run_convert_bytes_back w 81 9 5 ⟨g, 0, none⟩ cap L Tryz.underlying81 Tryz.underlying5 Tryz.underlying9 (fun j hj => by rw [add_off]; exact hcell j _ (List.getElem?_eq_getElem hj))
  · have : L = [] := List.eq_nil_of_length_eq_zero (by omega)
    subst this
    obtain ⟨hl, ⟨rfl, h1⟩ | ⟨g, cap, cur, rfl, hg, hh, hc1, hm, hsz, htk⟩⟩ := h
    · exact run_convert_bytes_nil w 81 5 Tryz.underlying81 Tryz.underlying5 0 0 9 Tryz.underlying9
    · exact run_convert_bytes_back w 81 9 5 ⟨g, 0, none⟩ cap [] Tryz.underlying81 Tryz.underlying5 Tryz.underlying9 (fun j hj => absurd hj (by simp))
theorem Own.below {n : Nat} {W W' : World} {v : Value} {L : List UInt8} (h : Own n W v L) (hb : Below W.heap.size W W') : Own n W' v L := owns_below h hb
/-- the bytes below k of a set -/
def lsoK (f : UInt8 → Bool) (k : Nat) : List UInt8 := ((List.range k).map bt).filter f
theorem lsoK_yes {f : UInt8 → Bool} {k : Nat} (h : f (bt k) = true) : lsoK f (k + 1) = lsoK f k ++ [bt k] := by
  simp [lsoK, List.range_succ, h]
theorem lsoK_no {f : UInt8 → Bool} {k : Nat} (h : f (bt k) = false) : lsoK f (k + 1) = lsoK f k := by
  simp [lsoK, List.range_succ, h]
theorem lsoK_len (f : UInt8 → Bool) (k : Nat) : (lsoK f k).length ≤ k := by
  have := List.length_filter_le f ((List.range k).map bt)
  simp at this
  exact this
theorem lsoK_full (f : UInt8 → Bool) {k : Nat} (h : k = 256) : lsoK f k = lso f := by rw [h]; rfl
theorem btz {k : Nat} (h : k < 256) : ((bt k).toNat : Int) = (k : Int) := by rw [bt_toNat]; omega
theorem u8wrap {k : Nat} (h : k < 256) : IntKind.u8.wrap (k : Int) = (k : Int) := by rw [IntKind.wrap_u8]; omega

set_option maxHeartbeats 1000000 in
set_option maxRecDepth 100000 in
theorem list_any (f : UInt8 → Bool) (w : World) :
    Calls Tryz.prog 186 #[.agg (itC f)] w fun e w' => e = .returned (.string (str (lso f))) ∧ Below w.heap.size w w' := by
  obtain ⟨i0, hi, hz0, hz1, hz2⟩ := info_parts infoB
  have HH : Hid (∀ k W, k < 256 → Calls Tryz.prog 187 #[.agg (itC f), .int .u8 (k : Nat)] W fun e w' => e = .returned (.bool (f (bt k))) ∧ w' = W.alloc (.cells (itC f) 223)) := fun k W hk => by
    have := has_any f (bt k) W
    rw [btz hk] at this
    exact this
  obtain ⟨x0, x1, x2, x3, hC⟩ := cells_four f
  rw [hC] at HH ⊢
  clear hC
  go_enter Tryz.func186, Tryz.ntmps186
  go_wp2
  go_loopw [3, 5] (fun s3 s5 wr => ∃ (k : Nat) (v : Value), v = s3 ∧ s5 = .int .i64 k ∧ k ≤ 256 ∧ Hid (Own (w.heap.size + 1) wr v (lsoK f k)) ∧ Hid (wr.heap[w.heap.size]? = some (.cells #[.int .u64 x0, .int .u64 x1, .int .u64 x2, .int .u64 x3] 223 (0, 0))) ∧ Hid (Below w.heap.size w wr)) (fun _ i _ => 256 - (intOf i).toNat)
  case atStart => exact ⟨0, _, rfl, rfl, by omega, own_nil _ _, heap_alloc_last w _, (Below.refl _ w).alloc (Nat.le_refl _) _⟩
  case round =>
    obtain ⟨k, v, rfl, rfl, hk, HO, HG, HB⟩ := hrel
    by_cases hlt : k < 256
    · have hltz : (k : Int) < 256 := by omega
      have hwr := u8wrap hlt
      have hc0 := cell_of_row wr _ 0 _ _ _ (unhide HG)
      have hc1 := cell_of_row wr _ 1 _ _ _ (unhide HG)
      have hc2 := cell_of_row wr _ 2 _ _ _ (unhide HG)
      have hc3 := cell_of_row wr _ 3 _ _ _ (unhide HG)
      have HLT : Hid (w.heap.size + 1 ≤ wr.heap.size) := (Array.getElem?_eq_some_iff.1 (unhide HG)).1
      have HH2 := hide (fun W => unhide HH k W hlt)
      have hln := lsoK_len f k
      cases hf : f (bt k) with
      | true =>
        have HY := hide (lsoK_yes hf)
        rw [hf] at HH2
        clear hf
        generalize lsoK f k = acc at *
        go_wp2_with (first
          | (go_at_call 187; refine (unhide HH2 _).mono ?_; rintro e W1 ⟨rfl, rfl⟩)
          | (at_builtin; refine wpList_append_own _ rfl _ _ 81 rfl (w.heap.size + 1) 5 i0 (.int .u8 0) 1 1 Tryz.underlying81 hi hz0 hz1 hz2 rfl (by decide) _ _ _ rfl (((unhide HO).alloc _).alloc _) ⟨wr.heap.size + 1, 0, none⟩ 1 1 [.int .u8 (k : Int)] rfl rfl (new_cells2 _ _ #[.int .u8 (k : Int)] _) (by simp [Value.oneCell']) (by unfold maxLen; omega) (by omega) (by have h1 := unhide HLT; simp; omega) ?_; intro v' w2 hown' hgrow hnil; clear hnil; have HO2 := hide (own_push (btz hlt) hown'); have HB2 := hide (push_below (unhide HLT) (Below.refl _ _) (unhide HO) hgrow); clear hown' hgrow))
        go_roundw
        case rel => exact ⟨k + 1, v', rfl, by go_num, by omega, by rw [unhide HY]; exact HO2, hide (((unhide HB2).block w.heap.size (by omega)).trans (unhide HG)), (unhide HB).trans ((unhide HB2).mono (by omega))⟩
        case measure => simp [intOf]; omega
      | false =>
        have HY := hide (lsoK_no hf)
        rw [hf] at HH2
        clear hf
        generalize lsoK f k = acc at *
        go_wp2_with (go_at_call 187; refine (unhide HH2 _).mono ?_; rintro e W1 ⟨rfl, rfl⟩)
        go_roundw
        case rel => exact ⟨k + 1, v, rfl, by go_num, by omega, by rw [unhide HY]; exact (unhide HO).alloc _, hide (heap_two (unhide HG)), (unhide HB).alloc (unhide HB).size _⟩
        case measure => simp [intOf]; omega
    · have hltz : ¬ (k : Int) < 256 := by omega
      have HF := hide (lsoK_full f (k := k) (by omega))
      generalize lsoK f k = acc at *
      have hcv := conv_own (unhide HO)
      go_wp2
      go_ret
      exact ⟨by rw [← unhide HF]; rfl, unhide HB⟩
end Pt
end Go.Proofs.YtlajdmjpobckhaaGreatDoor
/- Contract: an item's show. -/
namespace Go.Proofs.YtlajdmjpobckhaaGreatDoor
open Go.RowKit
namespace Pt
open Cd

theorem str_app (a b : List UInt8) : str a ++ str b = str (a ++ b) := by
  apply ByteArray.ext
  apply Array.toList_inj.1
  simp [str]
theorem lso_len (f : UInt8 → Bool) : (lso f).length ≤ 256 := by have := List.length_filter_le f every; rw [every_len] at this; exact this
theorem is_one {L : List UInt8} {c : UInt8} (h : L = [c]) : str L = ⟨#[c]⟩ := by rw [h]; rfl
theorem beq_one (L : List UInt8) (c : UInt8) : ((str L).toList == [c]) = decide (L = [c]) := by
  rw [ByteArray.toList_eq, str_list, Bool.eq_iff_iff, beq_iff_eq, decide_eq_true_eq]
theorem tw_hat {f : UInt8 → Bool} (h : f 94 = true) : (lso f).takeWhile (· != 94) ++ ((lso f).dropWhile (· != 94)).tail = (lso f).filter (· != 94) := by
  have hm := mem_lso.2 h
  have hnd := lso_nodup f
  generalize lso f = L at *
  clear h
  induction L with
  | nil => simp at hm
  | cons a t ih =>
    rw [List.nodup_cons] at hnd
    rw [List.takeWhile_cons, List.dropWhile_cons, List.filter_cons]
    by_cases e : a = 94
    · subst e
      simp only [bne_self_eq_false, Bool.false_eq_true, if_false, List.nil_append, List.tail_cons]
      symm
      apply List.filter_eq_self.2
      intro x hx
      simp only [bne_iff_ne, ne_eq]
      rintro rfl
      exact hnd.1 hx
    · have ea : (a != 94) = true := by simpa using e
      rw [if_pos ea, if_pos ea, if_pos ea, List.cons_append, ih ((List.mem_cons.1 hm).resolve_left (fun h => e h.symm)) hnd.2]
theorem no_hat {f : UInt8 → Bool} (h : f 94 = false) : (lso f).filter (· != 94) = lso f := by
  apply List.filter_eq_self.2
  intro x hx
  simp only [bne_iff_ne, ne_eq]
  rintro rfl
  rw [mem_lso.1 hx] at h
  cases h
theorem add_run {a b : ByteArray} (h : a.size + b.size ≤ 1048576) : ∀ W : World, (Op.stringOp .add a b).run Tryz.prog W = .ok (.string (a ++ b)) W := fun W => run_string_add_sum _ _ _ (by omega)
theorem ret_str {a b : ByteArray} (h : a = b) : Ending.returned (.string a) = .returned (.string b) := by rw [h]

set_option maxHeartbeats 2000000 in
set_option maxRecDepth 100000 in
theorem show_any (f : UInt8 → Bool) (w : World) :
    Calls Tryz.prog 166 #[.agg (itC f)] w fun e w' => e = .returned (.string (str (shw f))) ∧ Below w.heap.size w w' := by
  have HL := hide (fun W => list_any f W)
  have hlen := lso_len f
  have hsz := str_size (lso f)
  have hszi : (str (lso f)).size ≤ 256 := by omega
  have hg := heap_alloc_last w (.cells (itC f) 223)
  have hb46 := beq_one (lso f) 46
  have hb91 := beq_one (lso f) 91
  have HH := hide (fun W => has_any f 93 W)
  have HO := hide (fun W => others_any f W)
  have HL2 := hide (fun W => list_any (fun b => !f b) W)
  have HSH : Hid (shw f = if (lso f).length = 256 then [46] else if lso f = [46] then [91, 46, 93] else if lso f = [91] then [91, 91, 93] else if (lso f).length = 1 then lso f else if f 93 = true then 91 :: 94 :: (lso (fun b => !f b) ++ [93]) else 91 :: (((lso f).filter (· != 94) ++ (if f 94 = true then [94] else [])) ++ [93])) := rfl
  obtain ⟨x0, x1, x2, x3, hC⟩ := cells_four f
  rw [hC] at HL HH HO hg ⊢
  clear hC
  by_cases h256 : (lso f).length = 256
  · have hz : ((str (lso f)).size : Int) = 256 := by omega
    have HR : Hid (str (shw f) = ⟨#[46]⟩) := hide (by rw [unhide HSH, if_pos h256]; rfl)
    clear hb46 hb91 HH HO HL2 HSH hsz h256
    generalize str (lso f) = T at *
    go_enter Tryz.func166, Tryz.ntmps166
    go_wp2_with fail
    refine (unhide HL _).mono ?_
    rintro e w1 ⟨rfl, hb1⟩
    have HB1 := hide (((Below.refl _ w).alloc (Nat.le_refl _) (.cells #[.int .u64 x0, .int .u64 x1, .int .u64 x2, .int .u64 x3] 223)).trans (hb1.mono (by simp)))
    clear hb1
    go_wp2
    go_ret
    exact ⟨ret_str (unhide HR).symm, unhide HB1⟩
  · have hz : ¬ ((str (lso f)).size : Int) = 256 := by omega
    by_cases h46 : lso f = [46]
    · rw [decide_eq_true h46] at hb46
      have HR : Hid (str (shw f) = str (91 :: (lso f ++ [93]))) := hide (by rw [unhide HSH, if_neg h256, if_pos h46, h46]; rfl)
      have ha1 := add_run (a := ⟨#[91]⟩) (b := str (lso f)) (by have : (ByteArray.mk #[91]).size = 1 := rfl; omega)
      have ha2 := add_run (a := ⟨#[91]⟩ ++ str (lso f)) (b := ⟨#[93]⟩) (by rw [ByteArray.size_append]; have : (ByteArray.mk #[91]).size = 1 := rfl; have : (ByteArray.mk #[93]).size = 1 := rfl; omega)
      have HX : Hid ((⟨#[91]⟩ ++ str (lso f) ++ ⟨#[93]⟩ : ByteArray) = str (91 :: (lso f ++ [93]))) := hide (by rw [show (⟨#[91]⟩ : ByteArray) = str [91] from rfl, show (⟨#[93]⟩ : ByteArray) = str [93] from rfl, str_app, str_app]; rfl)
      clear hb91 HH HO HL2 HSH hsz h256 h46
      generalize ⟨#[91]⟩ ++ str (lso f) ++ ⟨#[93]⟩ = A2 at *
      generalize ⟨#[91]⟩ ++ str (lso f) = A1 at *
      generalize str (lso f) = T at *
      go_enter Tryz.func166, Tryz.ntmps166
      go_wp2_with fail
      refine (unhide HL _).mono ?_
      rintro e w1 ⟨rfl, hb1⟩
      have HB1 := hide (((Below.refl _ w).alloc (Nat.le_refl _) (.cells #[.int .u64 x0, .int .u64 x1, .int .u64 x2, .int .u64 x3] 223)).trans (hb1.mono (by simp)))
      have hg1 := keep_pat hg hb1
      have hc0 := cell_of_row w1 _ 0 _ _ _ hg1
      have hc1 := cell_of_row w1 _ 1 _ _ _ hg1
      have hc2 := cell_of_row w1 _ 2 _ _ _ hg1
      have hc3 := cell_of_row w1 _ 3 _ _ _ hg1
      have hsw : w.heap.size < w1.heap.size := (Array.getElem?_eq_some_iff.1 hg1).1
      have HG1 := hide hg1
      clear hb1 hg1
      go_wp2
      go_ret
      exact ⟨ret_str ((unhide HX).trans (unhide HR).symm), unhide HB1⟩
    · rw [decide_eq_false h46] at hb46
      by_cases h91 : lso f = [91]
      · rw [decide_eq_true h91] at hb91
        have HR : Hid (str (shw f) = str (91 :: (lso f ++ [93]))) := hide (by rw [unhide HSH, if_neg h256, if_neg h46, if_pos h91, h91]; rfl)
        have ha1 := add_run (a := ⟨#[91]⟩) (b := str (lso f)) (by have : (ByteArray.mk #[91]).size = 1 := rfl; omega)
        have ha2 := add_run (a := ⟨#[91]⟩ ++ str (lso f)) (b := ⟨#[93]⟩) (by rw [ByteArray.size_append]; have : (ByteArray.mk #[91]).size = 1 := rfl; have : (ByteArray.mk #[93]).size = 1 := rfl; omega)
        have HX : Hid ((⟨#[91]⟩ ++ str (lso f) ++ ⟨#[93]⟩ : ByteArray) = str (91 :: (lso f ++ [93]))) := hide (by rw [show (⟨#[91]⟩ : ByteArray) = str [91] from rfl, show (⟨#[93]⟩ : ByteArray) = str [93] from rfl, str_app, str_app]; rfl)
        clear HH HO HL2 HSH hsz h256 h46 h91
        generalize ⟨#[91]⟩ ++ str (lso f) ++ ⟨#[93]⟩ = A2 at *
        generalize ⟨#[91]⟩ ++ str (lso f) = A1 at *
        generalize str (lso f) = T at *
        go_enter Tryz.func166, Tryz.ntmps166
        go_wp2_with fail
        refine (unhide HL _).mono ?_
        rintro e w1 ⟨rfl, hb1⟩
        have HB1 := hide (((Below.refl _ w).alloc (Nat.le_refl _) (.cells #[.int .u64 x0, .int .u64 x1, .int .u64 x2, .int .u64 x3] 223)).trans (hb1.mono (by simp)))
        have hg1 := keep_pat hg hb1
        have hc0 := cell_of_row w1 _ 0 _ _ _ hg1
        have hc1 := cell_of_row w1 _ 1 _ _ _ hg1
        have hc2 := cell_of_row w1 _ 2 _ _ _ hg1
        have hc3 := cell_of_row w1 _ 3 _ _ _ hg1
        have hsw : w.heap.size < w1.heap.size := (Array.getElem?_eq_some_iff.1 hg1).1
        have HG1 := hide hg1
        clear hb1 hg1
        go_wp2
        go_ret
        exact ⟨ret_str ((unhide HX).trans (unhide HR).symm), unhide HB1⟩
      · rw [decide_eq_false h91] at hb91
        by_cases hl1 : (lso f).length = 1
        · have hz1 : ((str (lso f)).size : Int) = 1 := by omega
          have HR : Hid (str (shw f) = str (lso f)) := hide (by rw [unhide HSH, if_neg h256, if_neg h46, if_neg h91, if_pos hl1])
          clear HH HO HL2 HSH hsz h256 h46 h91 hl1
          generalize str (lso f) = T at *
          go_enter Tryz.func166, Tryz.ntmps166
          go_wp2_with fail
          refine (unhide HL _).mono ?_
          rintro e w1 ⟨rfl, hb1⟩
          have HB1 := hide (((Below.refl _ w).alloc (Nat.le_refl _) (.cells #[.int .u64 x0, .int .u64 x1, .int .u64 x2, .int .u64 x3] 223)).trans (hb1.mono (by simp)))
          have hg1 := keep_pat hg hb1
          have hc0 := cell_of_row w1 _ 0 _ _ _ hg1
          have hc1 := cell_of_row w1 _ 1 _ _ _ hg1
          have hc2 := cell_of_row w1 _ 2 _ _ _ hg1
          have hc3 := cell_of_row w1 _ 3 _ _ _ hg1
          have hsw : w.heap.size < w1.heap.size := (Array.getElem?_eq_some_iff.1 hg1).1
          have HG1 := hide hg1
          clear hb1 hg1
          go_wp2
          go_ret
          exact ⟨ret_str (unhide HR).symm, unhide HB1⟩
        · have hz1 : ¬ ((str (lso f)).size : Int) = 1 := by omega
          cases h93 : f 93 with
          | true =>
            have HR : Hid (str (shw f) = str (91 :: 94 :: (lso (fun b => !f b) ++ [93]))) := hide (by rw [unhide HSH, if_neg h256, if_neg h46, if_neg h91, if_neg hl1, if_pos h93])
            have hl2 := lso_len (fun b => !f b)
            have hs2 := str_size (lso (fun b => !f b))
            have ha1 := add_run (a := ⟨#[91, 94]⟩) (b := str (lso (fun b => !f b))) (by have : (ByteArray.mk #[91, 94]).size = 2 := rfl; omega)
            have ha2 := add_run (a := ⟨#[91, 94]⟩ ++ str (lso (fun b => !f b))) (b := ⟨#[93]⟩) (by rw [ByteArray.size_append]; have : (ByteArray.mk #[91, 94]).size = 2 := rfl; have : (ByteArray.mk #[93]).size = 1 := rfl; omega)
            have HX : Hid ((⟨#[91, 94]⟩ ++ str (lso (fun b => !f b)) ++ ⟨#[93]⟩ : ByteArray) = str (91 :: 94 :: (lso (fun b => !f b) ++ [93]))) := hide (by rw [show (⟨#[91, 94]⟩ : ByteArray) = str [91, 94] from rfl, show (⟨#[93]⟩ : ByteArray) = str [93] from rfl, str_app, str_app]; rfl)
            rw [h93] at HH
            clear HSH hsz h256 h46 h91 hl1 h93 hl2 hs2
            generalize ⟨#[91, 94]⟩ ++ str (lso (fun b => !f b)) ++ ⟨#[93]⟩ = A2 at *
            generalize ⟨#[91, 94]⟩ ++ str (lso (fun b => !f b)) = A1 at *
            generalize str (lso (fun b => !f b)) = T2 at *
            generalize str (lso f) = T at *
            generalize itC (fun b => !f b) = C2 at *
            go_enter Tryz.func166, Tryz.ntmps166
            go_wp2_with fail
            refine (unhide HL _).mono ?_
            rintro e w1 ⟨rfl, hb1⟩
            have HB1 := hide (((Below.refl _ w).alloc (Nat.le_refl _) (.cells #[.int .u64 x0, .int .u64 x1, .int .u64 x2, .int .u64 x3] 223)).trans (hb1.mono (by simp)))
            have hg1 := keep_pat hg hb1
            have hc0 := cell_of_row w1 _ 0 _ _ _ hg1
            have hc1 := cell_of_row w1 _ 1 _ _ _ hg1
            have hc2 := cell_of_row w1 _ 2 _ _ _ hg1
            have hc3 := cell_of_row w1 _ 3 _ _ _ hg1
            have hsw : w.heap.size < w1.heap.size := (Array.getElem?_eq_some_iff.1 hg1).1
            have HG1 := hide hg1
            clear hb1 hg1
            go_wp2_with fail
            refine (unhide HH _).mono ?_
            rintro e w2 ⟨rfl, rfl⟩
            go_wp2_with fail
            refine (unhide HO _).mono ?_
            rintro e w3 ⟨rfl, rfl⟩
            go_wp2_with fail
            refine (unhide HL2 _).mono ?_
            rintro e w4 ⟨rfl, hb4⟩
            have HB4 : Hid (Below w.heap.size w w4) := hide (by
              have b := (((unhide HB1).alloc (unhide HB1).size (.cells #[.int .u64 x0, .int .u64 x1, .int .u64 x2, .int .u64 x3] 223)).alloc (by have := (unhide HB1).size; simp; omega) (.cells C2 223)).alloc (by have := (unhide HB1).size; simp; omega) (.cells C2 223)
              exact b.trans (hb4.mono b.size))
            clear hb4
            go_wp2
            go_ret
            exact ⟨ret_str ((unhide HX).trans (unhide HR).symm), unhide HB4⟩
          | false =>
            rw [h93] at HH
            cases h94 : f 94 with
            | true =>
              have HR : Hid (str (shw f) = str (91 :: ((lso f).filter (· != 94) ++ [94] ++ [93]))) := hide (by rw [unhide HSH, if_neg h256, if_neg h46, if_neg h91, if_neg hl1, if_neg (by rw [h93]; decide), if_pos h94])
              have HC := hide (fun W => cut_yes (str (lso f)) 94 W (by unfold maxLen; omega) (by rw [str_list]; exact mem_lso.2 h94))
              rw [str_list] at HC
              have htw := tw_hat h94
              have hlt : ((lso f).takeWhile (· != 94)).length + ((lso f).dropWhile (· != 94)).tail.length ≤ 256 := by rw [← List.length_append, htw]; have := List.length_filter_le (· != 94) (lso f); omega
              have hs1 := str_size ((lso f).takeWhile (· != 94))
              have hs2 := str_size ((lso f).dropWhile (· != 94)).tail
              have ha1 := add_run (a := ⟨#[91]⟩) (b := str ((lso f).takeWhile (· != 94))) (by have : (ByteArray.mk #[91]).size = 1 := rfl; omega)
              have ha2 := add_run (a := ⟨#[91]⟩ ++ str ((lso f).takeWhile (· != 94))) (b := str ((lso f).dropWhile (· != 94)).tail) (by rw [ByteArray.size_append]; have : (ByteArray.mk #[91]).size = 1 := rfl; omega)
              have ha3 := add_run (a := ⟨#[91]⟩ ++ str ((lso f).takeWhile (· != 94)) ++ str ((lso f).dropWhile (· != 94)).tail) (b := ⟨#[94, 93]⟩) (by rw [ByteArray.size_append, ByteArray.size_append]; have : (ByteArray.mk #[91]).size = 1 := rfl; have : (ByteArray.mk #[94, 93]).size = 2 := rfl; omega)
              have HX : Hid ((⟨#[91]⟩ ++ str ((lso f).takeWhile (· != 94)) ++ str ((lso f).dropWhile (· != 94)).tail ++ ⟨#[94, 93]⟩ : ByteArray) = str (91 :: ((lso f).filter (· != 94) ++ [94] ++ [93]))) := hide (by rw [show (⟨#[91]⟩ : ByteArray) = str [91] from rfl, show (⟨#[94, 93]⟩ : ByteArray) = str [94, 93] from rfl, str_app, str_app, str_app, ← htw]; simp)
              clear HSH hsz h256 h46 h91 hl1 h93 h94 HO HL2 htw hlt hs1 hs2
              generalize ⟨#[91]⟩ ++ str ((lso f).takeWhile (· != 94)) ++ str ((lso f).dropWhile (· != 94)).tail ++ ⟨#[94, 93]⟩ = A3 at *
              generalize ⟨#[91]⟩ ++ str ((lso f).takeWhile (· != 94)) ++ str ((lso f).dropWhile (· != 94)).tail = A2 at *
              generalize ⟨#[91]⟩ ++ str ((lso f).takeWhile (· != 94)) = A1 at *
              generalize str ((lso f).takeWhile (· != 94)) = T1 at *
              generalize str ((lso f).dropWhile (· != 94)).tail = T2 at *
              generalize str (lso f) = T at *
              go_enter Tryz.func166, Tryz.ntmps166
              go_wp2_with fail
              refine (unhide HL _).mono ?_
              rintro e w1 ⟨rfl, hb1⟩
              have HB1 := hide (((Below.refl _ w).alloc (Nat.le_refl _) (.cells #[.int .u64 x0, .int .u64 x1, .int .u64 x2, .int .u64 x3] 223)).trans (hb1.mono (by simp)))
              have hg1 := keep_pat hg hb1
              have hc0 := cell_of_row w1 _ 0 _ _ _ hg1
              have hc1 := cell_of_row w1 _ 1 _ _ _ hg1
              have hc2 := cell_of_row w1 _ 2 _ _ _ hg1
              have hc3 := cell_of_row w1 _ 3 _ _ _ hg1
              clear hb1 hg1
              go_wp2_with fail
              refine (unhide HH _).mono ?_
              rintro e w2 ⟨rfl, rfl⟩
              go_wp2_with fail
              refine (unhide HC _).mono ?_
              rintro e w3 ⟨rfl, q3, rfl⟩
              have HB3 := hide (below_drewN ((unhide HB1).alloc (unhide HB1).size (.cells #[.int .u64 x0, .int .u64 x1, .int .u64 x2, .int .u64 x3] 223)) q3)
              go_wp2
              go_ret
              exact ⟨ret_str ((unhide HX).trans (unhide HR).symm), unhide HB3⟩
            | false =>
              have HR : Hid (str (shw f) = str (91 :: (lso f ++ [93]))) := hide (by rw [unhide HSH, if_neg h256, if_neg h46, if_neg h91, if_neg hl1, if_neg (by rw [h93]; decide), if_neg (by rw [h94]; decide), List.append_nil, no_hat h94])
              have HC := hide (fun W => cut_no (str (lso f)) 94 W (by rw [str_list]; intro hm; rw [mem_lso.1 hm] at h94; cases h94))
              have ha1 := add_run (a := ⟨#[91]⟩) (b := str (lso f)) (by have : (ByteArray.mk #[91]).size = 1 := rfl; omega)
              have ha2 := add_run (a := ⟨#[91]⟩ ++ str (lso f)) (b := ⟨#[93]⟩) (by rw [ByteArray.size_append]; have : (ByteArray.mk #[91]).size = 1 := rfl; have : (ByteArray.mk #[93]).size = 1 := rfl; omega)
              have HX : Hid ((⟨#[91]⟩ ++ str (lso f) ++ ⟨#[93]⟩ : ByteArray) = str (91 :: (lso f ++ [93]))) := hide (by rw [show (⟨#[91]⟩ : ByteArray) = str [91] from rfl, show (⟨#[93]⟩ : ByteArray) = str [93] from rfl, str_app, str_app]; rfl)
              clear HSH hsz h256 h46 h91 hl1 h93 h94 HO HL2
              generalize ⟨#[91]⟩ ++ str (lso f) ++ ⟨#[93]⟩ = A2 at *
              generalize ⟨#[91]⟩ ++ str (lso f) = A1 at *
              generalize str (lso f) = T at *
              go_enter Tryz.func166, Tryz.ntmps166
              go_wp2_with fail
              refine (unhide HL _).mono ?_
              rintro e w1 ⟨rfl, hb1⟩
              have HB1 := hide (((Below.refl _ w).alloc (Nat.le_refl _) (.cells #[.int .u64 x0, .int .u64 x1, .int .u64 x2, .int .u64 x3] 223)).trans (hb1.mono (by simp)))
              have hg1 := keep_pat hg hb1
              have hc0 := cell_of_row w1 _ 0 _ _ _ hg1
              have hc1 := cell_of_row w1 _ 1 _ _ _ hg1
              have hc2 := cell_of_row w1 _ 2 _ _ _ hg1
              have hc3 := cell_of_row w1 _ 3 _ _ _ hg1
              clear hb1 hg1
              go_wp2_with fail
              refine (unhide HH _).mono ?_
              rintro e w2 ⟨rfl, rfl⟩
              go_wp2_with fail
              refine (unhide HC _).mono ?_
              rintro e w3 ⟨rfl, q3, rfl⟩
              have HB3 := hide (below_drewN ((unhide HB1).alloc (unhide HB1).size (.cells #[.int .u64 x0, .int .u64 x1, .int .u64 x2, .int .u64 x3] 223)) q3)
              go_wp2
              go_ret
              exact ⟨ret_str ((unhide HX).trans (unhide HR).symm), unhide HB3⟩
end Pt
end Go.Proofs.YtlajdmjpobckhaaGreatDoor
/- The shelf. -/
/- Contracts of strings.Builder (WriteString), of the shelf, laid at this program: no walk of ours. -/
namespace Go.Proofs
open Go.Shelf
def Tryz.lays166_ren : Go.Shelf.Ren := ⟨fun | 166 => 165 | 240 => 51 | 276 => 67 | n => n, fun | 0 => 0 | 3 => 3 | 4 => 4 | 5 => 5 | 9 => 9 | 20 => 20 | 37 => 81 | 70 => 80 | 72 => 83 | 75 => 86 | 80 => 88 | 164 => 142 | n => n, fun | n => n⟩
theorem Tryz.lays166 : Go.Proofs.Lays.n166 Tryz.prog Tryz.lays166_ren := {
  mixed := by kernel_rfl
  f166 := Tryz.func165.trans (congrArg some (by kernel_rfl))
  f240 := Tryz.func51.trans (congrArg some (by kernel_rfl))
  f276 := Tryz.func67.trans (congrArg some (by kernel_rfl))
  t0 := Tryz.underlying0
  a0 := Tryz.isAgg0
  z0 := Tryz.sizeOf0
  v0 := Tryz.zeroValue0
  t3 := Tryz.underlying3
  a3 := Tryz.isAgg3
  z3 := Tryz.sizeOf3
  v3 := Tryz.zeroValue3
  t4 := Tryz.underlying4
  a4 := Tryz.isAgg4
  z4 := Tryz.sizeOf4
  v4 := Tryz.zeroValue4
  t9 := Tryz.underlying9
  a9 := Tryz.isAgg9
  z9 := Tryz.sizeOf9
  v9 := Tryz.zeroValue9
  t20 := Tryz.underlying20
  a20 := Tryz.isAgg20
  z20 := Tryz.sizeOf20
  v20 := Tryz.zeroValue20
  t37 := Tryz.underlying81
  a37 := Tryz.isAgg81
  z37 := Tryz.sizeOf81
  v37 := Tryz.zeroValue81
  t70 := Tryz.underlying80
  a70 := Tryz.isAgg80
  z70 := Tryz.sizeOf80
  v70 := Tryz.zeroValue80
  t72 := Tryz.underlying83
  a72 := Tryz.isAgg83
  z72 := Tryz.sizeOf83
  v72 := Tryz.zeroValue83
  t75 := Tryz.underlying86
  a75 := Tryz.isAgg86
  z75 := Tryz.sizeOf86
  v75 := Tryz.zeroValue86
  t164 := Tryz.underlying142
  a164 := Tryz.isAgg142
  z164 := Tryz.sizeOf142
  v164 := Tryz.zeroValue142
}
theorem Tryz.Builder_Extra_166 : Builder.Extra Tryz.prog Tryz.lays166_ren := {
  sizeBuilder := by kernel_rfl
  liesBuilder := by kernel_rfl
  t5 := Tryz.underlying5
  a5 := Tryz.isAgg5
  z5 := Tryz.sizeOf5
  v5 := Tryz.zeroValue5
  infoByte := by kernel_rfl
  cellsByte := by kernel_rfl
  sizeByte := by kernel_rfl
  neB5 := by decide }
open Go.RowKit in
theorem Tryz.Builder_WriteString_k (B b : Nat) (bs : List Value) (s : ByteArray) (w : World) (h : Lib.IsBuilderF 83 5 B b bs w) (hlen : bs.length + s.size ≤ 140737488355328) (hBw : B ≤ w.heap.size) :
    Calls Tryz.prog 165 #[.pointer (some ⟨b, 0, none⟩), .string s] w fun e w' => e = .returned (.tuple #[.int .i64 s.size, .nilIface]) ∧ (Lib.BuilderAtF 83 5 B b (.pointer (some ⟨b, 0, none⟩)) (bs ++ Lib.strCells s) w' ∧ Below B w w' ∧ Lib.OthersKept 5 (some b) w w') := Any.Builder_WriteString_k Tryz.lays166 Tryz.Builder_Extra_166 B b bs s w h hlen hBw
end Go.Proofs
/- Contract: a pattern's Show. -/
namespace Go.Proofs.YtlajdmjpobckhaaGreatDoor
open Go.RowKit
namespace Pt
open Cd

theorem builder_below {T e : TypeId} {B b : Nat} {bs : List Value} {w w' : World} (h : Lib.IsBuilderF T e B b bs w) (hB : Below w.heap.size w w') : Lib.IsBuilderF T e B b bs w' := by
  have one : ∀ p, Lib.BuilderAtF T e B b p bs w → Lib.BuilderAtF T e B b p bs w' := by
    rintro p ⟨h1, v, h2, h3, h4⟩
    refine ⟨h1, v, by rw [hB.block b (Array.getElem?_eq_some_iff.1 h2).1]; exact h2, ?_, h4⟩
    obtain ⟨hl, h | ⟨g, cap, cur, fz, rfl, hg, hh, hr⟩⟩ := h3
    · exact ⟨hl, .inl h⟩
    · exact ⟨hl, .inr ⟨g, cap, cur, fz, rfl, hg, by rw [hB.block g (Array.getElem?_eq_some_iff.1 hh).1]; exact hh, hr⟩⟩
  exact h.elim (fun x => .inl (one _ x)) (fun x => .inr (one _ x))
theorem cells_str (l : List UInt8) : Lib.strCells (str l) = Lib.byteCells l := by simp [Lib.strCells, Lib.byteCells, str]
theorem shw_len (f : UInt8 → Bool) : (shw f).length ≤ 600 := by
  have h1 := lso_len f
  have h2 := lso_len (fun b => !f b)
  have h3 := List.length_filter_le (· != 94) (lso f)
  unfold shw
  repeat' split
  all_goals first | omega | (simp only [List.length_cons, List.length_append, List.length_nil]; omega)
/-- a pattern as it is shown -/
def swsF (fs : List (UInt8 → Bool)) : List UInt8 := if fs = [] then [46] else (fs.map shw).flatten
theorem swsF_sws (P : List (List UInt8)) : swsF (P.map adm) = sws P := by
  unfold swsF sws
  by_cases h : P = []
  · rw [h]; rfl
  · rw [if_neg h, if_neg (by simpa using h), List.map_map]; rfl
set_option maxHeartbeats 1000000 in
set_option maxRecDepth 100000 in
theorem patShow_none (w : World) :
    Calls Tryz.prog 154 #[.agg (patC [])] w fun e w' => e = .returned (.string ⟨#[46]⟩) ∧ Below w.heap.size w w' := by
  have h0 : (patC [])[0]? = some (.int .i64 0) := patC_zero []
  generalize patC [] = X at *
  go_enter Tryz.func154, Tryz.ntmps154
  go_wp2
  go_ret
  exact ⟨rfl, (Below.refl _ w).alloc (Nat.le_refl _) _⟩
theorem flat_succ {fs : List (UInt8 → Bool)} {k : Nat} (h : k < fs.length) : ((fs.take (k + 1)).map shw).flatten = ((fs.take k).map shw).flatten ++ shw fs[k] := by
  rw [List.take_succ_eq_append_getElem h, List.map_append, List.flatten_append]
  simp only [List.map_cons, List.map_nil, List.flatten_cons, List.flatten_nil, List.append_nil]
theorem flat_small (fs : List (UInt8 → Bool)) (k : Nat) : ((fs.take k).map shw).flatten.length ≤ 600 * k := by
  induction k with
  | zero => simp
  | succ k ih =>
    by_cases h : k < fs.length
    · rw [flat_succ h, List.length_append]
      have := shw_len fs[k]
      omega
    · rw [List.take_of_length_le (by omega)] at ih ⊢
      omega
set_option maxHeartbeats 1000000 in
set_option maxRecDepth 100000 in
theorem patShow_some (fs : List (UInt8 → Bool)) (w : World) (h16 : fs.length ≤ 16) (hne : fs ≠ []) :
    Calls Tryz.prog 154 #[.agg (patC fs)] w fun e w' => e = .returned (.string (str (fs.map shw).flatten)) ∧ Below w.heap.size w w' := by
  obtain ⟨n, hn⟩ : ∃ n, n = fs.length := ⟨_, rfl⟩
  have h0 : (patC fs)[0]? = some (.int .i64 n) := by rw [hn]; exact patC_zero fs
  have HF : Hid (∀ k, k < n → ∃ (f : UInt8 → Bool) (x0 x1 x2 x3 : Nat), (patC fs)[1 + k * 4]? = some (.int .u64 x0) ∧ (patC fs)[1 + k * 4 + 1]? = some (.int .u64 x1) ∧ (patC fs)[1 + k * 4 + 2]? = some (.int .u64 x2) ∧ (patC fs)[1 + k * 4 + 3]? = some (.int .u64 x3) ∧ (∀ W, Calls Tryz.prog 166 #[.agg #[.int .u64 x0, .int .u64 x1, .int .u64 x2, .int .u64 x3]] W fun e w' => e = .returned (.string (str (shw f))) ∧ Below W.heap.size W w') ∧ ((fs.take (k + 1)).map shw).flatten = ((fs.take k).map shw).flatten ++ shw f ∧ (shw f).length ≤ 600) := fun k h => by
    obtain ⟨c0, c1, c2, c3⟩ := patC_four fs (k := k) (by omega)
    exact ⟨fs[k], _, _, _, _, c0, c1, c2, c3, fun W => show_any fs[k] W, flat_succ (by omega), shw_len _⟩
  have HSM := hide (fun k => flat_small fs k)
  have HFU : Hid (∀ k, n ≤ k → ((fs.take k).map shw).flatten = (fs.map shw).flatten) := fun k h => by rw [List.take_of_length_le (by omega)]
  have hn0 : 1 ≤ n := by rw [hn]; exact List.length_pos_iff.2 hne
  have hnz : (n : Int) ≤ 16 := by omega
  have hn0b : ((n : Int) == 0) = false := by rw [beq_eq_false_iff_ne]; omega
  generalize (fs.map shw).flatten = RES at *
  generalize patC fs = X at *
  clear hn h16 hne
  go_enter Tryz.func154, Tryz.ntmps154
  go_wp2
  go_loopw [10] (fun i wr => ∃ k : Nat, k ≤ n ∧ i = .int .i64 k ∧ Hid (Lib.IsBuilderF 83 5 (w.heap.size + 1) (w.heap.size + 1) (Lib.byteCells ((fs.take k).map shw).flatten) wr) ∧ Hid (wr.heap[w.heap.size]? = some (.cells X 226 (0, 0))) ∧ Hid (Below w.heap.size w wr)) (fun i _ => n - (intOf i).toNat)
  case atStart =>
    refine ⟨0, by omega, rfl, ?_, heap_alloc2_old w _ _, ((Below.refl _ w).alloc (Nat.le_refl _) _).alloc (by simp) _⟩
    have := Lib.IsBuilderF.of (Lib.fresh_isBuilder 83 5 (w.alloc (.cells X 226)))
    simp only [World.size_alloc] at this
    exact this
  case round =>
    obtain ⟨k, hk, rfl, HI, HG, HB⟩ := hrel
    by_cases hlt : k < n
    · have hltz : (k : Int) < (n : Int) := by omega
      obtain ⟨f, x0, x1, x2, x3, c0, c1, c2, c3, hsh, hst, hl⟩ := unhide HF k hlt
      have hc0 := (cell_of_row wr _ (1 + k * 4) X _ _ (unhide HG)).trans c0
      have hc1 := (cell_of_row wr _ (1 + k * 4 + 1) X _ _ (unhide HG)).trans c1
      have hc2 := (cell_of_row wr _ (1 + k * 4 + 2) X _ _ (unhide HG)).trans c2
      have hc3 := (cell_of_row wr _ (1 + k * 4 + 3) X _ _ (unhide HG)).trans c3
      have HSH := hide hsh
      have HST := hide hst
      have hacc := unhide HSM k
      have hsz := str_size (shw f)
      have HCS := hide (cells_str (shw f))
      have HLT : Hid (w.heap.size + 1 ≤ wr.heap.size) := (Array.getElem?_eq_some_iff.1 (unhide HG)).1
      generalize ((fs.take k).map shw).flatten = acc at *
      have HBC : Hid ((Lib.byteCells acc).length + (str (shw f)).size ≤ 140737488355328) := hide (by rw [Lib.byteCells_length]; omega)
      have HAP : Hid (Lib.byteCells acc ++ Lib.byteCells (shw f) = Lib.byteCells (acc ++ shw f)) := hide (by rw [Lib.byteCells_append])
      clear c0 c1 c2 c3 hsh hst hl hacc hsz
      generalize str (shw f) = T at *
      go_wp2_with fail
      refine (unhide HSH _).mono ?_
      rintro e w1 ⟨rfl, hb1⟩
      have HI1 := hide (builder_below (unhide HI) hb1)
      have HG1 := hide (keep_pat (unhide HG) hb1)
      have HB1 := hide ((unhide HB).trans (hb1.mono (unhide HB).size))
      have HLT1 : Hid (w.heap.size + 1 ≤ w1.heap.size) := hide (Nat.le_trans (unhide HLT) hb1.size)
      clear hb1
      go_wp2_with fail
      refine (Tryz.Builder_WriteString_k (w.heap.size + 1) (w.heap.size + 1) _ T _ (unhide HI1) (unhide HBC) (unhide HLT1)).mono ?_
      rintro e w2 ⟨rfl, h2, b2, _⟩
      rw [unhide HCS, unhide HAP, ← unhide HST] at h2
      have HI2 := hide h2
      have HG2 := hide ((b2.block w.heap.size (by omega)).trans (unhide HG1))
      have HB2 := hide ((unhide HB1).trans (b2.mono (by omega)))
      clear h2 b2
      go_wp2
      go_roundw
      case rel => exact ⟨k + 1, by omega, by go_num, Or.inr (unhide HI2), HG2, HB2⟩
      case measure => simp [intOf]; omega
    · have hltz : ¬ (k : Int) < (n : Int) := by omega
      have HFF := hide (unhide HFU k (by omega))
      have HLT : Hid (w.heap.size + 1 ≤ wr.heap.size) := (Array.getElem?_eq_some_iff.1 (unhide HG)).1
      generalize ((fs.take k).map shw).flatten = acc at *
      go_wp2_with fail
      refine (Tryz.Builder_String_any_k (w.heap.size + 1) (w.heap.size + 1) acc _ (unhide HI) (unhide HLT)).mono ?_
      rintro e w2 ⟨rfl, _, b2, _⟩
      have HB2 := hide ((unhide HB).trans (b2.mono (by omega)))
      clear b2
      go_wp2
      go_ret
      exact ⟨by rw [← unhide HFF]; rfl, unhide HB2⟩
theorem patShow_any (fs : List (UInt8 → Bool)) (w : World) (h16 : fs.length ≤ 16) :
    Calls Tryz.prog 154 #[.agg (patC fs)] w fun e w' => e = .returned (.string (str (swsF fs))) ∧ Below w.heap.size w w' := by
  unfold swsF
  by_cases h : fs = []
  · rw [if_pos h, h]
    exact patShow_none w
  · rw [if_neg h]
    exact patShow_some fs w h16 h
end Pt
end Go.Proofs.YtlajdmjpobckhaaGreatDoor
