import Derived.Test.YtidhbhdcoanfcaaGreatDoorGp20
set_option maxHeartbeats 8000000
set_option maxRecDepth 100000
namespace Go.Proofs.YtidhbhdcoanfcaaGreatDoor
open Go.RowKit
namespace Pt
open Cd


def TextsAt (W : World) (v : Value) (P : List (List UInt8)) : Prop :=
 (v = .slice none 0 0 ∧ P = []) ∨ ∃ g cap, v = .slice (some ⟨g, 0, none⟩) P.length cap ∧ g < W.heap.size ∧ ∀ j p, P[j]? = some p → W.cell? ⟨g, j, none⟩ = some (.string (str p))
theorem TextsAt.below {W W' : World} {v : Value} {P : List (List UInt8)} (h : TextsAt W v P) (hb : Below W.heap.size W W') : TextsAt W' v P := by
 rcases h with h | ⟨g, cap, h1, h2, h3⟩
 ·exact .inl h
 ·exact .inr ⟨g, cap, h1, Nat.lt_of_lt_of_le h2 hb.size, fun j u hu => (hb.cell (p := ⟨g, j, none⟩) h2).trans (h3 j u hu)⟩

def rdP (l : List UInt8) : List (UInt8 → Bool) := (rd l).1.map adm
theorem rdP_len (l : List UInt8) : (rdP l).length ≤ 16 := by rw [rdP, List.length_map]; exact rd_len l
attribute [local go_sem ↓] load_as
attribute [local go_sem] ldP_new ldP_drew
theorem keep_pat {W W' : World} {g : Nat} {X : Array Value} {t : TypeId} (h : W.heap[g]? = some (.cells X t (0, 0))) (hb : Below W.heap.size W W') : W'.heap[g]? = some (.cells X t (0, 0)) := (hb.block g (Array.getElem?_eq_some_iff.1 h).1).trans h
theorem store_new (W : World) (X : Array Value) (hX : Sz65 X) (h1 : X.all (·.oneCell') = true) : (storeCells ⟨W.heap.size, 0, none⟩ X.toList 0).run Tryz.prog (W.alloc (.cells (patC []) 229)) = .ok () (W.alloc (.cells X 229)) := by
 have := store_pat _ _ _ _ _ (heap_alloc_last W (.cells (patC []) 229)) (patC_size [] (by decide)) hX h1
 rw [setRow_last] at this
 exact this
theorem sz_pat (l : List UInt8) : Sz65 (patC (rdP l)) := patC_size _ (rdP_len l)
end Pt
namespace Pt
open Cd

def byts (l : List UInt8) : List Value := l.map fun b => Value.int .u8 (b.toNat : Int)
theorem byts_snoc (l : List UInt8) (c : UInt8) : byts l ++ [.int .u8 (c.toNat : Int)] = byts (l ++ [c]) := by simp [byts]
theorem infoB : (Tryz.prog.info? 5).map (fun i => (i.zero, i.size, i.bytes)) = some (some (.int .u8 0), 1, 1) := by kernel_rfl
def Own (n : Nat) (W : World) (v : Value) (L : List UInt8) : Prop := W.ownsRow n 5 1 v L.length (byts L)
theorem own_push {W : World} {B : Nat} {v : Value} {L : List UInt8} {c : UInt8} {x : Int} (hx : (c.toNat : Int) = x) (h : W.ownsRow B 5 1 v (L.length + 1) (byts L ++ [.int .u8 x])) : Own B W v (L ++ [c]) := by
 rw [← hx, byts_snoc] at h
 unfold Own
 rw [List.length_append]
 exact h
theorem own_nil (n : Nat) (W : World) : Own n W (.slice none 0 0) [] := World.ownsRow_nil _ _ _ _
theorem own_cells {w : World} {B : Nat} {v : Value} {L : List UInt8} (h : Own B w v L) (h0 : 0 < L.length) :
  ∃ g cap, v = .slice (some ⟨g, 0, none⟩) L.length cap ∧ g < w.heap.size ∧ ∀ j x, L[j]? = some x → w.cell? ⟨g, j, none⟩ = some (.int .u8 (x.toNat : Int)) := by
 have hc : w.ownsRow B 5 1 v L.length (byts L) := h
 obtain ⟨hl, ⟨rfl, h1⟩ | ⟨g, cap, cur, rfl, hg, hh, hc1, hm, hsz, htk⟩⟩ := h
 ·omega
 ·refine ⟨g, cap, rfl, (Array.getElem?_eq_some_iff.1 hh).1, fun j x hj => ?_⟩
  have := hc.cells (g := g) rfl j (.int .u8 (x.toNat : Int)) (by simp [byts, hj])
  rwa [add_off] at this
theorem own_slice {w : World} {B : Nat} {v : Value} {L : List UInt8} (h : Own B w v L) : ∃ a cap, v = .slice a L.length cap := by
 obtain ⟨_, ⟨e, e2⟩ | ⟨g, cap, cur, e, _⟩⟩ := h
 ·exact ⟨none, 0, by rw [e, e2]⟩
 ·exact ⟨_, cap, e⟩
theorem conv_own {w : World} {B : Nat} {v : Value} {L : List UInt8} (h : Own B w v L) : (convert 104 9 v).run Tryz.prog w = .ok (.string (str L)) w := by
 by_cases h0 : 0 < L.length
 ·obtain ⟨g, cap, rfl, _, hcell⟩ := own_cells h h0
  exact run_convert_bytes_back w 104 9 5 ⟨g, 0, none⟩ cap L Tryz.underlying104 Tryz.underlying5 Tryz.underlying9 (fun j hj => by rw [add_off]; exact hcell j _ (List.getElem?_eq_getElem hj))
 ·have : L = [] := List.eq_nil_of_length_eq_zero (by omega)
  subst this
  obtain ⟨hl, ⟨rfl, h1⟩ | ⟨g, cap, cur, rfl, hg, hh, hc1, hm, hsz, htk⟩⟩ := h
  ·exact run_convert_bytes_nil w 104 5 Tryz.underlying104 Tryz.underlying5 0 0 9 Tryz.underlying9
  ·exact run_convert_bytes_back w 104 9 5 ⟨g, 0, none⟩ cap [] Tryz.underlying104 Tryz.underlying5 Tryz.underlying9 (fun j hj => absurd hj (by simp))
theorem Own.below {n : Nat} {W W' : World} {v : Value} {L : List UInt8} (h : Own n W v L) (hb : Below W.heap.size W W') : Own n W' v L := owns_below h hb
def lsoK (f : UInt8 → Bool) (k : Nat) : List UInt8 := ((List.range k).map bt).filter f
theorem lsoK_yes {f : UInt8 → Bool} {k : Nat} (h : f (bt k) = true) : lsoK f (k + 1) = lsoK f k ++ [bt k] := by
 simp [lsoK, List.range_succ, h]
theorem lsoK_no {f : UInt8 → Bool} {k : Nat} (h : f (bt k) = false) : lsoK f (k + 1) = lsoK f k := by
 simp [lsoK, List.range_succ, h]
theorem lsoK_len (f : UInt8 → Bool) (k : Nat) : (lsoK f k).length ≤ k := by
 have := List.length_filter_le f ((List.range k).map bt)
 simp at this
 exact this
theorem lsoK_full (f : UInt8 → Bool) {k : Nat} (h : k = 256) : lsoK f k = lso f := by rw [h]; rfl
theorem btz {k : Nat} (h : k < 256) : ((bt k).toNat : Int) = (k : Int) := by rw [bt_toNat]; omega
theorem u8wrap {k : Nat} (h : k < 256) : IntKind.u8.wrap (k : Int) = (k : Int) := by rw [IntKind.wrap_u8]; omega

theorem list_any (f : UInt8 → Bool) (w : World) :
  Calls Tryz.prog 190 #[.agg (itC f)] w fun e w' => e = .returned (.string (str (lso f))) ∧ Below w.heap.size w w' := by
 obtain ⟨i0, hi, hz0, hz1, hz2⟩ := info_parts infoB
 have HH : Hid (∀ k W, k < 256 → Calls Tryz.prog 191 #[.agg (itC f), .int .u8 (k : Nat)] W fun e w' => e = .returned (.bool (f (bt k))) ∧ w' = W.alloc (.cells (itC f) 226)) := fun k W hk => by
  have := has_any f (bt k) W
  rw [btz hk] at this
  exact this
 obtain ⟨x0, x1, x2, x3, hC⟩ := cells_four f
 rw [hC] at HH ⊢
 clear hC
 go_enter Tryz.func190, Tryz.ntmps190
 go_wp2
 go_loopw [3, 5] (fun s3 s5 wr => ∃ (k : Nat) (v : Value), v = s3 ∧ s5 = .int .i64 k ∧ k ≤ 256 ∧ Hid (Own (w.heap.size + 1) wr v (lsoK f k)) ∧ Hid (wr.heap[w.heap.size]? = some (.cells #[.int .u64 x0, .int .u64 x1, .int .u64 x2, .int .u64 x3] 226 (0, 0))) ∧ Hid (Below w.heap.size w wr)) (fun _ i _ => 256 - (intOf i).toNat)
 case atStart => exact ⟨0, _, rfl, rfl, by omega, own_nil _ _, heap_alloc_last w _, (Below.refl _ w).alloc (Nat.le_refl _) _⟩
 case round =>
  obtain ⟨k, v, rfl, rfl, hk, HO, HG, HB⟩ := hrel
  by_cases hlt : k < 256
  ·have hltz : (k : Int) < 256 := by omega
   have hwr := u8wrap hlt
   have hc0 := cell_of_row wr _ 0 _ _ _ (unhide HG)
   have hc1 := cell_of_row wr _ 1 _ _ _ (unhide HG)
   have hc2 := cell_of_row wr _ 2 _ _ _ (unhide HG)
   have hc3 := cell_of_row wr _ 3 _ _ _ (unhide HG)
   have HLT : Hid (w.heap.size + 1 ≤ wr.heap.size) := (Array.getElem?_eq_some_iff.1 (unhide HG)).1
   have HH2 := hide (fun W => unhide HH k W hlt)
   have hln := lsoK_len f k
   cases hf : f (bt k) with
   | true =>
    have HY := hide (lsoK_yes hf)
    rw [hf] at HH2
    clear hf
    generalize lsoK f k = acc at *
    go_wp2_with (first
     | (go_at_call 191; refine (unhide HH2 _).mono ?_; rintro e W1 ⟨rfl, rfl⟩)
     | (at_builtin; refine wpList_append_own _ rfl _ _ 104 rfl (w.heap.size + 1) 5 i0 (.int .u8 0) 1 1 Tryz.underlying104 hi hz0 hz1 hz2 rfl (by decide) _ _ _ rfl (((unhide HO).alloc _).alloc _) ⟨wr.heap.size + 1, 0, none⟩ 1 1 [.int .u8 (k : Int)] rfl rfl (new_cells2 _ _ #[.int .u8 (k : Int)] _) (by simp [Value.oneCell']) (by unfold maxLen; omega) (by omega) (by have h1 := unhide HLT; simp; omega) ?_; intro v' w2 hown' hgrow hnil; clear hnil; have HO2 := hide (own_push (btz hlt) hown'); have HB2 := hide (push_below (unhide HLT) (Below.refl _ _) (unhide HO) hgrow); clear hown' hgrow))
    go_roundw
    case rel => exact ⟨k + 1, v', rfl, by go_num, by omega, by rw [unhide HY]; exact HO2, hide (((unhide HB2).block w.heap.size (by omega)).trans (unhide HG)), (unhide HB).trans ((unhide HB2).mono (by omega))⟩
    case measure => simp [intOf]; omega
   | false =>
    have HY := hide (lsoK_no hf)
    rw [hf] at HH2
    clear hf
    generalize lsoK f k = acc at *
    go_wp2_with (go_at_call 191; refine (unhide HH2 _).mono ?_; rintro e W1 ⟨rfl, rfl⟩)
    go_roundw
    case rel => exact ⟨k + 1, v, rfl, by go_num, by omega, by rw [unhide HY]; exact (unhide HO).alloc _, hide (heap_two (unhide HG)), (unhide HB).alloc (unhide HB).size _⟩
    case measure => simp [intOf]; omega
  ·have hltz : ¬ (k : Int) < 256 := by omega
   have HF := hide (lsoK_full f (k := k) (by omega))
   generalize lsoK f k = acc at *
   have hcv := conv_own (unhide HO)
   go_wp2
   go_ret
   exact ⟨by rw [← unhide HF]; rfl, unhide HB⟩

theorem str_app (a b : List UInt8) : str a ++ str b = str (a ++ b) := by
 apply ByteArray.ext
 apply Array.toList_inj.1
 simp [str]
theorem lso_len (f : UInt8 → Bool) : (lso f).length ≤ 256 := by have := List.length_filter_le f every; rw [every_len] at this; exact this
theorem beq_one (L : List UInt8) (c : UInt8) : ((str L).toList == [c]) = decide (L = [c]) := by
 rw [ByteArray.toList_eq, str_list, Bool.eq_iff_iff, beq_iff_eq, decide_eq_true_eq]
theorem tw_hat {f : UInt8 → Bool} (h : f 94 = true) : (lso f).takeWhile (· != 94) ++ ((lso f).dropWhile (· != 94)).tail = (lso f).filter (· != 94) := by
 have hm := mem_lso.2 h
 have hnd := lso_nodup f
 generalize lso f = L at *
 clear h
 induction L with
 | nil => simp at hm
 | cons a t ih =>
  rw [List.nodup_cons] at hnd
  rw [List.takeWhile_cons, List.dropWhile_cons, List.filter_cons]
  by_cases e : a = 94
  ·subst e
   simp only [bne_self_eq_false, Bool.false_eq_true, if_false, List.nil_append, List.tail_cons]
   symm
   apply List.filter_eq_self.2
   intro x hx
   simp only [bne_iff_ne, ne_eq]
   rintro rfl
   exact hnd.1 hx
  ·have ea : (a != 94) = true := by simpa using e
   rw [if_pos ea, if_pos ea, if_pos ea, List.cons_append, ih ((List.mem_cons.1 hm).resolve_left (fun h => e h.symm)) hnd.2]
theorem no_hat {f : UInt8 → Bool} (h : f 94 = false) : (lso f).filter (· != 94) = lso f := by
 apply List.filter_eq_self.2
 intro x hx
 simp only [bne_iff_ne, ne_eq]
 rintro rfl
 rw [mem_lso.1 hx] at h
 cases h
theorem add_run {a b : ByteArray} (h : a.size + b.size ≤ 1048576) : ∀ W : World, (Op.stringOp .add a b).run Tryz.prog W = .ok (.string (a ++ b)) W := fun W => run_string_add_sum _ _ _ (by omega)
theorem ret_str {a b : ByteArray} (h : a = b) : Ending.returned (.string a) = .returned (.string b) := by rw [h]

theorem show_any (f : UInt8 → Bool) (w : World) :
  Calls Tryz.prog 170 #[.agg (itC f)] w fun e w' => e = .returned (.string (str (shw f))) ∧ Below w.heap.size w w' := by
 have HL := hide (fun W => list_any f W)
 have hlen := lso_len f
 have hsz := str_size (lso f)
 have hszi : (str (lso f)).size ≤ 256 := by omega
 have hg := heap_alloc_last w (.cells (itC f) 226)
 have hb46 := beq_one (lso f) 46
 have hb91 := beq_one (lso f) 91
 have HH := hide (fun W => has_any f 93 W)
 have HO := hide (fun W => others_any f W)
 have HL2 := hide (fun W => list_any (fun b => !f b) W)
 have HSH : Hid (shw f = if (lso f).length = 256 then [46] else if lso f = [46] then [91, 46, 93] else if lso f = [91] then [91, 91, 93] else if (lso f).length = 1 then lso f else if f 93 = true then 91 :: 94 :: (lso (fun b => !f b) ++ [93]) else 91 :: (((lso f).filter (· != 94) ++ (if f 94 = true then [94] else [])) ++ [93])) := rfl
 obtain ⟨x0, x1, x2, x3, hC⟩ := cells_four f
 rw [hC] at HL HH HO hg ⊢
 clear hC
 by_cases h256 : (lso f).length = 256
 ·have hz : ((str (lso f)).size : Int) = 256 := by omega
  have HR : Hid (str (shw f) = ⟨#[46]⟩) := hide (by rw [unhide HSH, if_pos h256]; rfl)
  clear hb46 hb91 HH HO HL2 HSH hsz h256
  generalize str (lso f) = T at *
  go_enter Tryz.func170, Tryz.ntmps170
  go_wp2_with fail
  refine (unhide HL _).mono ?_
  rintro e w1 ⟨rfl, hb1⟩
  have HB1 := hide (((Below.refl _ w).alloc (Nat.le_refl _) (.cells #[.int .u64 x0, .int .u64 x1, .int .u64 x2, .int .u64 x3] 226)).trans (hb1.mono (by simp)))
  clear hb1
  go_wp2
  go_ret
  exact ⟨ret_str (unhide HR).symm, unhide HB1⟩
 ·have hz : ¬ ((str (lso f)).size : Int) = 256 := by omega
  by_cases h46 : lso f = [46]
  ·rw [decide_eq_true h46] at hb46
   have HR : Hid (str (shw f) = str (91 :: (lso f ++ [93]))) := hide (by rw [unhide HSH, if_neg h256, if_pos h46, h46]; rfl)
   have ha1 := add_run (a := ⟨#[91]⟩) (b := str (lso f)) (by have : (ByteArray.mk #[91]).size = 1 := rfl; omega)
   have ha2 := add_run (a := ⟨#[91]⟩ ++ str (lso f)) (b := ⟨#[93]⟩) (by rw [ByteArray.size_append]; have : (ByteArray.mk #[91]).size = 1 := rfl; have : (ByteArray.mk #[93]).size = 1 := rfl; omega)
   have HX : Hid ((⟨#[91]⟩ ++ str (lso f) ++ ⟨#[93]⟩ : ByteArray) = str (91 :: (lso f ++ [93]))) := hide (by rw [show (⟨#[91]⟩ : ByteArray) = str [91] from rfl, show (⟨#[93]⟩ : ByteArray) = str [93] from rfl, str_app, str_app]; rfl)
   clear hb91 HH HO HL2 HSH hsz h256 h46
   generalize ⟨#[91]⟩ ++ str (lso f) ++ ⟨#[93]⟩ = A2 at *
   generalize ⟨#[91]⟩ ++ str (lso f) = A1 at *
   generalize str (lso f) = T at *
   go_enter Tryz.func170, Tryz.ntmps170
   go_wp2_with fail
   refine (unhide HL _).mono ?_
   rintro e w1 ⟨rfl, hb1⟩
   have HB1 := hide (((Below.refl _ w).alloc (Nat.le_refl _) (.cells #[.int .u64 x0, .int .u64 x1, .int .u64 x2, .int .u64 x3] 226)).trans (hb1.mono (by simp)))
   have hg1 := keep_pat hg hb1
   have hc0 := cell_of_row w1 _ 0 _ _ _ hg1
   have hc1 := cell_of_row w1 _ 1 _ _ _ hg1
   have hc2 := cell_of_row w1 _ 2 _ _ _ hg1
   have hc3 := cell_of_row w1 _ 3 _ _ _ hg1
   have hsw : w.heap.size < w1.heap.size := (Array.getElem?_eq_some_iff.1 hg1).1
   have HG1 := hide hg1
   clear hb1 hg1
   go_wp2
   go_ret
   exact ⟨ret_str ((unhide HX).trans (unhide HR).symm), unhide HB1⟩
  ·rw [decide_eq_false h46] at hb46
   by_cases h91 : lso f = [91]
   ·rw [decide_eq_true h91] at hb91
    have HR : Hid (str (shw f) = str (91 :: (lso f ++ [93]))) := hide (by rw [unhide HSH, if_neg h256, if_neg h46, if_pos h91, h91]; rfl)
    have ha1 := add_run (a := ⟨#[91]⟩) (b := str (lso f)) (by have : (ByteArray.mk #[91]).size = 1 := rfl; omega)
    have ha2 := add_run (a := ⟨#[91]⟩ ++ str (lso f)) (b := ⟨#[93]⟩) (by rw [ByteArray.size_append]; have : (ByteArray.mk #[91]).size = 1 := rfl; have : (ByteArray.mk #[93]).size = 1 := rfl; omega)
    have HX : Hid ((⟨#[91]⟩ ++ str (lso f) ++ ⟨#[93]⟩ : ByteArray) = str (91 :: (lso f ++ [93]))) := hide (by rw [show (⟨#[91]⟩ : ByteArray) = str [91] from rfl, show (⟨#[93]⟩ : ByteArray) = str [93] from rfl, str_app, str_app]; rfl)
    clear HH HO HL2 HSH hsz h256 h46 h91
    generalize ⟨#[91]⟩ ++ str (lso f) ++ ⟨#[93]⟩ = A2 at *
    generalize ⟨#[91]⟩ ++ str (lso f) = A1 at *
    generalize str (lso f) = T at *
    go_enter Tryz.func170, Tryz.ntmps170
    go_wp2_with fail
    refine (unhide HL _).mono ?_
    rintro e w1 ⟨rfl, hb1⟩
    have HB1 := hide (((Below.refl _ w).alloc (Nat.le_refl _) (.cells #[.int .u64 x0, .int .u64 x1, .int .u64 x2, .int .u64 x3] 226)).trans (hb1.mono (by simp)))
    have hg1 := keep_pat hg hb1
    have hc0 := cell_of_row w1 _ 0 _ _ _ hg1
    have hc1 := cell_of_row w1 _ 1 _ _ _ hg1
    have hc2 := cell_of_row w1 _ 2 _ _ _ hg1
    have hc3 := cell_of_row w1 _ 3 _ _ _ hg1
    have hsw : w.heap.size < w1.heap.size := (Array.getElem?_eq_some_iff.1 hg1).1
    have HG1 := hide hg1
    clear hb1 hg1
    go_wp2
    go_ret
    exact ⟨ret_str ((unhide HX).trans (unhide HR).symm), unhide HB1⟩
   ·rw [decide_eq_false h91] at hb91
    by_cases hl1 : (lso f).length = 1
    ·have hz1 : ((str (lso f)).size : Int) = 1 := by omega
     have HR : Hid (str (shw f) = str (lso f)) := hide (by rw [unhide HSH, if_neg h256, if_neg h46, if_neg h91, if_pos hl1])
     clear HH HO HL2 HSH hsz h256 h46 h91 hl1
     generalize str (lso f) = T at *
     go_enter Tryz.func170, Tryz.ntmps170
     go_wp2_with fail
     refine (unhide HL _).mono ?_
     rintro e w1 ⟨rfl, hb1⟩
     have HB1 := hide (((Below.refl _ w).alloc (Nat.le_refl _) (.cells #[.int .u64 x0, .int .u64 x1, .int .u64 x2, .int .u64 x3] 226)).trans (hb1.mono (by simp)))
     have hg1 := keep_pat hg hb1
     have hc0 := cell_of_row w1 _ 0 _ _ _ hg1
     have hc1 := cell_of_row w1 _ 1 _ _ _ hg1
     have hc2 := cell_of_row w1 _ 2 _ _ _ hg1
     have hc3 := cell_of_row w1 _ 3 _ _ _ hg1
     have hsw : w.heap.size < w1.heap.size := (Array.getElem?_eq_some_iff.1 hg1).1
     have HG1 := hide hg1
     clear hb1 hg1
     go_wp2
     go_ret
     exact ⟨ret_str (unhide HR).symm, unhide HB1⟩
    ·have hz1 : ¬ ((str (lso f)).size : Int) = 1 := by omega
     cases h93 : f 93 with
     | true =>
      have HR : Hid (str (shw f) = str (91 :: 94 :: (lso (fun b => !f b) ++ [93]))) := hide (by rw [unhide HSH, if_neg h256, if_neg h46, if_neg h91, if_neg hl1, if_pos h93])
      have hl2 := lso_len (fun b => !f b)
      have hs2 := str_size (lso (fun b => !f b))
      have ha1 := add_run (a := ⟨#[91, 94]⟩) (b := str (lso (fun b => !f b))) (by have : (ByteArray.mk #[91, 94]).size = 2 := rfl; omega)
      have ha2 := add_run (a := ⟨#[91, 94]⟩ ++ str (lso (fun b => !f b))) (b := ⟨#[93]⟩) (by rw [ByteArray.size_append]; have : (ByteArray.mk #[91, 94]).size = 2 := rfl; have : (ByteArray.mk #[93]).size = 1 := rfl; omega)
      have HX : Hid ((⟨#[91, 94]⟩ ++ str (lso (fun b => !f b)) ++ ⟨#[93]⟩ : ByteArray) = str (91 :: 94 :: (lso (fun b => !f b) ++ [93]))) := hide (by rw [show (⟨#[91, 94]⟩ : ByteArray) = str [91, 94] from rfl, show (⟨#[93]⟩ : ByteArray) = str [93] from rfl, str_app, str_app]; rfl)
      rw [h93] at HH
      clear HSH hsz h256 h46 h91 hl1 h93 hl2 hs2
      generalize ⟨#[91, 94]⟩ ++ str (lso (fun b => !f b)) ++ ⟨#[93]⟩ = A2 at *
      generalize ⟨#[91, 94]⟩ ++ str (lso (fun b => !f b)) = A1 at *
      generalize str (lso (fun b => !f b)) = T2 at *
      generalize str (lso f) = T at *
      generalize itC (fun b => !f b) = C2 at *
      go_enter Tryz.func170, Tryz.ntmps170
      go_wp2_with fail
      refine (unhide HL _).mono ?_
      rintro e w1 ⟨rfl, hb1⟩
      have HB1 := hide (((Below.refl _ w).alloc (Nat.le_refl _) (.cells #[.int .u64 x0, .int .u64 x1, .int .u64 x2, .int .u64 x3] 226)).trans (hb1.mono (by simp)))
      have hg1 := keep_pat hg hb1
      have hc0 := cell_of_row w1 _ 0 _ _ _ hg1
      have hc1 := cell_of_row w1 _ 1 _ _ _ hg1
      have hc2 := cell_of_row w1 _ 2 _ _ _ hg1
      have hc3 := cell_of_row w1 _ 3 _ _ _ hg1
      have hsw : w.heap.size < w1.heap.size := (Array.getElem?_eq_some_iff.1 hg1).1
      have HG1 := hide hg1
      clear hb1 hg1
      go_wp2_with fail
      refine (unhide HH _).mono ?_
      rintro e w2 ⟨rfl, rfl⟩
      go_wp2_with fail
      refine (unhide HO _).mono ?_
      rintro e w3 ⟨rfl, rfl⟩
      go_wp2_with fail
      refine (unhide HL2 _).mono ?_
      rintro e w4 ⟨rfl, hb4⟩
      have HB4 : Hid (Below w.heap.size w w4) := hide (by
       have b := (((unhide HB1).alloc (unhide HB1).size (.cells #[.int .u64 x0, .int .u64 x1, .int .u64 x2, .int .u64 x3] 226)).alloc (by have := (unhide HB1).size; simp; omega) (.cells C2 226)).alloc (by have := (unhide HB1).size; simp; omega) (.cells C2 226)
       exact b.trans (hb4.mono b.size))
      clear hb4
      go_wp2
      go_ret
      exact ⟨ret_str ((unhide HX).trans (unhide HR).symm), unhide HB4⟩
     | false =>
      rw [h93] at HH
      cases h94 : f 94 with
      | true =>
       have HR : Hid (str (shw f) = str (91 :: ((lso f).filter (· != 94) ++ [94] ++ [93]))) := hide (by rw [unhide HSH, if_neg h256, if_neg h46, if_neg h91, if_neg hl1, if_neg (by rw [h93]; decide), if_pos h94])
       have HC := hide (fun W => cut_yes (str (lso f)) 94 W (by unfold maxLen; omega) (by rw [str_list]; exact mem_lso.2 h94))
       rw [str_list] at HC
       have htw := tw_hat h94
       have hlt : ((lso f).takeWhile (· != 94)).length + ((lso f).dropWhile (· != 94)).tail.length ≤ 256 := by rw [← List.length_append, htw]; have := List.length_filter_le (· != 94) (lso f); omega
       have hs1 := str_size ((lso f).takeWhile (· != 94))
       have hs2 := str_size ((lso f).dropWhile (· != 94)).tail
       have ha1 := add_run (a := ⟨#[91]⟩) (b := str ((lso f).takeWhile (· != 94))) (by have : (ByteArray.mk #[91]).size = 1 := rfl; omega)
       have ha2 := add_run (a := ⟨#[91]⟩ ++ str ((lso f).takeWhile (· != 94))) (b := str ((lso f).dropWhile (· != 94)).tail) (by rw [ByteArray.size_append]; have : (ByteArray.mk #[91]).size = 1 := rfl; omega)
       have ha3 := add_run (a := ⟨#[91]⟩ ++ str ((lso f).takeWhile (· != 94)) ++ str ((lso f).dropWhile (· != 94)).tail) (b := ⟨#[94, 93]⟩) (by rw [ByteArray.size_append, ByteArray.size_append]; have : (ByteArray.mk #[91]).size = 1 := rfl; have : (ByteArray.mk #[94, 93]).size = 2 := rfl; omega)
       have HX : Hid ((⟨#[91]⟩ ++ str ((lso f).takeWhile (· != 94)) ++ str ((lso f).dropWhile (· != 94)).tail ++ ⟨#[94, 93]⟩ : ByteArray) = str (91 :: ((lso f).filter (· != 94) ++ [94] ++ [93]))) := hide (by rw [show (⟨#[91]⟩ : ByteArray) = str [91] from rfl, show (⟨#[94, 93]⟩ : ByteArray) = str [94, 93] from rfl, str_app, str_app, str_app, ← htw]; simp)
       clear HSH hsz h256 h46 h91 hl1 h93 h94 HO HL2 htw hlt hs1 hs2
       generalize ⟨#[91]⟩ ++ str ((lso f).takeWhile (· != 94)) ++ str ((lso f).dropWhile (· != 94)).tail ++ ⟨#[94, 93]⟩ = A3 at *
       generalize ⟨#[91]⟩ ++ str ((lso f).takeWhile (· != 94)) ++ str ((lso f).dropWhile (· != 94)).tail = A2 at *
       generalize ⟨#[91]⟩ ++ str ((lso f).takeWhile (· != 94)) = A1 at *
       generalize str ((lso f).takeWhile (· != 94)) = T1 at *
       generalize str ((lso f).dropWhile (· != 94)).tail = T2 at *
       generalize str (lso f) = T at *
       go_enter Tryz.func170, Tryz.ntmps170
       go_wp2_with fail
       refine (unhide HL _).mono ?_
       rintro e w1 ⟨rfl, hb1⟩
       have HB1 := hide (((Below.refl _ w).alloc (Nat.le_refl _) (.cells #[.int .u64 x0, .int .u64 x1, .int .u64 x2, .int .u64 x3] 226)).trans (hb1.mono (by simp)))
       have hg1 := keep_pat hg hb1
       have hc0 := cell_of_row w1 _ 0 _ _ _ hg1
       have hc1 := cell_of_row w1 _ 1 _ _ _ hg1
       have hc2 := cell_of_row w1 _ 2 _ _ _ hg1
       have hc3 := cell_of_row w1 _ 3 _ _ _ hg1
       clear hb1 hg1
       go_wp2_with fail
       refine (unhide HH _).mono ?_
       rintro e w2 ⟨rfl, rfl⟩
       go_wp2_with fail
       refine (unhide HC _).mono ?_
       rintro e w3 ⟨rfl, q3, rfl⟩
       have HB3 := hide (below_drewN ((unhide HB1).alloc (unhide HB1).size (.cells #[.int .u64 x0, .int .u64 x1, .int .u64 x2, .int .u64 x3] 226)) q3)
       go_wp2
       go_ret
       exact ⟨ret_str ((unhide HX).trans (unhide HR).symm), unhide HB3⟩
      | false =>
       have HR : Hid (str (shw f) = str (91 :: (lso f ++ [93]))) := hide (by rw [unhide HSH, if_neg h256, if_neg h46, if_neg h91, if_neg hl1, if_neg (by rw [h93]; decide), if_neg (by rw [h94]; decide), List.append_nil, no_hat h94])
       have HC := hide (fun W => cut_no (str (lso f)) 94 W (by rw [str_list]; intro hm; rw [mem_lso.1 hm] at h94; cases h94))
       have ha1 := add_run (a := ⟨#[91]⟩) (b := str (lso f)) (by have : (ByteArray.mk #[91]).size = 1 := rfl; omega)
       have ha2 := add_run (a := ⟨#[91]⟩ ++ str (lso f)) (b := ⟨#[93]⟩) (by rw [ByteArray.size_append]; have : (ByteArray.mk #[91]).size = 1 := rfl; have : (ByteArray.mk #[93]).size = 1 := rfl; omega)
       have HX : Hid ((⟨#[91]⟩ ++ str (lso f) ++ ⟨#[93]⟩ : ByteArray) = str (91 :: (lso f ++ [93]))) := hide (by rw [show (⟨#[91]⟩ : ByteArray) = str [91] from rfl, show (⟨#[93]⟩ : ByteArray) = str [93] from rfl, str_app, str_app]; rfl)
       clear HSH hsz h256 h46 h91 hl1 h93 h94 HO HL2
       generalize ⟨#[91]⟩ ++ str (lso f) ++ ⟨#[93]⟩ = A2 at *
       generalize ⟨#[91]⟩ ++ str (lso f) = A1 at *
       generalize str (lso f) = T at *
       go_enter Tryz.func170, Tryz.ntmps170
       go_wp2_with fail
       refine (unhide HL _).mono ?_
       rintro e w1 ⟨rfl, hb1⟩
       have HB1 := hide (((Below.refl _ w).alloc (Nat.le_refl _) (.cells #[.int .u64 x0, .int .u64 x1, .int .u64 x2, .int .u64 x3] 226)).trans (hb1.mono (by simp)))
       have hg1 := keep_pat hg hb1
       have hc0 := cell_of_row w1 _ 0 _ _ _ hg1
       have hc1 := cell_of_row w1 _ 1 _ _ _ hg1
       have hc2 := cell_of_row w1 _ 2 _ _ _ hg1
       have hc3 := cell_of_row w1 _ 3 _ _ _ hg1
       clear hb1 hg1
       go_wp2_with fail
       refine (unhide HH _).mono ?_
       rintro e w2 ⟨rfl, rfl⟩
       go_wp2_with fail
       refine (unhide HC _).mono ?_
       rintro e w3 ⟨rfl, q3, rfl⟩
       have HB3 := hide (below_drewN ((unhide HB1).alloc (unhide HB1).size (.cells #[.int .u64 x0, .int .u64 x1, .int .u64 x2, .int .u64 x3] 226)) q3)
       go_wp2
       go_ret
       exact ⟨ret_str ((unhide HX).trans (unhide HR).symm), unhide HB3⟩
end Pt
end Go.Proofs.YtidhbhdcoanfcaaGreatDoor
