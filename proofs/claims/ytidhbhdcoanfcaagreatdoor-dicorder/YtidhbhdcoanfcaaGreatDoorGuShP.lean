import Derived.Test.YtidhbhdcoanfcaaGreatDoorGq19
namespace Go.Proofs.YtidhbhdcoanfcaaGreatDoor
open Go.RowKit
namespace Pt
open Cd

theorem str_app (a b : List UInt8) : str a ++ str b = str (a ++ b) := by
 apply ByteArray.ext
 apply Array.toList_inj.1
 simp [str]
theorem lso_len (f : UInt8 → Bool) : (lso f).length ≤ 256 := by have := List.length_filter_le f every; rw [every_len] at this; exact this
theorem beq_one (L : List UInt8) (c : UInt8) : ((str L).toList == [c]) = decide (L = [c]) := by
 rw [ByteArray.toList_eq, str_list, Bool.eq_iff_iff, beq_iff_eq, decide_eq_true_eq]
theorem tw_hat {f : UInt8 → Bool} (h : f 94 = true) : (lso f).takeWhile (· != 94) ++ ((lso f).dropWhile (· != 94)).tail = (lso f).filter (· != 94) := by
 have hm := mem_lso.2 h
 have hnd := lso_nodup f
 generalize lso f = L at *
 clear h
 induction L with
 | nil => simp at hm
 | cons a t ih =>
  rw [List.nodup_cons] at hnd
  rw [List.takeWhile_cons, List.dropWhile_cons, List.filter_cons]
  by_cases e : a = 94
  ·subst e
   simp only [bne_self_eq_false, Bool.false_eq_true, if_false, List.nil_append, List.tail_cons]
   symm
   apply List.filter_eq_self.2
   intro x hx
   simp only [bne_iff_ne, ne_eq]
   rintro rfl
   exact hnd.1 hx
  ·have ea : (a != 94) = true := by simpa using e
   rw [if_pos ea, if_pos ea, if_pos ea, List.cons_append, ih ((List.mem_cons.1 hm).resolve_left (fun h => e h.symm)) hnd.2]
theorem no_hat {f : UInt8 → Bool} (h : f 94 = false) : (lso f).filter (· != 94) = lso f := by
 apply List.filter_eq_self.2
 intro x hx
 simp only [bne_iff_ne, ne_eq]
 rintro rfl
 rw [mem_lso.1 hx] at h
 cases h
theorem add_run {a b : ByteArray} (h : a.size + b.size ≤ 1048576) : ∀ W : World, (Op.stringOp .add a b).run Tryz.prog W = .ok (.string (a ++ b)) W := fun W => run_string_add_sum _ _ _ (by omega)
theorem ret_str {a b : ByteArray} (h : a = b) : Ending.returned (.string a) = .returned (.string b) := by rw [h]

set_option maxHeartbeats 2000000 in
set_option maxRecDepth 100000 in
theorem show_any (f : UInt8 → Bool) (w : World) :
  Calls Tryz.prog 170 #[.agg (itC f)] w fun e w' => e = .returned (.string (str (shw f))) ∧ Below w.heap.size w w' := by
 have HL := hide (fun W => list_any f W)
 have hlen := lso_len f
 have hsz := str_size (lso f)
 have hszi : (str (lso f)).size ≤ 256 := by omega
 have hg := heap_alloc_last w (.cells (itC f) 226)
 have hb46 := beq_one (lso f) 46
 have hb91 := beq_one (lso f) 91
 have HH := hide (fun W => has_any f 93 W)
 have HO := hide (fun W => others_any f W)
 have HL2 := hide (fun W => list_any (fun b => !f b) W)
 have HSH : Hid (shw f = if (lso f).length = 256 then [46] else if lso f = [46] then [91, 46, 93] else if lso f = [91] then [91, 91, 93] else if (lso f).length = 1 then lso f else if f 93 = true then 91 :: 94 :: (lso (fun b => !f b) ++ [93]) else 91 :: (((lso f).filter (· != 94) ++ (if f 94 = true then [94] else [])) ++ [93])) := rfl
 obtain ⟨x0, x1, x2, x3, hC⟩ := cells_four f
 rw [hC] at HL HH HO hg ⊢
 clear hC
 by_cases h256 : (lso f).length = 256
 ·have hz : ((str (lso f)).size : Int) = 256 := by omega
  have HR : Hid (str (shw f) = ⟨#[46]⟩) := hide (by rw [unhide HSH, if_pos h256]; rfl)
  clear hb46 hb91 HH HO HL2 HSH hsz h256
  generalize str (lso f) = T at *
  go_enter Tryz.func170, Tryz.ntmps170
  go_wp2_with fail
  refine (unhide HL _).mono ?_
  rintro e w1 ⟨rfl, hb1⟩
  have HB1 := hide (((Below.refl _ w).alloc (Nat.le_refl _) (.cells #[.int .u64 x0, .int .u64 x1, .int .u64 x2, .int .u64 x3] 226)).trans (hb1.mono (by simp)))
  clear hb1
  go_wp2
  go_ret
  exact ⟨ret_str (unhide HR).symm, unhide HB1⟩
 ·have hz : ¬ ((str (lso f)).size : Int) = 256 := by omega
  by_cases h46 : lso f = [46]
  ·rw [decide_eq_true h46] at hb46
   have HR : Hid (str (shw f) = str (91 :: (lso f ++ [93]))) := hide (by rw [unhide HSH, if_neg h256, if_pos h46, h46]; rfl)
   have ha1 := add_run (a := ⟨#[91]⟩) (b := str (lso f)) (by have : (ByteArray.mk #[91]).size = 1 := rfl; omega)
   have ha2 := add_run (a := ⟨#[91]⟩ ++ str (lso f)) (b := ⟨#[93]⟩) (by rw [ByteArray.size_append]; have : (ByteArray.mk #[91]).size = 1 := rfl; have : (ByteArray.mk #[93]).size = 1 := rfl; omega)
   have HX : Hid ((⟨#[91]⟩ ++ str (lso f) ++ ⟨#[93]⟩ : ByteArray) = str (91 :: (lso f ++ [93]))) := hide (by rw [show (⟨#[91]⟩ : ByteArray) = str [91] from rfl, show (⟨#[93]⟩ : ByteArray) = str [93] from rfl, str_app, str_app]; rfl)
   clear hb91 HH HO HL2 HSH hsz h256 h46
   generalize ⟨#[91]⟩ ++ str (lso f) ++ ⟨#[93]⟩ = A2 at *
   generalize ⟨#[91]⟩ ++ str (lso f) = A1 at *
   generalize str (lso f) = T at *
   go_enter Tryz.func170, Tryz.ntmps170
   go_wp2_with fail
   refine (unhide HL _).mono ?_
   rintro e w1 ⟨rfl, hb1⟩
   have HB1 := hide (((Below.refl _ w).alloc (Nat.le_refl _) (.cells #[.int .u64 x0, .int .u64 x1, .int .u64 x2, .int .u64 x3] 226)).trans (hb1.mono (by simp)))
   have hg1 := keep_pat hg hb1
   have hc0 := cell_of_row w1 _ 0 _ _ _ hg1
   have hc1 := cell_of_row w1 _ 1 _ _ _ hg1
   have hc2 := cell_of_row w1 _ 2 _ _ _ hg1
   have hc3 := cell_of_row w1 _ 3 _ _ _ hg1
   have hsw : w.heap.size < w1.heap.size := (Array.getElem?_eq_some_iff.1 hg1).1
   have HG1 := hide hg1
   clear hb1 hg1
   go_wp2
   go_ret
   exact ⟨ret_str ((unhide HX).trans (unhide HR).symm), unhide HB1⟩
  ·rw [decide_eq_false h46] at hb46
   by_cases h91 : lso f = [91]
   ·rw [decide_eq_true h91] at hb91
    have HR : Hid (str (shw f) = str (91 :: (lso f ++ [93]))) := hide (by rw [unhide HSH, if_neg h256, if_neg h46, if_pos h91, h91]; rfl)
    have ha1 := add_run (a := ⟨#[91]⟩) (b := str (lso f)) (by have : (ByteArray.mk #[91]).size = 1 := rfl; omega)
    have ha2 := add_run (a := ⟨#[91]⟩ ++ str (lso f)) (b := ⟨#[93]⟩) (by rw [ByteArray.size_append]; have : (ByteArray.mk #[91]).size = 1 := rfl; have : (ByteArray.mk #[93]).size = 1 := rfl; omega)
    have HX : Hid ((⟨#[91]⟩ ++ str (lso f) ++ ⟨#[93]⟩ : ByteArray) = str (91 :: (lso f ++ [93]))) := hide (by rw [show (⟨#[91]⟩ : ByteArray) = str [91] from rfl, show (⟨#[93]⟩ : ByteArray) = str [93] from rfl, str_app, str_app]; rfl)
    clear HH HO HL2 HSH hsz h256 h46 h91
    generalize ⟨#[91]⟩ ++ str (lso f) ++ ⟨#[93]⟩ = A2 at *
    generalize ⟨#[91]⟩ ++ str (lso f) = A1 at *
    generalize str (lso f) = T at *
    go_enter Tryz.func170, Tryz.ntmps170
    go_wp2_with fail
    refine (unhide HL _).mono ?_
    rintro e w1 ⟨rfl, hb1⟩
    have HB1 := hide (((Below.refl _ w).alloc (Nat.le_refl _) (.cells #[.int .u64 x0, .int .u64 x1, .int .u64 x2, .int .u64 x3] 226)).trans (hb1.mono (by simp)))
    have hg1 := keep_pat hg hb1
    have hc0 := cell_of_row w1 _ 0 _ _ _ hg1
    have hc1 := cell_of_row w1 _ 1 _ _ _ hg1
    have hc2 := cell_of_row w1 _ 2 _ _ _ hg1
    have hc3 := cell_of_row w1 _ 3 _ _ _ hg1
    have hsw : w.heap.size < w1.heap.size := (Array.getElem?_eq_some_iff.1 hg1).1
    have HG1 := hide hg1
    clear hb1 hg1
    go_wp2
    go_ret
    exact ⟨ret_str ((unhide HX).trans (unhide HR).symm), unhide HB1⟩
   ·rw [decide_eq_false h91] at hb91
    by_cases hl1 : (lso f).length = 1
    ·have hz1 : ((str (lso f)).size : Int) = 1 := by omega
     have HR : Hid (str (shw f) = str (lso f)) := hide (by rw [unhide HSH, if_neg h256, if_neg h46, if_neg h91, if_pos hl1])
     clear HH HO HL2 HSH hsz h256 h46 h91 hl1
     generalize str (lso f) = T at *
     go_enter Tryz.func170, Tryz.ntmps170
     go_wp2_with fail
     refine (unhide HL _).mono ?_
     rintro e w1 ⟨rfl, hb1⟩
     have HB1 := hide (((Below.refl _ w).alloc (Nat.le_refl _) (.cells #[.int .u64 x0, .int .u64 x1, .int .u64 x2, .int .u64 x3] 226)).trans (hb1.mono (by simp)))
     have hg1 := keep_pat hg hb1
     have hc0 := cell_of_row w1 _ 0 _ _ _ hg1
     have hc1 := cell_of_row w1 _ 1 _ _ _ hg1
     have hc2 := cell_of_row w1 _ 2 _ _ _ hg1
     have hc3 := cell_of_row w1 _ 3 _ _ _ hg1
     have hsw : w.heap.size < w1.heap.size := (Array.getElem?_eq_some_iff.1 hg1).1
     have HG1 := hide hg1
     clear hb1 hg1
     go_wp2
     go_ret
     exact ⟨ret_str (unhide HR).symm, unhide HB1⟩
    ·have hz1 : ¬ ((str (lso f)).size : Int) = 1 := by omega
     cases h93 : f 93 with
     | true =>
      have HR : Hid (str (shw f) = str (91 :: 94 :: (lso (fun b => !f b) ++ [93]))) := hide (by rw [unhide HSH, if_neg h256, if_neg h46, if_neg h91, if_neg hl1, if_pos h93])
      have hl2 := lso_len (fun b => !f b)
      have hs2 := str_size (lso (fun b => !f b))
      have ha1 := add_run (a := ⟨#[91, 94]⟩) (b := str (lso (fun b => !f b))) (by have : (ByteArray.mk #[91, 94]).size = 2 := rfl; omega)
      have ha2 := add_run (a := ⟨#[91, 94]⟩ ++ str (lso (fun b => !f b))) (b := ⟨#[93]⟩) (by rw [ByteArray.size_append]; have : (ByteArray.mk #[91, 94]).size = 2 := rfl; have : (ByteArray.mk #[93]).size = 1 := rfl; omega)
      have HX : Hid ((⟨#[91, 94]⟩ ++ str (lso (fun b => !f b)) ++ ⟨#[93]⟩ : ByteArray) = str (91 :: 94 :: (lso (fun b => !f b) ++ [93]))) := hide (by rw [show (⟨#[91, 94]⟩ : ByteArray) = str [91, 94] from rfl, show (⟨#[93]⟩ : ByteArray) = str [93] from rfl, str_app, str_app]; rfl)
      rw [h93] at HH
      clear HSH hsz h256 h46 h91 hl1 h93 hl2 hs2
      generalize ⟨#[91, 94]⟩ ++ str (lso (fun b => !f b)) ++ ⟨#[93]⟩ = A2 at *
      generalize ⟨#[91, 94]⟩ ++ str (lso (fun b => !f b)) = A1 at *
      generalize str (lso (fun b => !f b)) = T2 at *
      generalize str (lso f) = T at *
      generalize itC (fun b => !f b) = C2 at *
      go_enter Tryz.func170, Tryz.ntmps170
      go_wp2_with fail
      refine (unhide HL _).mono ?_
      rintro e w1 ⟨rfl, hb1⟩
      have HB1 := hide (((Below.refl _ w).alloc (Nat.le_refl _) (.cells #[.int .u64 x0, .int .u64 x1, .int .u64 x2, .int .u64 x3] 226)).trans (hb1.mono (by simp)))
      have hg1 := keep_pat hg hb1
      have hc0 := cell_of_row w1 _ 0 _ _ _ hg1
      have hc1 := cell_of_row w1 _ 1 _ _ _ hg1
      have hc2 := cell_of_row w1 _ 2 _ _ _ hg1
      have hc3 := cell_of_row w1 _ 3 _ _ _ hg1
      have hsw : w.heap.size < w1.heap.size := (Array.getElem?_eq_some_iff.1 hg1).1
      have HG1 := hide hg1
      clear hb1 hg1
      go_wp2_with fail
      refine (unhide HH _).mono ?_
      rintro e w2 ⟨rfl, rfl⟩
      go_wp2_with fail
      refine (unhide HO _).mono ?_
      rintro e w3 ⟨rfl, rfl⟩
      go_wp2_with fail
      refine (unhide HL2 _).mono ?_
      rintro e w4 ⟨rfl, hb4⟩
      have HB4 : Hid (Below w.heap.size w w4) := hide (by
       have b := (((unhide HB1).alloc (unhide HB1).size (.cells #[.int .u64 x0, .int .u64 x1, .int .u64 x2, .int .u64 x3] 226)).alloc (by have := (unhide HB1).size; simp; omega) (.cells C2 226)).alloc (by have := (unhide HB1).size; simp; omega) (.cells C2 226)
       exact b.trans (hb4.mono b.size))
      clear hb4
      go_wp2
      go_ret
      exact ⟨ret_str ((unhide HX).trans (unhide HR).symm), unhide HB4⟩
     | false =>
      rw [h93] at HH
      cases h94 : f 94 with
      | true =>
       have HR : Hid (str (shw f) = str (91 :: ((lso f).filter (· != 94) ++ [94] ++ [93]))) := hide (by rw [unhide HSH, if_neg h256, if_neg h46, if_neg h91, if_neg hl1, if_neg (by rw [h93]; decide), if_pos h94])
       have HC := hide (fun W => cut_yes (str (lso f)) 94 W (by unfold maxLen; omega) (by rw [str_list]; exact mem_lso.2 h94))
       rw [str_list] at HC
       have htw := tw_hat h94
       have hlt : ((lso f).takeWhile (· != 94)).length + ((lso f).dropWhile (· != 94)).tail.length ≤ 256 := by rw [← List.length_append, htw]; have := List.length_filter_le (· != 94) (lso f); omega
       have hs1 := str_size ((lso f).takeWhile (· != 94))
       have hs2 := str_size ((lso f).dropWhile (· != 94)).tail
       have ha1 := add_run (a := ⟨#[91]⟩) (b := str ((lso f).takeWhile (· != 94))) (by have : (ByteArray.mk #[91]).size = 1 := rfl; omega)
       have ha2 := add_run (a := ⟨#[91]⟩ ++ str ((lso f).takeWhile (· != 94))) (b := str ((lso f).dropWhile (· != 94)).tail) (by rw [ByteArray.size_append]; have : (ByteArray.mk #[91]).size = 1 := rfl; omega)
       have ha3 := add_run (a := ⟨#[91]⟩ ++ str ((lso f).takeWhile (· != 94)) ++ str ((lso f).dropWhile (· != 94)).tail) (b := ⟨#[94, 93]⟩) (by rw [ByteArray.size_append, ByteArray.size_append]; have : (ByteArray.mk #[91]).size = 1 := rfl; have : (ByteArray.mk #[94, 93]).size = 2 := rfl; omega)
       have HX : Hid ((⟨#[91]⟩ ++ str ((lso f).takeWhile (· != 94)) ++ str ((lso f).dropWhile (· != 94)).tail ++ ⟨#[94, 93]⟩ : ByteArray) = str (91 :: ((lso f).filter (· != 94) ++ [94] ++ [93]))) := hide (by rw [show (⟨#[91]⟩ : ByteArray) = str [91] from rfl, show (⟨#[94, 93]⟩ : ByteArray) = str [94, 93] from rfl, str_app, str_app, str_app, ← htw]; simp)
       clear HSH hsz h256 h46 h91 hl1 h93 h94 HO HL2 htw hlt hs1 hs2
       generalize ⟨#[91]⟩ ++ str ((lso f).takeWhile (· != 94)) ++ str ((lso f).dropWhile (· != 94)).tail ++ ⟨#[94, 93]⟩ = A3 at *
       generalize ⟨#[91]⟩ ++ str ((lso f).takeWhile (· != 94)) ++ str ((lso f).dropWhile (· != 94)).tail = A2 at *
       generalize ⟨#[91]⟩ ++ str ((lso f).takeWhile (· != 94)) = A1 at *
       generalize str ((lso f).takeWhile (· != 94)) = T1 at *
       generalize str ((lso f).dropWhile (· != 94)).tail = T2 at *
       generalize str (lso f) = T at *
       go_enter Tryz.func170, Tryz.ntmps170
       go_wp2_with fail
       refine (unhide HL _).mono ?_
       rintro e w1 ⟨rfl, hb1⟩
       have HB1 := hide (((Below.refl _ w).alloc (Nat.le_refl _) (.cells #[.int .u64 x0, .int .u64 x1, .int .u64 x2, .int .u64 x3] 226)).trans (hb1.mono (by simp)))
       have hg1 := keep_pat hg hb1
       have hc0 := cell_of_row w1 _ 0 _ _ _ hg1
       have hc1 := cell_of_row w1 _ 1 _ _ _ hg1
       have hc2 := cell_of_row w1 _ 2 _ _ _ hg1
       have hc3 := cell_of_row w1 _ 3 _ _ _ hg1
       clear hb1 hg1
       go_wp2_with fail
       refine (unhide HH _).mono ?_
       rintro e w2 ⟨rfl, rfl⟩
       go_wp2_with fail
       refine (unhide HC _).mono ?_
       rintro e w3 ⟨rfl, q3, rfl⟩
       have HB3 := hide (below_drewN ((unhide HB1).alloc (unhide HB1).size (.cells #[.int .u64 x0, .int .u64 x1, .int .u64 x2, .int .u64 x3] 226)) q3)
       go_wp2
       go_ret
       exact ⟨ret_str ((unhide HX).trans (unhide HR).symm), unhide HB3⟩
      | false =>
       have HR : Hid (str (shw f) = str (91 :: (lso f ++ [93]))) := hide (by rw [unhide HSH, if_neg h256, if_neg h46, if_neg h91, if_neg hl1, if_neg (by rw [h93]; decide), if_neg (by rw [h94]; decide), List.append_nil, no_hat h94])
       have HC := hide (fun W => cut_no (str (lso f)) 94 W (by rw [str_list]; intro hm; rw [mem_lso.1 hm] at h94; cases h94))
       have ha1 := add_run (a := ⟨#[91]⟩) (b := str (lso f)) (by have : (ByteArray.mk #[91]).size = 1 := rfl; omega)
       have ha2 := add_run (a := ⟨#[91]⟩ ++ str (lso f)) (b := ⟨#[93]⟩) (by rw [ByteArray.size_append]; have : (ByteArray.mk #[91]).size = 1 := rfl; have : (ByteArray.mk #[93]).size = 1 := rfl; omega)
       have HX : Hid ((⟨#[91]⟩ ++ str (lso f) ++ ⟨#[93]⟩ : ByteArray) = str (91 :: (lso f ++ [93]))) := hide (by rw [show (⟨#[91]⟩ : ByteArray) = str [91] from rfl, show (⟨#[93]⟩ : ByteArray) = str [93] from rfl, str_app, str_app]; rfl)
       clear HSH hsz h256 h46 h91 hl1 h93 h94 HO HL2
       generalize ⟨#[91]⟩ ++ str (lso f) ++ ⟨#[93]⟩ = A2 at *
       generalize ⟨#[91]⟩ ++ str (lso f) = A1 at *
       generalize str (lso f) = T at *
       go_enter Tryz.func170, Tryz.ntmps170
       go_wp2_with fail
       refine (unhide HL _).mono ?_
       rintro e w1 ⟨rfl, hb1⟩
       have HB1 := hide (((Below.refl _ w).alloc (Nat.le_refl _) (.cells #[.int .u64 x0, .int .u64 x1, .int .u64 x2, .int .u64 x3] 226)).trans (hb1.mono (by simp)))
       have hg1 := keep_pat hg hb1
       have hc0 := cell_of_row w1 _ 0 _ _ _ hg1
       have hc1 := cell_of_row w1 _ 1 _ _ _ hg1
       have hc2 := cell_of_row w1 _ 2 _ _ _ hg1
       have hc3 := cell_of_row w1 _ 3 _ _ _ hg1
       clear hb1 hg1
       go_wp2_with fail
       refine (unhide HH _).mono ?_
       rintro e w2 ⟨rfl, rfl⟩
       go_wp2_with fail
       refine (unhide HC _).mono ?_
       rintro e w3 ⟨rfl, q3, rfl⟩
       have HB3 := hide (below_drewN ((unhide HB1).alloc (unhide HB1).size (.cells #[.int .u64 x0, .int .u64 x1, .int .u64 x2, .int .u64 x3] 226)) q3)
       go_wp2
       go_ret
       exact ⟨ret_str ((unhide HX).trans (unhide HR).symm), unhide HB3⟩
end Pt
end Go.Proofs.YtidhbhdcoanfcaaGreatDoor
