import Derived.Test.YtmhegbeemgagkaaGreatDoorGm31
set_option maxHeartbeats 8000000
set_option maxRecDepth 100000
namespace Go.Proofs.YtmhegbeemgagkaaGreatDoor
open Go.RowKit
namespace Pt
open Cd


theorem no_len (f : UInt8 → Bool) : (lso fun b => !f b).length = 0 ↔ (lso f).length = 256 := by
 rw [lso_all]
 constructor
 ·intro h b
  have h0 := List.eq_nil_of_length_eq_zero h
  cases hf : f b with
  | true => rfl
  | false =>
   have : b ∈ lso (fun b => !f b) := mem_lso.2 (by simp [hf])
   rw [h0] at this
   simp at this
 ·intro h
  have : lso (fun b => !f b) = [] := by
   apply List.eq_nil_iff_forall_not_mem.2
   intro b hb
   have := mem_lso.1 hb
   rw [h b] at this
   cases this
  rw [this]
  rfl
def noHat (l : List UInt8) : List UInt8 := l.filter (· != 94)
theorem noHat_step {l : List UInt8} {k : Nat} {c : UInt8} (h : l[k]? = some c) : noHat (l.take (k + 1)) = if c = 94 then noHat (l.take k) else noHat (l.take k) ++ [c] := by
 have hk := (List.getElem?_eq_some_iff.1 h).1
 have hc := (List.getElem?_eq_some_iff.1 h).2
 rw [List.take_succ_eq_append_getElem hk, hc]
 unfold noHat
 rw [List.filter_append]
 by_cases e : c = 94
 ·rw [if_pos e, e]; simp
 ·rw [if_neg e]; simp [e]
def hatIn (l : List UInt8) : Bool := l.contains 94
theorem any_step {l : List UInt8} {k : Nat} {c : UInt8} (h : l[k]? = some c) : hatIn (l.take (k + 1)) = (hatIn (l.take k) || c == 94) := by
 unfold hatIn
 have hk := (List.getElem?_eq_some_iff.1 h).1
 have hc := (List.getElem?_eq_some_iff.1 h).2
 rw [List.take_succ_eq_append_getElem hk, hc, Bool.eq_iff_iff, Bool.or_eq_true, con_iff, con_iff, List.mem_append, List.mem_singleton, beq_iff_eq]
 exact ⟨fun h => h.imp id Eq.symm, fun h => h.imp id Eq.symm⟩
def cvB (v : Value) : Sem Value := convert 134 9 v
theorem cvB_as (v : Value) : convert 134 9 v = cvB v := rfl
theorem cvB_own {w : World} {B : Nat} {v : Value} {L : List UInt8} (h : Own B w v L) : (cvB v).run Tryz.prog w = .ok (.string (str L)) w := conv_own h
attribute [local go_sem ↓] cvB_as
theorem push_txt {B : Nat} {wr w2 : World} {A : Obj} {v : Value} {e size n : Nat} {xs : List Value} (hB : B ≤ wr.heap.size) (ho : wr.ownsRow B e size v n xs) (hg : (wr.alloc A).grownBy w2 v.ownBlock) : Below B wr w2 :=
 ((Below.refl B wr).alloc hB A).grown hg (by simp; omega) (fun k e => (ho.lt k e).1)
theorem shown_any (p : List UInt8) (w : World) (hp : Pcs p) :
  Calls Tryz.prog 180 #[.agg #[.string (str p)]] w fun e w' => e = .returned (.string (str (shw (adm p)))) ∧ Below w.heap.size w w' := by
 obtain ⟨i0, hi, hz0, hz1, hz2⟩ := info_parts infoB
 have HY := hide (fun W => admitted_any p true W hp)
 have HN := hide (fun W => admitted_any p false W hp)
 have HA := hide (fun W => refAdmits_any p 93 W hp)
 rw [beq_yes] at HY
 rw [beq_no] at HN
 have hnl := no_len (adm p)
 have hly := lso_len (adm p)
 have hln := lso_len (fun b => !adm p b)
 generalize adm p = f at *
 have HSH : Hid (shw f = if (lso f).length = 256 then [46] else if lso f = [46] then [91, 46, 93] else if lso f = [91] then [91, 91, 93] else if (lso f).length = 1 then lso f else if f 93 = true then 91 :: 94 :: (lso (fun b => !f b) ++ [93]) else 91 :: (((lso f).filter (· != 94) ++ (if f 94 = true then [94] else [])) ++ [93])) := rfl
 have HHAT : Hid (hatIn (lso f) = f 94) := hide (by rw [hatIn, Bool.eq_iff_iff, con_iff, mem_lso])
 generalize hT : str p = T at *
 clear hT
 go_enter Tryz.func180, Tryz.ntmps180
 go_wp2_with fail
 refine (unhide HY _).mono ?_
 rintro e w1 ⟨v1, rfl, ho1, hb1⟩
 have HG1 := hide (keep_pat (heap_alloc_last w (.cells #[.string T] 252)) hb1)
 have hc1 := cell_of_row w1 _ 0 _ _ _ (unhide HG1)
 have HO1 := hide ho1
 have HB1 := hide (((Below.refl _ w).alloc (Nat.le_refl _) (.cells #[.string T] 252)).trans (hb1.mono (by simp)))
 clear ho1 hb1
 go_wp2_with fail
 refine (unhide HN _).mono ?_
 rintro e w2 ⟨v2, rfl, ho2, hb2⟩
 have HG2 := hide (keep_pat (unhide HG1) hb2)
 have HO12 := hide ((unhide HO1).below hb2)
 have HO2 := hide ho2
 have HB2 := hide ((unhide HB1).trans (hb2.mono (unhide HB1).size))
 clear ho2 hb2 hc1 HG1 HO1 HB1
 obtain ⟨a1, cap1, rfl⟩ := own_slice (unhide HO12)
 obtain ⟨a2, cap2, rfl⟩ := own_slice (unhide HO2)
 have hc1 := cell_of_row w2 _ 0 _ _ _ (unhide HG2)
 clear HY HN
 by_cases h256 : (lso f).length = 256
 ·have hq : ((lso fun b => !f b).length : Int) = 0 := by have := hnl.2 h256; omega
  have HR : Hid (str (shw f) = ⟨#[46]⟩) := hide (by rw [unhide HSH, if_pos h256]; rfl)
  clear h256 hnl HSH
  generalize (lso fun b => !f b).length = n2 at *
  go_wp2
  go_ret
  exact ⟨ret_str (unhide HR).symm, unhide HB2⟩
 ·have hq : ¬ ((lso fun b => !f b).length : Int) = 0 := by
   intro e
   exact h256 (hnl.1 (by omega))
  have hqb : (((lso fun b => !f b).length : Int) == 0) = false := by rw [beq_eq_false_iff_ne]; exact hq
  clear hnl
  by_cases hl1 : (lso f).length = 1
  ·obtain ⟨c, hc⟩ := List.length_eq_one_iff.1 hl1
   obtain ⟨g, cp, hv, hg, hcell⟩ := own_cells (unhide HO12) (by omega)
   injection hv with e1 _ e3
   subst e1
   subst e3
   have hc0 := hcell 0 c (by rw [hc]; rfl)
   have hcv := cvB_own (unhide HO12)
   have hq1 : ((lso f).length : Int) = 1 := by omega
   by_cases h46 : c = 46
   ·have hd : (c.toNat : Int) = 46 := by rw [h46]; rfl
    have HR : Hid (str (shw f) = ⟨#[91, 46, 93]⟩) := hide (by rw [unhide HSH, if_neg h256, if_pos (by rw [hc, h46])]; rfl)
    clear hc h46 HSH h256 hl1 hcell
    generalize lso f = L at *
    go_wp2
    go_ret
    exact ⟨ret_str (unhide HR).symm, unhide HB2⟩
   ·by_cases h91 : c = 91
    ·have hd : (c.toNat : Int) = 91 := by rw [h91]; rfl
     have HR : Hid (str (shw f) = ⟨#[91, 91, 93]⟩) := hide (by rw [unhide HSH, if_neg h256, if_neg (by rw [hc, h91]; decide), if_pos (by rw [hc, h91])]; rfl)
     clear hc h46 h91 HSH h256 hl1 hcell
     generalize lso f = L at *
     go_wp2
     go_ret
     exact ⟨ret_str (unhide HR).symm, unhide HB2⟩
    ·have hd1 : ((c.toNat : Int) == 46) = false := by rw [beq_eq_false_iff_ne]; exact ne_int h46
     have hd2 : ((c.toNat : Int) == 91) = false := by rw [beq_eq_false_iff_ne]; exact ne_int h91
     have HR : Hid (str (shw f) = str (lso f)) := hide (by rw [unhide HSH, if_neg h256, if_neg (by rw [hc]; intro e; exact h46 (List.cons.inj e).1), if_neg (by rw [hc]; intro e; exact h91 (List.cons.inj e).1), if_pos hl1])
     clear hc h46 h91 HSH h256 hl1 hcell
     generalize lso f = L at *
     go_wp2
     go_ret
     exact ⟨ret_str (unhide HR).symm, unhide HB2⟩
  ·have hq1 : ¬ ((lso f).length : Int) = 1 := by omega
   have hq1b : (((lso f).length : Int) == 1) = false := by rw [beq_eq_false_iff_ne]; exact hq1
   have n46 : lso f ≠ [46] := fun e => hl1 (by rw [e]; rfl)
   have n91 : lso f ≠ [91] := fun e => hl1 (by rw [e]; rfl)
   have hsw : w.heap.size < w2.heap.size := (Array.getElem?_eq_some_iff.1 (unhide HG2)).1
   cases h93 : f 93 with
   | true =>
    have HR : Hid (str (shw f) = str (91 :: 94 :: (lso (fun b => !f b) ++ [93]))) := hide (by rw [unhide HSH, if_neg h256, if_neg n46, if_neg n91, if_neg hl1, if_pos h93])
    have hs2 := str_size (lso (fun b => !f b))
    have ha1 := add_run (a := ⟨#[91, 94]⟩) (b := str (lso (fun b => !f b))) (by have : (ByteArray.mk #[91, 94]).size = 2 := rfl; omega)
    have ha2 := add_run (a := ⟨#[91, 94]⟩ ++ str (lso (fun b => !f b))) (b := ⟨#[93]⟩) (by rw [ByteArray.size_append]; have : (ByteArray.mk #[91, 94]).size = 2 := rfl; have : (ByteArray.mk #[93]).size = 1 := rfl; omega)
    have HX : Hid ((⟨#[91, 94]⟩ ++ str (lso (fun b => !f b)) ++ ⟨#[93]⟩ : ByteArray) = str (91 :: 94 :: (lso (fun b => !f b) ++ [93]))) := hide (by rw [show (⟨#[91, 94]⟩ : ByteArray) = str [91, 94] from rfl, show (⟨#[93]⟩ : ByteArray) = str [93] from rfl, str_app, str_app]; rfl)
    rw [h93] at HA
    have hcv := cvB_own ((unhide HO2).alloc (.cells #[.string T] 252))
    clear HSH h256 hl1 n46 n91 h93 hs2 HHAT
    generalize ⟨#[91, 94]⟩ ++ str (lso (fun b => !f b)) ++ ⟨#[93]⟩ = A2 at *
    generalize ⟨#[91, 94]⟩ ++ str (lso (fun b => !f b)) = A1 at *
    generalize str (lso (fun b => !f b)) = T2 at *
    generalize (lso (fun b => !f b)).length = n2 at *
    generalize (lso f).length = n1 at *
    go_wp2_with fail
    refine (unhide HA _).mono ?_
    rintro e w3 ⟨rfl, rfl⟩
    go_wp2
    go_ret
    exact ⟨ret_str ((unhide HX).trans (unhide HR).symm), (unhide HB2).alloc (unhide HB2).size _⟩
   | false =>
    rw [h93] at HA
    have HR : Hid (str (shw f) = str (91 :: (((lso f).filter (· != 94) ++ (if f 94 = true then [94] else [])) ++ [93]))) := hide (by rw [unhide HSH, if_neg h256, if_neg n46, if_neg n91, if_neg hl1, if_neg (by rw [h93]; decide)])
    clear HSH h256 hl1 n46 n91 h93
    generalize (lso (fun b => !f b)).length = n2 at *
    go_wp2_with fail
    refine (unhide HA _).mono ?_
    rintro e w3 ⟨rfl, rfl⟩
    have HW3 := hide ((unhide HB2).alloc (unhide HB2).size (.cells #[.string T] 252))
    have HO3 := hide ((unhide HO12).below ((Below.refl _ w2).alloc (Nat.le_refl _) (.cells #[.string T] 252)))
    have HSTEP := hide (fun k c h => noHat_step (l := lso f) (k := k) (c := c) h)
    have HANY := hide (fun k c h => any_step (l := lso f) (k := k) (c := c) h)
    have HEND : Hid (∀ k, (lso f).length ≤ k → noHat ((lso f).take k) = (lso f).filter (· != 94) ∧ hatIn ((lso f).take k) = f 94) := fun k hk => by rw [List.take_of_length_le hk]; exact ⟨rfl, unhide HHAT⟩
    have HLEN : Hid (∀ k, (noHat ((lso f).take k)).length ≤ k) := fun k => by
     have h1 := List.length_filter_le (· != 94) ((lso f).take k)
     have h2 := List.length_take_le k (lso f)
     unfold noHat
     omega
    have HGET : Hid (∀ k, k < (lso f).length → ∃ c, (lso f)[k]? = some c) := fun k hk => ⟨_, List.getElem?_eq_getElem hk⟩
    have HIF : Hid (∀ b : Bool, f 94 = b → (lso f).filter (· != 94) ++ (if f 94 = true then [94] else []) = (lso f).filter (· != 94) ++ (if b = true then [94] else [])) := fun b h => by rw [h]
    generalize (lso f).filter (· != 94) = NF at *
    generalize f 94 = F94 at *
    generalize lso f = L at *
    go_wp2
    go_loopw [6, 7, 8] (fun s6 s7 s8 wr => ∃ (k : Nat) (v : Value), v = s6 ∧ s7 = .bool (hatIn (L.take k)) ∧ s8 = .int .i64 k ∧ k ≤ L.length ∧ Hid (Own (w2.heap.size + 1) wr v (noHat (L.take k))) ∧ Hid (Below (w2.heap.size + 1) (w2.alloc (.cells #[.string T] 252)) wr)) (fun _ _ i _ => L.length - (intOf i).toNat)
    case atStart =>
     refine ⟨0, _, rfl, rfl, rfl, by omega, ?_, (Below.refl _ _).alloc (by simp) _⟩
     have := own_made (w2.alloc (.cells #[.string T] 252))
     simp only [World.size_alloc] at this
     exact this
    case round =>
     obtain ⟨k, v, rfl, rfl, rfl, hk, HO, HB⟩ := hrel
     have HLT : Hid (w2.heap.size + 1 ≤ wr.heap.size) := hide (by have := (unhide HB).size; simpa using this)
     have HV : Hid (Below (w2.alloc (.cells #[.string T] 252)).heap.size (w2.alloc (.cells #[.string T] 252)) wr) := hide (by rw [World.size_alloc]; exact unhide HB)
     have hln := unhide HLEN k
     by_cases hlt : k < L.length
     ·have hltz : (k : Int) < (L.length : Int) := by omega
      obtain ⟨c, hc⟩ := unhide HGET k hlt
      obtain ⟨g, cp, hv, hg, hcell⟩ := own_cells ((unhide HO3).below (unhide HV)) (by omega)
      injection hv with e1 _ e3
      subst e1
      subst e3
      have hc0 := hcell k c hc
      have HS := hide (unhide HSTEP k c hc)
      have HC := hide (unhide HANY k c hc)
      clear hcell
      by_cases h94 : c = 94
      ·have hd : ((c.toNat : Int) == 94) = true := by rw [h94]; rfl
       rw [if_pos h94] at HS
       have HC2 : Hid (hatIn (L.take (k + 1)) = true) := hide (by rw [unhide HC, h94]; simp)
       clear h94 hc
       generalize noHat (L.take k) = acc at *
       generalize hatIn (L.take k) = hat at *
       go_wp2
       go_roundw
       case rel => exact ⟨k + 1, v, rfl, by rw [unhide HC2], by go_num, by omega, by rw [unhide HS]; exact HO, HB⟩
       case measure => simp [intOf]; omega
      ·have hd : ((c.toNat : Int) == 94) = false := by rw [beq_eq_false_iff_ne]; exact ne_int h94
       rw [if_neg h94] at HS
       have HC2 : Hid (hatIn (L.take (k + 1)) = hatIn (L.take k)) := hide (by rw [unhide HC]; simp [h94])
       clear h94 hc
       generalize noHat (L.take k) = acc at *
       generalize hatIn (L.take k) = hat at *
       go_wp2_with (at_builtin; refine wpList_append_own _ rfl _ _ 134 rfl (w2.heap.size + 1) 5 i0 (.int .u8 0) 1 1 Tryz.underlying134 hi hz0 hz1 hz2 rfl (by decide) _ _ _ rfl ((unhide HO).alloc _) ⟨wr.heap.size, 0, none⟩ 1 1 [.int .u8 (c.toNat : Int)] rfl rfl (one_new _ _ _) (by simp [Value.oneCell']) (by unfold maxLen; omega) (by omega) (by have h1 := unhide HLT; simp; omega) ?_; intro v' w4 hown' hgrow hnil; clear hnil; have HO4 := hide (own_push (c := c) rfl hown'); have HB4 := hide (push_txt (unhide HLT) (unhide HO) hgrow); clear hown' hgrow)
       go_roundw
       case rel => exact ⟨k + 1, v', rfl, by rw [unhide HC2], by go_num, by omega, by rw [unhide HS]; exact HO4, (unhide HB).trans (unhide HB4)⟩
       case measure => simp [intOf]; omega
     ·have hltz : ¬ (k : Int) < (L.length : Int) := by omega
      obtain ⟨e1, e2⟩ := unhide HEND k (by omega)
      have HE1 := hide e1
      have HE2 := hide e2
      have HI2 := hide (unhide HIF _ e2.symm)
      clear e1 e2
      generalize noHat (L.take k) = acc at *
      generalize hatIn (L.take k) = hat at *
      have HBW := hide ((unhide HW3).trans ((unhide HV).mono (unhide HW3).size))
      cases hat with
      | true =>
       have hl2 : acc.length ≤ 256 := by omega
       have hs2 := str_size (acc ++ [94])
       rw [List.length_append] at hs2
       have hs3 : (str (acc ++ [94])).size ≤ 300 := by rw [hs2]; simp; omega
       have ha1 := add_run (a := ⟨#[91]⟩) (b := str (acc ++ [94])) (by have : (ByteArray.mk #[91]).size = 1 := rfl; omega)
       have ha2 := add_run (a := ⟨#[91]⟩ ++ str (acc ++ [94])) (b := ⟨#[93]⟩) (by rw [ByteArray.size_append]; have : (ByteArray.mk #[91]).size = 1 := rfl; have : (ByteArray.mk #[93]).size = 1 := rfl; omega)
       have HX : Hid ((⟨#[91]⟩ ++ str (acc ++ [94]) ++ ⟨#[93]⟩ : ByteArray) = str (91 :: ((acc ++ [94]) ++ [93]))) := hide (by rw [show (⟨#[91]⟩ : ByteArray) = str [91] from rfl, show (⟨#[93]⟩ : ByteArray) = str [93] from rfl, str_app, str_app]; rfl)
       have HCV : Hid (∀ (W : World) v, Own (w2.heap.size + 1) W v (acc ++ [94]) → (cvB v).run Tryz.prog W = .ok (.string (str (acc ++ [94]))) W) := fun W v h => cvB_own h
       clear hs2 hs3
       generalize ⟨#[91]⟩ ++ str (acc ++ [94]) ++ ⟨#[93]⟩ = A2 at *
       generalize ⟨#[91]⟩ ++ str (acc ++ [94]) = A1 at *
       generalize str (acc ++ [94]) = TT at *
       go_wp2_with (at_builtin; refine wpList_append_own _ rfl _ _ 134 rfl (w2.heap.size + 1) 5 i0 (.int .u8 0) 1 1 Tryz.underlying134 hi hz0 hz1 hz2 rfl (by decide) _ _ _ rfl ((unhide HO).alloc _) ⟨wr.heap.size, 0, none⟩ 1 1 [.int .u8 94] rfl rfl (one_new _ _ _) (by simp [Value.oneCell']) (by unfold maxLen; omega) (by omega) (by have h1 := unhide HLT; simp; omega) ?_; intro v' w4 hown' hgrow hnil; clear hnil; have HO4 := hide (own_push (c := 94) rfl hown'); have HB4 := hide (push_txt (unhide HLT) (unhide HO) hgrow); have hcv := unhide HCV _ _ (unhide HO4); clear hown' hgrow)
       go_ret
       exact ⟨ret_str (by rw [unhide HR, unhide HI2, ← unhide HE1, unhide HX]; rfl), (unhide HBW).trans ((unhide HB4).mono (by have := (unhide HW3).size; simp at this; omega))⟩
      | false =>
       have hs2 := str_size acc
       have ha1 := add_run (a := ⟨#[91]⟩) (b := str acc) (by have : (ByteArray.mk #[91]).size = 1 := rfl; omega)
       have ha2 := add_run (a := ⟨#[91]⟩ ++ str acc) (b := ⟨#[93]⟩) (by rw [ByteArray.size_append]; have : (ByteArray.mk #[91]).size = 1 := rfl; have : (ByteArray.mk #[93]).size = 1 := rfl; omega)
       have HX : Hid ((⟨#[91]⟩ ++ str acc ++ ⟨#[93]⟩ : ByteArray) = str (91 :: (acc ++ [93]))) := hide (by rw [show (⟨#[91]⟩ : ByteArray) = str [91] from rfl, show (⟨#[93]⟩ : ByteArray) = str [93] from rfl, str_app, str_app]; rfl)
       have hcv := cvB_own (unhide HO)
       clear hs2
       generalize ⟨#[91]⟩ ++ str acc ++ ⟨#[93]⟩ = A2 at *
       generalize ⟨#[91]⟩ ++ str acc = A1 at *
       generalize str acc = TT at *
       go_wp2
       go_ret
       exact ⟨ret_str (by rw [unhide HR, unhide HI2, ← unhide HE1, unhide HX]; simp), unhide HBW⟩
end Pt
namespace Pt
open Cd

theorem texts_slice' {W : World} {v : Value} {P : List (List UInt8)} (h : TextsAt W v P) : ∃ a cap, v = .slice a P.length cap := by
 rcases h with ⟨rfl, rfl⟩ | ⟨g, cap, rfl, _⟩
 ·exact ⟨none, 0, rfl⟩
 ·exact ⟨_, cap, rfl⟩
theorem texts_cell' {W : World} {a : Option Addr} {n cap : Nat} {P : List (List UInt8)} {i : Nat} {p : List UInt8} (h : TextsAt W (.slice a n cap) P) (hp : P[i]? = some p) : ∃ g, a = some ⟨g, 0, none⟩ ∧ g < W.heap.size ∧ W.cell? ⟨g, i, none⟩ = some (.string (str p)) := by
 rcases h with ⟨_, e⟩ | ⟨g, c2, e, h2, h3⟩
 ·rw [e] at hp; simp at hp
 ·injection e with e1 _ _
  exact ⟨g, e1, h2, h3 i p hp⟩
def swK (P : List (List UInt8)) (k : Nat) : List UInt8 := ((P.take k).map fun p => shw (adm p)).flatten
theorem swK_step {P : List (List UInt8)} {k : Nat} {p : List UInt8} (h : P[k]? = some p) : swK P (k + 1) = swK P k ++ shw (adm p) := by
 have hk := (List.getElem?_eq_some_iff.1 h).1
 have hc := (List.getElem?_eq_some_iff.1 h).2
 unfold swK
 rw [List.take_succ_eq_append_getElem hk, hc, List.map_append, List.flatten_append]
 simp only [List.map_cons, List.map_nil, List.flatten_cons, List.flatten_nil, List.append_nil]
theorem swK_len (P : List (List UInt8)) (k : Nat) : (swK P k).length ≤ 600 * k := by
 induction k with
 | zero => simp [swK]
 | succ k ih =>
  by_cases h : k < P.length
  ·rw [swK_step (List.getElem?_eq_getElem h), List.length_append]
   have := shw_len (adm P[k])
   omega
  ·unfold swK at *
   rw [List.take_of_length_le (by omega)] at ih ⊢
   omega
theorem refShow_none (a : Option Addr) (cap : Nat) (w : World) :
  Calls Tryz.prog 154 #[.slice a 0 cap] w fun e w' => e = .returned (.string ⟨#[46]⟩) ∧ w' = w := by
 go_enter Tryz.func154, Tryz.ntmps154
 go_wp2
 go_ret
 exact ⟨rfl, rfl⟩
theorem refShow_some (P : List (List UInt8)) (v : Value) (w : World) (hP : ∀ p ∈ P, Pcs p) (h16 : P.length ≤ 16) (hv : TextsAt w v P) (hne : P ≠ []) :
  Calls Tryz.prog 154 #[v] w fun e w' => e = .returned (.string (str (swK P P.length))) ∧ Below w.heap.size w w' := by
 obtain ⟨n, hn⟩ : ∃ n, n = P.length := ⟨_, rfl⟩
 obtain ⟨a, cap, rfl⟩ := texts_slice' hv
 have HV := hide hv
 have HF : Hid (∀ k, k < n → ∃ p, P[k]? = some p ∧ (∀ W, Calls Tryz.prog 180 #[.agg #[.string (str p)]] W fun e w' => e = .returned (.string (str (shw (adm p)))) ∧ Below W.heap.size W w') ∧ swK P (k + 1) = swK P k ++ shw (adm p)) := fun k hk => ⟨P[k], List.getElem?_eq_getElem (by omega), fun W => shown_any _ W (hP _ (List.getElem_mem _)), swK_step (List.getElem?_eq_getElem (by omega))⟩
 have HL := hide (fun k => swK_len P k)
 have HSL := hide (fun f => shw_len f)
 have HEND : Hid (∀ k, k = n → swK P k = swK P P.length) := fun k hk => by rw [hk, hn]
 have hn0 : 1 ≤ n := by rw [hn]; exact List.length_pos_iff.2 hne
 have hnz : (n : Int) ≤ 16 := by omega
 have hnb : ((n : Int) == 0) = false := by rw [beq_eq_false_iff_ne]; omega
 generalize swK P P.length = RES at *
 rw [← hn] at *
 clear hn h16 hne hP hv
 go_enter Tryz.func154, Tryz.ntmps154
 go_wp2
 go_loopw [3, 4] (fun s3 s4 wr => ∃ k : Nat, s3 = .string (str (swK P k)) ∧ s4 = .int .i64 k ∧ k ≤ n ∧ Hid (Below w.heap.size w wr)) (fun _ i _ => n - (intOf i).toNat)
 case atStart => exact ⟨0, rfl, rfl, by omega, Below.refl _ _⟩
 case round =>
  obtain ⟨k, rfl, rfl, hk, HB⟩ := hrel
  by_cases hlt : k < n
  ·have hltz : (k : Int) < (n : Int) := by omega
   obtain ⟨p, hp, hsh, hst⟩ := unhide HF k hlt
   obtain ⟨g, rfl, hg, hc0⟩ := texts_cell' ((unhide HV).below (unhide HB)) hp
   have hl1 := unhide HL k
   have hl2 := unhide HSL (adm p)
   have hs1 := str_size (swK P k)
   have hs2 := str_size (shw (adm p))
   have hadd := add_run (a := str (swK P k)) (b := str (shw (adm p))) (by omega)
   have HST : Hid (str (swK P k) ++ str (shw (adm p)) = str (swK P (k + 1))) := hide (by rw [hst, str_app])
   have HSH := hide hsh
   clear hp hsh hst hl1 hl2 hs1 hs2
   generalize str (shw (adm p)) = T2 at *
   generalize str p = T at *
   generalize hA : str (swK P k) = A at *
   generalize A ++ T2 = A2 at *
   clear hA
   go_wp2_with (go_at_call 180; refine (unhide HSH _).mono ?_; rintro e w1 ⟨rfl, hb1⟩; have HB1 := hide ((unhide HB).trans (hb1.mono (unhide HB).size)); clear hb1)
   go_roundw
   case rel => exact ⟨k + 1, by rw [unhide HST], by go_num, by omega, HB1⟩
   case measure => simp [intOf]; omega
  ·have hltz : ¬ (k : Int) < (n : Int) := by omega
   have HE := hide (unhide HEND k (by omega))
   generalize swK P k = A at *
   go_wp2
   go_ret
   exact ⟨by rw [← unhide HE]; rfl, unhide HB⟩
theorem refShow_any (P : List (List UInt8)) (v : Value) (w : World) (hP : ∀ p ∈ P, Pcs p) (h16 : P.length ≤ 16) (hv : TextsAt w v P) :
  Calls Tryz.prog 154 #[v] w fun e w' => e = .returned (.string (str (sws P))) ∧ Below w.heap.size w w' := by
 unfold sws
 by_cases h : P = []
 ·subst h
  rw [if_pos rfl]
  obtain ⟨a, cap, rfl⟩ := texts_slice' hv
  refine (refShow_none a cap w).mono ?_
  rintro e w' ⟨rfl, rfl⟩
  exact ⟨rfl, Below.refl _ _⟩
 ·rw [if_neg h]
  have := refShow_some P v w hP h16 hv h
  unfold swK at this
  rw [List.take_of_length_le (Nat.le_refl _)] at this
  exact this
end Pt
namespace Af
open RowB
structure SX (xb : Nat) (w W : World) (r : Rul) (u : Value) : Prop where
 low : Below xb w W
 lt : xb < W.heap.size
 blk : W.heap[xb]? = some (.cells (drulC r u).toArray 106 (0, 0))
 nxt : So.IRow 0 W u r.next
theorem SX.below {xb : Nat} {w W W' : World} {r : Rul} {u : Value} (h : SX xb w W r u) (b : Below W.heap.size W W') : SX xb w W' r u :=
 ⟨h.low.trans (b.mono (Nat.le_of_lt h.lt)), Nat.lt_of_lt_of_le h.lt b.size, (b.block _ h.lt).trans h.blk, irow_kept h.nxt (below_kept b)⟩
theorem SX.set {xb : Nat} {w W : World} {r r' : Rul} {u u' : Value} (h : SX xb w W r u) (i : Nat) (x : Value) (hc : (drulC r u).toArray.setIfInBounds i x = (drulC r' u').toArray) (hn : So.IRow 0 W u' r'.next) : SX xb w (W.setCell ⟨xb, i, none⟩ x) r' u' := by
 have k : Kq [106] noM W (W.setCell ⟨xb, i, none⟩ x) := .kp (kp_set W xb i x) h.blk (by simp)
 refine ⟨h.low.setCell (p := ⟨xb, i, none⟩) (Nat.le_refl _) x, by simp [World.setCell]; exact h.lt, by rw [← hc]; exact set_heap1 h.blk x, irow_kq hn k (by decide)⟩
theorem SX.cells {xb : Nat} {w W : World} {r : Rul} {u : Value} (h : SX xb w W r u) : W.cell? ⟨xb, 0, none⟩ = some (.int .i64 r.kind) ∧ W.cell? ⟨xb, 3, none⟩ = some (.string (Wd.str r.strip)) ∧ W.cell? ⟨xb, 4, none⟩ = some (.string (Wd.str r.add)) ∧ W.cell? ⟨xb, 5, none⟩ = some (.string (Wd.str r.cond)) ∧ W.cell? ⟨xb, 6, none⟩ = some u ∧ ∀ j, W.frozen? ⟨xb, j, none⟩ = false := by
 have h := h.blk
 refine ⟨?_, ?_, ?_, ?_, ?_, fun j => ?_⟩ <;> simp [World.cell?, World.frozen?, h, drulC]
def RRes (xb : Nat) (w : World) (X : Except Er Rul) (e : Ending) (w' : World) : Prop :=
 Below xb w w' ∧ match X with
 | .ok r => e = .returned (.int .i64 0) ∧ ∃ u, SX xb w w' r u
 | .error er => e = .returned (.int .i64 (er.2 : Nat)) ∧ er.2 ≠ 0 ∧ ∃ r u, SX xb w w' r u
theorem RRes.yes {xb : Nat} {w w' : World} {X : Except Er Rul} {r : Rul} {u : Value} (hX : X = .ok r) (h : SX xb w w' r u) : RRes xb w X (.returned (.int .i64 0)) w' := by
 subst hX
 exact ⟨h.low, rfl, u, h⟩
theorem RRes.no {xb : Nat} {w w' : World} {X : Except Er Rul} {l c : Nat} {ci : Int} {r : Rul} {u : Value} (hX : X = .error (l, c)) (k : SX xb w w' r u) (h0 : c ≠ 0) (hc : ci = (c : Nat)) : RRes xb w X (.returned (.int .i64 ci)) w' := by
 subst hX hc
 exact ⟨k.low, rfl, h0, r, u, k⟩
def condX (l : Nat) (r : Rul) (row : List Bs) : Except Er Rul := if row.length = 5 then (match condn l (fld row 4) with
 | .error e => .error e
 | .ok k => .ok { r with cond := k }) else .ok { r with cond := [46] }
theorem condX_4 {l : Nat} {r : Rul} {row : List Bs} (h : row.length = 4) : condX l r row = .ok { r with cond := [46] } := by unfold condX; rw [if_neg (by omega)]
theorem condX_b {l : Nat} {r : Rul} {row : List Bs} (h : row.length = 5) (hb : (fld row 4).all Wd.fit = false) : condX l r row = .error (l, 21) := by
 unfold condX
 rw [if_pos h, condn_no (e := (l, 21)) (by unfold ckB; rw [VlW.okB_bad hb]; rfl)]
theorem ok_B {l : Nat} {f : Bs} (h0 : f ≠ []) (hb : f.all Wd.fit = true) : VlW.okB f = true ∧ ckB l f = .ok () := by
 have : VlW.okB f = true := by
  unfold VlW.okB
  rw [hb]
  cases f with
  | nil => exact absurd rfl h0
  | cons _ _ => rfl
 exact ⟨this, by unfold ckB; rw [if_pos this]⟩
theorem condX_e {l : Nat} {r : Rul} {row : List Bs} (h : row.length = 5) (h0 : fld row 4 ≠ []) (hb : (fld row 4).all Wd.fit = true) (he : (Cd.rd (fld row 4)).2 ≠ 0) : condX l r row = .error (l, (Cd.rd (fld row 4)).2) := by
 unfold condX
 rw [if_pos h, condn_bad (ok_B h0 hb).2 he]
theorem condX_ok {l : Nat} {r : Rul} {row : List Bs} (h : row.length = 5) (h0 : fld row 4 ≠ []) (hb : (fld row 4).all Wd.fit = true) (he : (Cd.rd (fld row 4)).2 = 0) : condX l r row = .ok { r with cond := Cd.sws (Cd.rd (fld row 4)).1 } := by
 unfold condX
 rw [if_pos h, condn_ok (ok_B h0 hb).2 he]
def rul0 (c : Cls) (l : Nat) : Rul := ⟨c.kind, c.flag, c.cross, [], [], [], [], l⟩
structure RH (B xb g cap : Nat) (w0 w : World) (F : Fil) (P : DPts) (l : Nat) (c : Cls) (row : List Bs) : Prop where
 file : DFAt B w0 F P
 b0 : Below w0.heap.size w0 w
 fresh : w0.heap.size ≤ xb
 base : B ≤ w0.heap.size
 sx : SX xb w w (rul0 c l) (.slice none 0 0)
 rowI : RowIn B w (.slice (some ⟨g, 0, none⟩) row.length cap) row
 few : ∀ f ∈ row, f.length ≤ 65536 ∧ f ≠ []
theorem RH.cells {B xb g cap l : Nat} {w0 w : World} {F : Fil} {P : DPts} {c : Cls} {row : List Bs} (h : RH B xb g cap w0 w F P l c row) : ∀ W, Below xb w W → ∀ i, i < row.length → W.cell? ⟨g, i, none⟩ = some (.string (Fld.str (fld row i))) := by
 intro W b i hi
 obtain ⟨g', cap', e, hg, -, hc⟩ := (h.rowI.below (b.mono (Nat.le_trans h.base h.fresh))).get
 injection e with e _ _
 injection e with e
 injection e with e _ _
 subst e
 exact hc i hi
theorem RH.flags {B xb g cap l : Nat} {w0 w : World} {F : Fil} {P : DPts} {c : Cls} {row : List Bs} (h : RH B xb g cap w0 w F P l c row) : ∀ W, Below xb w W → ∀ s : ByteArray, s.size ≤ 1048576 → Calls Tryz.prog 19 #[ptr P.fb, .string s] W fun e w' => ∃ u, e = .returned (.tuple #[u, .int .i64 (flgE F s.data.toList)]) ∧ So.IRow 0 w' u (flgS F s.data.toList) ∧ Below W.heap.size W w' :=
 fun _W b s hs => flags_doc (h.file.below (h.b0.trans (b.mono h.fresh))) s hs
theorem RH.cap {B xb g cap l : Nat} {w0 w : World} {F : Fil} {P : DPts} {c : Cls} {row : List Bs} (h : RH B xb g cap w0 w F P l c row) : cap ≤ 9223372036854775807 := by
 obtain ⟨g', cap', e, -, -, hm, -⟩ := h.rowI
 injection e with _ _ e
 unfold maxLen at hm
 omega
theorem rule_of {F : Fil} {l : Nat} {c : Cls} {row : List Bs} {s : Bs} {p : Bs × List Int} (hn : row.length = 4 ∨ row.length = 5) (h1 : piece0 l (fld row 2) = .ok s) (h2 : added F l c.kind (fld row 3) = .ok p) : rule F l c row = condX l ⟨c.kind, c.flag, c.cross, s, p.1, [], p.2, l⟩ row := by
 unfold rule condX
 rw [if_neg (by omega), h1]
 simp only [h2]
 split <;> rfl
theorem rule_e1 {F : Fil} {l : Nat} {c : Cls} {row : List Bs} {e : Er} (hn : row.length = 4 ∨ row.length = 5) (h1 : piece0 l (fld row 2) = .error e) : rule F l c row = .error e := by
 unfold rule
 rw [if_neg (by omega), h1]
theorem rule_e2 {F : Fil} {l : Nat} {c : Cls} {row : List Bs} {s : Bs} {e : Er} (hn : row.length = 4 ∨ row.length = 5) (h1 : piece0 l (fld row 2) = .ok s) (h2 : added F l c.kind (fld row 3) = .error e) : rule F l c row = .error e := by
 unfold rule
 rw [if_neg (by omega), h1]
 simp only [h2]
theorem pc0_ok {l : Nat} {f : Bs} (h : (pcN true f).2 = 0) : piece0 l f = .ok (pcN true f).1 := by
 have := pc_eq l true f
 rw [if_pos rfl, if_pos h] at this
 exact this
theorem pc0_no {l : Nat} {f : Bs} (h : (pcN true f).2 ≠ 0) : piece0 l f = .error (l, (pcN true f).2) := by
 have := pc_eq l true f
 rw [if_pos rfl, if_neg h] at this
 exact this
theorem pc1_ok {l : Nat} {f : Bs} (h : (pcN false f).2 = 0) : piece l f = .ok (pcN false f).1 := by
 have := pc_eq l false f
 rw [if_neg (by decide), if_pos h] at this
 exact this
theorem pc1_no {l : Nat} {f : Bs} (h : (pcN false f).2 ≠ 0) : piece l f = .error (l, (pcN false f).2) := by
 have := pc_eq l false f
 rw [if_neg (by decide), if_neg h] at this
 exact this
def addD (a : Bs) : Bs := if a = [48] then [] else a
theorem added_none {F : Fil} {l : Nat} {k : Int} {f : Bs} (h : Wd.rd [] f = none) : added F l k f = .error (l, 20) := by unfold added; rw [h]
theorem added_fit {F : Fil} {l : Nat} {k : Int} {f a r : Bs} {c : Bool} (h : Wd.rd [] f = some (a, r, c)) (ha : a ≠ [48]) (hf : fitN a ≠ 0) : added F l k f = .error (l, fitN a) := by
 unfold added
 rw [h]
 simp only [addW, if_neg ha, fit_ck, if_neg hf]
theorem addW_d {l : Nat} {a : Bs} (h : a = [48] ∨ fitN a = 0) : addW l a = .ok (addD a) := by
 unfold addW addD
 by_cases ha : a = [48]
 ·rw [if_pos ha, if_pos ha]
 ·rw [if_neg ha, if_neg ha, fit_ck, if_pos (h.resolve_left ha)]
theorem added_cut {F : Fil} {l : Nat} {k : Int} {f a r : Bs} {c : Bool} (h : Wd.rd [] f = some (a, r, c)) (ha : a = [48] ∨ fitN a = 0) : added F l k f = if c = false then .ok (addD a, []) else if k = 1 then .error (l, 118) else if flgE F r ≠ 0 then .error (l, (flgE F r).toNat) else .ok (addD a, flgS F r) := by
 unfold added
 rw [h]
 simp only [addW_d ha]
theorem infoDR : (Tryz.prog.info? 107).map (fun i => (i.zero, i.size, i.bytes)) = some (some (.agg #[.string ⟨#[]⟩, .string ⟨#[]⟩]), 2, 32) := by kernel_rfl
theorem infoDA : (Tryz.prog.info? 60).map (fun i => (i.zero, i.size, i.bytes)) = some (some (.slice none 0 0), 1, 24) := by kernel_rfl
theorem app_kq {a b : World} {B : Nat} {e : TypeId} {size n : Nat} {v : Value} {xs : List Value} (ho : a.ownsRow B e size v n xs) (hg : a.grownBy b v.ownBlock) (hB : B ≤ a.heap.size) : Kq [e] noM a b ∧ Below B a b :=
 ⟨Kq.grown hg ho (by simp), (Below.refl _ _).grown hg hB fun k hk => (ho.lt k hk).1⟩
theorem app_new {a b : World} {o : Obj} {B : Nat} {e : TypeId} {size n : Nat} {v : Value} {xs : List Value} (ho : a.ownsRow B e size v n xs) (hg : (a.alloc o).grownBy b v.ownBlock) (hB : B ≤ a.heap.size) : Kq [e] noM (a.alloc o) b ∧ Below B (a.alloc o) b ∧ a.heap.size < b.heap.size := by
 have h := app_kq (ho.alloc o) hg (Nat.le_trans hB (by simp))
 refine ⟨h.1, h.2, ?_⟩
 have := h.2.size
 simp at this
 omega
theorem rep_ok {F : Fil} (ok : FilOk F) (p : Bs × Bs) (h : F.reps.length < 256) : FilOk { F with reps := F.reps ++ [p] } := ⟨ok.kind, ok.spec, ok.specB, ok.cls, by simp; omega, ok.ali, ok.aliS, ok.rul, ok.len⟩
theorem DAt.addRep {B rb : Nat} {w w4 w5 : World} {R : Rdr} {P : DPts} {v v' : Value} {A : List (Nat × List Bs)} (h : DAt B w rb R P v A) (p : Bs × Bs) (hn : R.file.reps.length < 256) (k4 : Below w.heap.size w w4) (k5 : Kq [107] noM w4 w5) (l5 : Below B w4 w5)
  (o5 : w5.ownsRow B 107 2 v' (R.file.reps.length + 1) (R.file.reps.flatMap repC ++ repC p)) :
  DAt B (w5.setCell ⟨P.fb, 9, none⟩ v') rb { R with file := { R.file with reps := R.file.reps ++ [p] } } { P with vr := v' } v A ∧ Below B w (w5.setCell ⟨P.fb, 9, none⟩ v') :=
 h.grew 107 k4 k5 l5 9 { R.file with reps := R.file.reps ++ [p] } rfl ⟨rfl, rfl, rfl⟩ (.inl (by simpa using o5)) (.inr ⟨rfl, rfl, rfl, by decide⟩) (.inr ⟨rfl, rfl, by decide⟩) (.inr ⟨rfl, rfl, rfl, by decide⟩) (by decide) (rep_ok h.file.ok p hn)
theorem ali_ok {F : Fil} (ok : FilOk F) (p : List Int) (h : F.aliases.length < 1024) (hp : So.setOf p = p ∧ p.length ≤ 1048577) : FilOk { F with aliases := F.aliases ++ [p] } := ⟨ok.kind, ok.spec, ok.specB, ok.cls, ok.reps, by simp; omega, fun a ha => by
 rcases List.mem_append.1 ha with q | q
 ·exact ok.aliS a q
 ·simp at q; subst q; exact hp, ok.rul, ok.len⟩
theorem DAt.addAli {B rb : Nat} {w w4 w5 : World} {R : Rdr} {P : DPts} {v u v' : Value} {A : List (Nat × List Bs)} (h : DAt B w rb R P v A) (p : List Int) (hp : So.setOf p = p ∧ p.length ≤ 1048577) (hn : R.file.aliases.length < 1024) (k4 : Below w.heap.size w w4) (hu : So.IRow 0 w4 u p) (k5 : Kq [60] noM w4 w5) (l5 : Below B w4 w5)
  (o5 : w5.ownsRow B 60 1 v' (R.file.aliases.length + 1) (P.av ++ [u])) :
  DAt B (w5.setCell ⟨P.fb, 10, none⟩ v') rb { R with file := { R.file with aliases := R.file.aliases ++ [p] } } { P with va := v', av := P.av ++ [u] } v A ∧ Below B w (w5.setCell ⟨P.fb, 10, none⟩ v') := by
 have h4 := h.below k4
 refine h.grew 60 k4 k5 l5 10 { R.file with aliases := R.file.aliases ++ [p] } rfl ⟨rfl, rfl, rfl⟩ (.inr ⟨rfl, rfl, by decide⟩) (.inl ⟨by simpa using o5, by simp [h.file.aliF.1], ?_⟩) (.inr ⟨rfl, rfl, by decide⟩) (.inr ⟨rfl, rfl, rfl, by decide⟩) (by decide) (ali_ok h.file.ok p hn hp)
 intro i v q hv hq
 rcases snoc_get hv with ⟨_, hv⟩ | ⟨hi, hv⟩
 ·rcases snoc_get hq with ⟨_, hq⟩ | ⟨hi2, hq⟩
  ·exact irow_kq (h4.file.aliF.2 i v q hv hq) k5 (by decide)
  ·have := h.file.aliF.1; omega
 ·rcases snoc_get hq with ⟨hi2, hq⟩ | ⟨hi2, hq⟩
  ·have := h.file.aliF.1; omega
  ·subst hv hq
   exact irow_kq hu k5 (by decide)
theorem dcell {B rb : Nat} {w w5 : World} {R : Rdr} {P : DPts} {v : Value} {A : List (Nat × List Bs)} {o : Obj} {e : TypeId} (h : DAt B w rb R P v A) (k : Kq [e] noM (w.alloc o) w5) (he : e ≠ 97) (i : Nat) : w5.cell? ⟨P.fb, i, none⟩ = w.cell? ⟨P.fb, i, none⟩ ∧ w5.frozen? ⟨P.fb, i, none⟩ = false := by
 have h1 := (k.cells _ _ _ _ (alloc_heap1 h.file.fil o) (by simp; exact fun q => he q.symm)).trans (alloc_heap1 h.file.fil o)
 have h2 := h.file.fil
 simp [World.cell?, World.frozen?, h1, h2]
def repX (R : Rdr) (row : List Bs) : Except Er Rdr := match repRow R.line row with
 | .error e => .error e
 | .ok p => .ok { R with file := { R.file with reps := R.file.reps ++ [p] } }
theorem repX_no {R : Rdr} {row : List Bs} {e : Er} (h : repRow R.line row = .error e) : repX R row = .error e := by unfold repX; rw [h]
theorem repX_ok {R : Rdr} {row : List Bs} {p : Bs × Bs} (h : repRow R.line row = .ok p) : repX R row = .ok { R with file := { R.file with reps := R.file.reps ++ [p] } } := by unfold repX; rw [h]
def aliX (R : Rdr) (row : List Bs) : Except Er Rdr := match aliRow R.file R.line row with
 | .error e => .error e
 | .ok p => .ok { R with file := { R.file with aliases := R.file.aliases ++ [p] } }
theorem aliX_no {R : Rdr} {row : List Bs} {e : Er} (h : aliRow R.file R.line row = .error e) : aliX R row = .error e := by unfold aliX; rw [h]
theorem aliX_ok {R : Rdr} {row : List Bs} {p : List Int} (h : aliRow R.file R.line row = .ok p) : aliX R row = .ok { R with file := { R.file with aliases := R.file.aliases ++ [p] } } := by unfold aliX; rw [h]
theorem inner_rep {B rb : Nat} {w : World} {R : Rdr} {P : DPts} {v : Value} {A : List (Nat × List Bs)} (h : DAt B w rb R P v A) (row : List Bs) (rv : Value) (hrow : RowIn B w rv row) (hfew : ∀ f ∈ row, f.length ≤ 65536 ∧ f ≠ []) (h0 : row ≠ []) (hk : fld row 0 = [82, 69, 80]) (hlt : R.file.reps.length < 256) :
  Calls Tryz.prog 97 #[ptr rb, rv] w (DRes B rb v A w (repX R row)) := by
 obtain ⟨i0, hi, hz0, hz1, hz2⟩ := info_parts infoDR
 obtain ⟨d0, -⟩ := h.cells
 have hpos : 0 < row.length := List.length_pos_iff.2 h0
 obtain ⟨g, cap, rfl, hg, hgn, hrc⟩ := hrow.get
 have q0 := hrc 0 hpos
 have t0 := lst_t (s := Fld.str (fld row 0)) (l := [82, 69, 80]) (by rw [str_toList]; exact hk)
 have HH := hide h
 have HBW : Hid (∀ w1, Below w.heap.size w w1 → Below B w w1) := fun w1 b => b.mono h.base
 have hrb := h.lt
 clear h0 hk
 by_cases h3 : row.length = 3
 ·have q1 := hrc 1 (by omega)
  have q2 := hrc 2 (by omega)
  have hs1 := (hfew _ (List.mem_of_getElem? (fld_get (row := row) (i := 1) (by omega)))).1
  have hs2 := (hfew _ (List.mem_of_getElem? (fld_get (row := row) (i := 2) (by omega)))).1
  have HP := hide (fun W => piece_doc (Fld.str (fld row 1)) false W (by rw [fstr_wd, Wd.str_size]; exact hs1))
  have HQ := hide (fun W => piece_doc (Fld.str (fld row 2)) true W (by rw [fstr_wd, Wd.str_size]; exact hs2))
  rw [str_toList] at HP HQ
  have HX1 := hide (fun (hp : (pcN false (fld row 1)).2 ≠ 0) => repX_no (R := R) (repRow_p h3 (pc1_no (l := R.line) hp)))
  have HX2 := hide (fun (hp : (pcN false (fld row 1)).2 = 0) (hq : (pcN true (fld row 2)).2 ≠ 0) => repX_no (R := R) (repRow_q h3 (pc1_ok (l := R.line) hp) (pc0_no (l := R.line) hq)))
  have HX3 := hide (fun (hp : (pcN false (fld row 1)).2 = 0) (hq : (pcN true (fld row 2)).2 = 0) => repX_ok (R := R) (repRow_ok h3 (pc1_ok (l := R.line) hp) (pc0_ok (l := R.line) hq)))
  have hc2 : Hid (∀ w1, Below w.heap.size w w1 → w1.cell? ⟨g, 2, none⟩ = some (.string (Fld.str (fld row 2)))) := fun w1 b => ((b.mono h.base).cell (p := ⟨g, 2, none⟩) hg).trans q2
  rw [h3] at *
  clear h3 hrow hrc hfew hs1 hs2 h
  generalize pcN false (fld row 1) = pc at *
  obtain ⟨T1, ec⟩ := pc
  generalize pcN true (fld row 2) = pd at *
  obtain ⟨T2, ed⟩ := pd
  generalize Fld.str (fld row 0) = r0 at *
  go_enter Tryz.func97, Tryz.ntmps97
  go_wp2_with fail
  refine (unhide HP _).mono ?_
  rintro e w2 ⟨rfl, b2⟩
  have HB2 := hide b2
  have q2 := unhide hc2 _ b2
  clear b2
  by_cases hp : ec = 0
  ·subst hp
   go_wp2_with fail
   refine (unhide HQ _).mono ?_
   rintro e w3 ⟨rfl, b3⟩
   have HB3 : Hid (Below w.heap.size w w3) := btr (unhide HB2) b3
   have hA3 := (unhide HH).below (unhide HB3)
   have HA3 := hide hA3
   obtain ⟨-, -, -, -, k9, -, -, -, kz⟩ := hA3.file.cells
   have ho9 := hA3.file.reps
   have hfb3 := hA3.file.lt
   obtain ⟨av, cv, ev, hv1, hv2⟩ := own_len ho9
   rw [ev] at k9 ho9
   have HO9 := hide ho9
   have hbB := hA3.base
   clear ho9 hA3 hv1 hv2 ev
   go_wp2_with (at_builtin; (refine wpList_append_own _ rfl _ _ 92 rfl B 107 i0 (.agg #[.string ⟨#[]⟩, .string ⟨#[]⟩]) 2 32 Tryz.underlying92 hi hz0 hz1 hz2 rfl (by decide) _ _ _ rfl ((unhide HO9).alloc _) ⟨w3.heap.size, 0, none⟩ 1 1 [.string (Wd.str T1), .string (Wd.str T2)] rfl rfl (cell_two_new _ _ _ _) (by simp [Value.oneCell']) (by unfold maxLen; omega) (by omega) (by first | (simp; done) | (simp; omega)) ?_; intro v' w5 hown' hgrow hnil; clear hnil; obtain ⟨av5, cv5, rfl, -, -⟩ := own_len hown'; have HW5 := hide (app_new (unhide HO9) hgrow hbB); have HO5 := hide hown'; have k9' := (dcell (unhide HA3) (unhide HW5).1 (by decide) 9).1.trans k9; have kz' := (dcell (unhide HA3) (unhide HW5).1 (by decide) 9).2; have hf5 := Nat.lt_trans hfb3 (unhide HW5).2.2; clear hown' hgrow))
   have HZ := hide ((unhide HH).addRep (T1, T2) hlt ((unhide HB3).alloc (unhide HB3).size _) (unhide HW5).1 (unhide HW5).2.1 (unhide HO5))
   go_ret
   by_cases hq : ed = 0
   ·subst hq
    exact DRes.yes (unhide HX3 trivial rfl) (unhide HZ).2 (unhide HZ).1
   ·exact DRes.no (unhide HX2 trivial hq) (unhide HZ).2 hq rfl (unhide HZ).1.lineAt
  ·have hpz : ((ec : Int) == 0) = false := by rw [beq_eq_false_iff_ne]; omega
   have HNZ := hide hp
   have HA2 := hide ((unhide HH).below (unhide HB2)).lineAt
   have HX := hide (unhide HX1 hp)
   clear hp
   go_wp2_with fail
   go_ret
   exact DRes.no (unhide HX) (unhide HBW _ (unhide HB2)) (unhide HNZ) rfl (unhide HA2)
 ·have HX := hide (repX_no (R := R) (repRow_n (l := R.line) h3))
  have h3z : ((row.length : Int) == 3) = false := by rw [beq_eq_false_iff_ne]; omega
  have HA2 := hide h.lineAt
  clear h3 hrow hrc hfew h
  generalize Fld.str (fld row 0) = r0 at *
  generalize row.length = n at *
  go_enter Tryz.func97, Tryz.ntmps97
  go_wp2_with fail
  go_ret
  exact DRes.no (unhide HX) (Below.refl _ _) (by decide) rfl (unhide HA2)
theorem inner_ali {B rb : Nat} {w : World} {R : Rdr} {P : DPts} {v : Value} {A : List (Nat × List Bs)} (h : DAt B w rb R P v A) (row : List Bs) (rv : Value) (hrow : RowIn B w rv row) (hfew : ∀ f ∈ row, f.length ≤ 65536 ∧ f ≠ []) (h0 : row ≠ []) (hk : fld row 0 = [65, 70]) (hlt : R.file.aliases.length < 1024) :
  Calls Tryz.prog 97 #[ptr rb, rv] w (DRes B rb v A w (aliX R row)) := by
 obtain ⟨i0, hi, hz0, hz1, hz2⟩ := info_parts infoDA
 obtain ⟨d0, -⟩ := h.cells
 obtain ⟨k0, -⟩ := h.file.cells
 have hpos : 0 < row.length := List.length_pos_iff.2 h0
 obtain ⟨g, cap, rfl, hg, hgn, hrc⟩ := hrow.get
 have q0 := hrc 0 hpos
 have t0 := lst_f (s := Fld.str (fld row 0)) (l := [82, 69, 80]) (by rw [str_toList, hk]; decide)
 have t1 := lst_t (s := Fld.str (fld row 0)) (l := [65, 70]) (by rw [str_toList]; exact hk)
 have HH := hide h
 have hrb := h.lt
 have hgw : g < w.heap.size := Nat.lt_of_lt_of_le hg h.base
 have hfb := h.file.lt
 clear h0 hk
 by_cases h2 : row.length = 2
 ·have q1 := hrc 1 (by omega)
  have hs1 := (hfew _ (List.mem_of_getElem? (fld_get (row := row) (i := 1) (by omega)))).1
  have HP := hide (fun W => So.refReadAll R.file.kind (Fld.str (fld row 1)) W (by rw [fstr_wd, Wd.str_size]; omega))
  have hdl : Cut.dl (Fld.str (fld row 1)) = fld row 1 := str_toList _
  rw [hdl] at HP
  have HX1 := hide (fun (hp : So.rE R.file.kind (fld row 1) ≠ 0) => aliX_no (R := R) (aliRow_e (F := R.file) (l := R.line) h2 hp))
  have HX2 := hide (fun (hp : So.rE R.file.kind (fld row 1) = 0) => aliX_ok (R := R) (aliRow_ok (F := R.file) (l := R.line) h2 hp))
  have HSET := hide (fun (hp : So.rE R.file.kind (fld row 1) = 0) => rS_set R.file.kind (fld row 1) hp)
  have HNIL := hide (fun (hp : So.rE R.file.kind (fld row 1) ≠ 0) => show So.rS R.file.kind (fld row 1) = [] from if_neg hp)
  have HEP : Hid (0 ≤ So.rE R.file.kind (fld row 1)) := by
   unfold Hid So.rE So.readE
   repeat' split
   all_goals omega
  rw [h2] at *
  clear h2 hrow hrc hfew hs1 h hdl
  generalize So.rS R.file.kind (fld row 1) = S at *
  generalize So.rE R.file.kind (fld row 1) = ec at *
  generalize Fld.str (fld row 0) = r0 at *
  generalize Fld.str (fld row 1) = r1 at *
  go_enter Tryz.func97, Tryz.ntmps97
  go_wp2_with fail
  go_region_held2 (fun w' => w'.cell? ⟨P.fb, 0, none⟩ = some (.int .i64 R.file.kind) ∧ w'.cell? ⟨g, 1, none⟩ = some (.string r1)) (first | (with_reducible exact ⟨k03, z13⟩) | exact ⟨k0, q1⟩) (first | (go_at_call 44; refine (unhide HP _).mono ?_; rintro e w3 ⟨u, rfl, f3, b3'⟩; have b3 := ((Below.refl w.heap.size w).drew).trans b3'; have HB3 := hide b3; have HF3 := hide f3; have k03 := (b3.cell (p := ⟨P.fb, 0, none⟩) hfb).trans k0; have z13 := (b3.cell (p := ⟨g, 1, none⟩) hgw).trans q1; clear b3 f3 b3'))
  obtain ⟨au, cu, rfl, -, -⟩ := (unhide HF3).form
  have hA3 := (unhide HH).below (unhide HB3)
  have HA3 := hide hA3
  obtain ⟨-, -, -, -, -, k10, -, -, kz⟩ := hA3.file.cells
  have ho9 := hA3.file.alis
  have hfb3 := hA3.file.lt
  obtain ⟨av, cv, ev, hv1, hv2⟩ := own_len ho9
  rw [ev] at k10 ho9
  have HO9 := hide ho9
  have hbB := hA3.base
  clear ho9 hA3 hv1 hv2 ev k03 z13
  go_wp2_with (at_builtin; (refine wpList_append_own _ rfl _ _ 93 rfl B 60 i0 (.slice none 0 0) 1 24 Tryz.underlying93 hi hz0 hz1 hz2 rfl (by decide) _ _ _ rfl ((unhide HO9).alloc _) ⟨w3.heap.size, 0, none⟩ 1 1 [.slice au S.length cu] rfl rfl (cell_one_new _ _ _) (by simp [Value.oneCell']) (by unfold maxLen; omega) (by omega) (by first | (simp; done) | (simp; omega)) ?_; intro v' w5 hown' hgrow hnil; clear hnil; obtain ⟨av5, cv5, rfl, -, -⟩ := own_len hown'; have HW5 := hide (app_new (unhide HO9) hgrow hbB); have HO5 := hide hown'; have k9' := (dcell (unhide HA3) (unhide HW5).1 (by decide) 10).1.trans k10; have kz' := (dcell (unhide HA3) (unhide HW5).1 (by decide) 10).2; have hf5 := Nat.lt_trans hfb3 (unhide HW5).2.2; clear hown' hgrow))
  go_ret
  by_cases hq : ec = 0
  ·have HZ := hide ((unhide HH).addAli S (unhide HSET hq) hlt ((unhide HB3).alloc (unhide HB3).size (.cells #[.slice au S.length cu] 60)) (u := .slice au S.length cu) (irow_kept (unhide HF3) (below_kept ((Below.refl _ w3).alloc (Nat.le_refl _) _))) (unhide HW5).1 (unhide HW5).2.1 (unhide HO5))
   subst hq
   exact DRes.yes (unhide HX2 rfl) (unhide HZ).2 (unhide HZ).1
  ·have hn := unhide HNIL hq
   subst hn
   have HZ := hide ((unhide HH).addAli [] ⟨rfl, by simp⟩ hlt ((unhide HB3).alloc (unhide HB3).size (.cells #[.slice au 0 cu] 60)) (u := .slice au 0 cu) (irow_kept (unhide HF3) (below_kept ((Below.refl _ w3).alloc (Nat.le_refl _) _))) (unhide HW5).1 (unhide HW5).2.1 (unhide HO5))
   have he := unhide HEP
   exact DRes.no (unhide HX1 hq) (unhide HZ).2 (by omega) (by omega) (unhide HZ).1.lineAt
 ·have HX := hide (aliX_no (R := R) (aliRow_n (F := R.file) (l := R.line) h2))
  have h3z : ((row.length : Int) == 2) = false := by rw [beq_eq_false_iff_ne]; omega
  have HA2 := hide h.lineAt
  clear h2 hrow hrc hfew h
  generalize Fld.str (fld row 0) = r0 at *
  generalize row.length = n at *
  go_enter Tryz.func97, Tryz.ntmps97
  go_wp2_with fail
  go_ret
  exact DRes.no (unhide HX) (Below.refl _ _) (by decide) rfl (unhide HA2)
theorem rule_doc1 {B xb g cap l : Nat} {w0 w : World} {F : Fil} {P : DPts} {c : Cls} {row : List Bs} {a r : Bs} (h : RH B xb g cap w0 w F P l c row) (hn : row.length = 4 ∨ row.length = 5) (h1 : (pcN true (fld row 2)).2 = 0) (h2 : Wd.rd [] (fld row 3) = some (a, r, false)) (ha : a = [48]) :
  Calls Tryz.prog 121 #[ptr P.fb, ptr xb, .slice (some ⟨g, 0, none⟩) row.length cap] w (RRes xb w (rule F l c row)) := by
 have hadd := added_cut (F := F) (l := l) (k := c.kind) h2 (.inl ha)
 have HX1 := hide (fun p (hp : added F l c.kind (fld row 3) = .ok p) => rule_of hn (pc0_ok h1) hp)
 have HX2 := hide (fun e (hp : added F l c.kind (fld row 3) = .error e) => rule_e2 hn (pc0_ok h1) hp)
 have hcells := h.cells
 have hsx := h.sx
 have hlow := fun i (hi : i < row.length) => h.few _ (List.mem_of_getElem? (fld_get (row := row) (i := i) hi))
 have c2 := hcells w (Below.refl _ _) 2 (by omega)
 have hs2 := (hlow 2 (by omega)).1
 have hs3 := (hlow 3 (by omega)).1
 have HP := hide (fun W => piece_doc (Fld.str (fld row 2)) true W (by rw [fstr_wd, Wd.str_size]; exact hs2))
 rw [str_toList, h1] at HP
 have HR := hide (fun W => RfW.read_any (Fld.str (fld row 3)) W (by rw [fstr_wd, Wd.str_size]; omega))
 rw [str_toList, h2] at HR
 unfold RdW.ans at HR
 have hz := rd_len [] _ h2
 simp only [List.length_nil, Nat.zero_add] at hz
 have HC := hide hcells
 have HSX := hide hsx
 have HF := hide h.flags
 have hcap := h.cap
 have hxl := hsx.lt
 have HLOW := hide hlow
 have hdd : addD a = [] := if_pos ha
 rw [hdd] at hadd
 have t48 := lst_t (s := Wd.str a) (l := [48]) (by rw [Wd.str_list]; exact ha)
 rw [if_pos rfl] at hadd
 have HXX := hide (unhide HX1 _ hadd)
 clear h hcells hsx hlow h1 h2 hs2 hs3 hadd hdd ha HF hz
 generalize pcN true (fld row 2) = pc at *
 obtain ⟨T, ec⟩ := pc
 go_enter Tryz.func121, Tryz.ntmps121
 go_wp2_with fail
 refine (unhide HP _).mono ?_
 rintro e w2 ⟨rfl, b2⟩
 have HS2 := hide ((unhide HSX).below b2)
 have x3 := (unhide HS2).cells.2.1
 have xf := (unhide HS2).cells.2.2.2.2.2
 have xl := (unhide HS2).lt
 have HS3 : Hid (SX xb w (w2.setCell ⟨xb, 3, none⟩ (.string (Wd.str T))) ⟨c.kind, c.flag, c.cross, T, [], [], [], l⟩ (.slice none 0 0)) := (unhide HS2).set 3 _ rfl (unhide HS2).nxt
 have c3 := unhide HC _ (unhide HS3).low 3 (by omega)
 clear b2
 go_wp2_with fail
 refine (unhide HR _).mono ?_
 rintro e w3 ⟨rfl, b3⟩
 have HS4 := hide ((unhide HS3).below b3)
 have y0 := (unhide HS4).cells.1
 have y4 := (unhide HS4).cells.2.2.1
 have y5 := (unhide HS4).cells.2.2.2.1
 have y6 := (unhide HS4).cells.2.2.2.2.1
 have yf := (unhide HS4).cells.2.2.2.2.2
 have yl := (unhide HS4).lt
 clear b3 x3 xf xl c3 c2
 rcases hn with hn | hn
 ·have HY := hide ((unhide HXX).trans (condX_4 hn))
  have hn5 : (row.length : Int) = 4 := by omega
  rw [hn] at *
  have HS7 : Hid (SX xb w (w3.setCell ⟨xb, 5, none⟩ (.string ⟨#[46]⟩)) ⟨c.kind, c.flag, c.cross, T, [], [46], [], l⟩ (.slice none 0 0)) := (unhide HS4).set 5 _ rfl (unhide HS4).nxt
  go_wp2_with fail
  go_ret
  exact RRes.yes (unhide HY) (unhide HS7)
 ·have hn5 : (row.length : Int) = 5 := by omega
  have HS7 : Hid (SX xb w (w3.setCell ⟨xb, 5, none⟩ (.string ⟨#[46]⟩)) ⟨c.kind, c.flag, c.cross, T, [], [46], [], l⟩ (.slice none 0 0)) := (unhide HS4).set 5 _ rfl (unhide HS4).nxt
  have c4 := unhide HC _ (unhide HS7).low 4 (by omega)
  have hl4 := unhide HLOW 4 (by omega)
  have HB := hide (fun W => VlW.bytes_any (Fld.str (fld row 4)) W (by rw [fstr_wd, Wd.str_size]; unfold maxLen; omega))
  rw [str_toList] at HB
  have HCR := hide (fun W => Pt.refRead_any (Fld.str (fld row 4)) W)
  rw [str_toList] at HCR
  have HYB := hide (fun hb => (unhide HXX).trans (condX_b hn hb))
  have HYK := hide (fun hb he => (unhide HXX).trans (condX_ok hn hl4.2 hb he))
  have HYE := hide (fun hb he => (unhide HXX).trans (condX_e hn hl4.2 hb he))
  rw [hn] at *
  cases hb : (fld row 4).all Wd.fit with
  | false =>
   have HY := hide (unhide HYB hb)
   rw [hb] at HB
   clear hb HCR
   go_wp2_with fail
   refine (unhide HB _).mono ?_
   rintro e w8 ⟨rfl, rfl⟩
   go_wp2_with fail
   go_ret
   exact RRes.no (unhide HY) (unhide HS7) (by decide) rfl
  | true =>
   rw [hb] at HB
   by_cases he : (Cd.rd (fld row 4)).2 = 0
   ·have HY := hide (unhide HYK hb he)
    have HSH := hide (fun W v h => Pt.refShow_any (Cd.rd (fld row 4)).1 v W (Pt.rd_pcs _) (Cd.rd_len _) h)
    rw [he] at HCR
    clear hb he
    go_wp2_with fail
    refine (unhide HB _).mono ?_
    rintro e w8 ⟨rfl, rfl⟩
    go_wp2_with fail
    refine (unhide HCR _).mono ?_
    rintro e w9 ⟨v9, rfl, hp9, b9⟩
    have HS9 := hide ((unhide HS7).below b9)
    have HT9 := hide hp9.at
    clear hp9 b9
    go_wp2_with fail
    refine (unhide HSH _ _ (unhide HT9)).mono ?_
    rintro e w10 ⟨rfl, b10⟩
    have HS10 := hide ((unhide HS9).below b10)
    have v5 := (unhide HS10).cells.2.2.2.1
    have vf := (unhide HS10).cells.2.2.2.2.2
    have vl := (unhide HS10).lt
    have HS11 := hide ((unhide HS10).set 5 (.string (Wd.str (Cd.sws (Cd.rd (fld row 4)).1))) (r' := ⟨c.kind, c.flag, c.cross, T, [], Cd.sws (Cd.rd (fld row 4)).1, [], l⟩) rfl (unhide HS10).nxt)
    clear b10
    go_wp2_with fail
    go_ret
    exact RRes.yes (unhide HY) (unhide HS11)
   ·have HY := hide (unhide HYE hb he)
    have HNZ := hide he
    have hez : (((Cd.rd (fld row 4)).2 : Nat) : Int) ≠ 0 := by omega
    generalize (Cd.rd (fld row 4)).2 = ce at *
    have hez2 : ((ce : Int) == 0) = false := by rw [beq_eq_false_iff_ne]; exact hez
    clear hb he
    go_wp2_with fail
    refine (unhide HB _).mono ?_
    rintro e w8 ⟨rfl, rfl⟩
    go_wp2_with fail
    refine (unhide HCR _).mono ?_
    rintro e w9 ⟨v9, rfl, hp9, b9⟩
    have HS9 := hide ((unhide HS7).below b9)
    clear hp9 b9
    go_wp2_with fail
    go_ret
    exact RRes.no (unhide HY) (unhide HS9) (unhide HNZ) rfl
theorem rule_doc2 {B xb g cap l : Nat} {w0 w : World} {F : Fil} {P : DPts} {c : Cls} {row : List Bs} {a r : Bs} (h : RH B xb g cap w0 w F P l c row) (hn : row.length = 4 ∨ row.length = 5) (h1 : (pcN true (fld row 2)).2 = 0) (h2 : Wd.rd [] (fld row 3) = some (a, r, false)) (ha : a ≠ [48]) (hf : fitN a = 0) :
  Calls Tryz.prog 121 #[ptr P.fb, ptr xb, .slice (some ⟨g, 0, none⟩) row.length cap] w (RRes xb w (rule F l c row)) := by
 have hadd := added_cut (F := F) (l := l) (k := c.kind) h2 (.inr hf)
 have HX1 := hide (fun p (hp : added F l c.kind (fld row 3) = .ok p) => rule_of hn (pc0_ok h1) hp)
 have HX2 := hide (fun e (hp : added F l c.kind (fld row 3) = .error e) => rule_e2 hn (pc0_ok h1) hp)
 have hcells := h.cells
 have hsx := h.sx
 have hlow := fun i (hi : i < row.length) => h.few _ (List.mem_of_getElem? (fld_get (row := row) (i := i) hi))
 have c2 := hcells w (Below.refl _ _) 2 (by omega)
 have hs2 := (hlow 2 (by omega)).1
 have hs3 := (hlow 3 (by omega)).1
 have HP := hide (fun W => piece_doc (Fld.str (fld row 2)) true W (by rw [fstr_wd, Wd.str_size]; exact hs2))
 rw [str_toList, h1] at HP
 have HR := hide (fun W => RfW.read_any (Fld.str (fld row 3)) W (by rw [fstr_wd, Wd.str_size]; omega))
 rw [str_toList, h2] at HR
 unfold RdW.ans at HR
 have hz := rd_len [] _ h2
 simp only [List.length_nil, Nat.zero_add] at hz
 have HC := hide hcells
 have HSX := hide hsx
 have HF := hide h.flags
 have hcap := h.cap
 have hxl := hsx.lt
 have HLOW := hide hlow
 have hdd : addD a = a := if_neg ha
 rw [hdd] at hadd
 have t48 := lst_f (s := Wd.str a) (l := [48]) (by rw [Wd.str_list]; exact ha)
 have HFT := hide (fun W => fit_doc (Wd.str a) W (by rw [Wd.str_size]; unfold maxLen; omega))
 rw [Wd.str_list, hf] at HFT
 rw [if_pos rfl] at hadd
 have HXX := hide (unhide HX1 _ hadd)
 clear h hcells hsx hlow h1 h2 hs2 hs3 hadd hdd ha hf HF hz
 generalize pcN true (fld row 2) = pc at *
 obtain ⟨T, ec⟩ := pc
 go_enter Tryz.func121, Tryz.ntmps121
 go_wp2_with fail
 refine (unhide HP _).mono ?_
 rintro e w2 ⟨rfl, b2⟩
 have HS2 := hide ((unhide HSX).below b2)
 have x3 := (unhide HS2).cells.2.1
 have xf := (unhide HS2).cells.2.2.2.2.2
 have xl := (unhide HS2).lt
 have HS3 : Hid (SX xb w (w2.setCell ⟨xb, 3, none⟩ (.string (Wd.str T))) ⟨c.kind, c.flag, c.cross, T, [], [], [], l⟩ (.slice none 0 0)) := (unhide HS2).set 3 _ rfl (unhide HS2).nxt
 have c3 := unhide HC _ (unhide HS3).low 3 (by omega)
 clear b2
 go_wp2_with fail
 refine (unhide HR _).mono ?_
 rintro e w3 ⟨rfl, b3⟩
 have HS4 := hide ((unhide HS3).below b3)
 have y0 := (unhide HS4).cells.1
 have y4 := (unhide HS4).cells.2.2.1
 have y5 := (unhide HS4).cells.2.2.2.1
 have y6 := (unhide HS4).cells.2.2.2.2.1
 have yf := (unhide HS4).cells.2.2.2.2.2
 have yl := (unhide HS4).lt
 clear b3 x3 xf xl c3 c2
 go_wp2_with fail
 refine (unhide HFT _).mono ?_
 rintro e w4 ⟨rfl, rfl⟩
 have HS5 : Hid (SX xb w (w4.setCell ⟨xb, 4, none⟩ (.string (Wd.str a))) ⟨c.kind, c.flag, c.cross, T, a, [], [], l⟩ (.slice none 0 0)) := (unhide HS4).set 4 _ rfl (unhide HS4).nxt
 have z0 := (unhide HS5).cells.1
 have z5 := (unhide HS5).cells.2.2.2.1
 have z6 := (unhide HS5).cells.2.2.2.2.1
 have zf := (unhide HS5).cells.2.2.2.2.2
 have zl := (unhide HS5).lt
 rcases hn with hn | hn
 ·have HY := hide ((unhide HXX).trans (condX_4 hn))
  have hn5 : (row.length : Int) = 4 := by omega
  rw [hn] at *
  have HS7 : Hid (SX xb w ((w4.setCell ⟨xb, 4, none⟩ (.string (Wd.str a))).setCell ⟨xb, 5, none⟩ (.string ⟨#[46]⟩)) ⟨c.kind, c.flag, c.cross, T, a, [46], [], l⟩ (.slice none 0 0)) := (unhide HS5).set 5 _ rfl (unhide HS5).nxt
  go_wp2_with fail
  go_ret
  exact RRes.yes (unhide HY) (unhide HS7)
 ·have hn5 : (row.length : Int) = 5 := by omega
  have HS7 : Hid (SX xb w ((w4.setCell ⟨xb, 4, none⟩ (.string (Wd.str a))).setCell ⟨xb, 5, none⟩ (.string ⟨#[46]⟩)) ⟨c.kind, c.flag, c.cross, T, a, [46], [], l⟩ (.slice none 0 0)) := (unhide HS5).set 5 _ rfl (unhide HS5).nxt
  have c4 := unhide HC _ (unhide HS7).low 4 (by omega)
  have hl4 := unhide HLOW 4 (by omega)
  have HB := hide (fun W => VlW.bytes_any (Fld.str (fld row 4)) W (by rw [fstr_wd, Wd.str_size]; unfold maxLen; omega))
  rw [str_toList] at HB
  have HCR := hide (fun W => Pt.refRead_any (Fld.str (fld row 4)) W)
  rw [str_toList] at HCR
  have HYB := hide (fun hb => (unhide HXX).trans (condX_b hn hb))
  have HYK := hide (fun hb he => (unhide HXX).trans (condX_ok hn hl4.2 hb he))
  have HYE := hide (fun hb he => (unhide HXX).trans (condX_e hn hl4.2 hb he))
  rw [hn] at *
  cases hb : (fld row 4).all Wd.fit with
  | false =>
   have HY := hide (unhide HYB hb)
   rw [hb] at HB
   clear hb HCR
   go_wp2_with fail
   refine (unhide HB _).mono ?_
   rintro e w8 ⟨rfl, rfl⟩
   go_wp2_with fail
   go_ret
   exact RRes.no (unhide HY) (unhide HS7) (by decide) rfl
  | true =>
   rw [hb] at HB
   by_cases he : (Cd.rd (fld row 4)).2 = 0
   ·have HY := hide (unhide HYK hb he)
    have HSH := hide (fun W v h => Pt.refShow_any (Cd.rd (fld row 4)).1 v W (Pt.rd_pcs _) (Cd.rd_len _) h)
    rw [he] at HCR
    clear hb he
    go_wp2_with fail
    refine (unhide HB _).mono ?_
    rintro e w8 ⟨rfl, rfl⟩
    go_wp2_with fail
    refine (unhide HCR _).mono ?_
    rintro e w9 ⟨v9, rfl, hp9, b9⟩
    have HS9 := hide ((unhide HS7).below b9)
    have HT9 := hide hp9.at
    clear hp9 b9
    go_wp2_with fail
    refine (unhide HSH _ _ (unhide HT9)).mono ?_
    rintro e w10 ⟨rfl, b10⟩
    have HS10 := hide ((unhide HS9).below b10)
    have v5 := (unhide HS10).cells.2.2.2.1
    have vf := (unhide HS10).cells.2.2.2.2.2
    have vl := (unhide HS10).lt
    have HS11 := hide ((unhide HS10).set 5 (.string (Wd.str (Cd.sws (Cd.rd (fld row 4)).1))) (r' := ⟨c.kind, c.flag, c.cross, T, a, Cd.sws (Cd.rd (fld row 4)).1, [], l⟩) rfl (unhide HS10).nxt)
    clear b10
    go_wp2_with fail
    go_ret
    exact RRes.yes (unhide HY) (unhide HS11)
   ·have HY := hide (unhide HYE hb he)
    have HNZ := hide he
    have hez : (((Cd.rd (fld row 4)).2 : Nat) : Int) ≠ 0 := by omega
    generalize (Cd.rd (fld row 4)).2 = ce at *
    have hez2 : ((ce : Int) == 0) = false := by rw [beq_eq_false_iff_ne]; exact hez
    clear hb he
    go_wp2_with fail
    refine (unhide HB _).mono ?_
    rintro e w8 ⟨rfl, rfl⟩
    go_wp2_with fail
    refine (unhide HCR _).mono ?_
    rintro e w9 ⟨v9, rfl, hp9, b9⟩
    have HS9 := hide ((unhide HS7).below b9)
    clear hp9 b9
    go_wp2_with fail
    go_ret
    exact RRes.no (unhide HY) (unhide HS9) (unhide HNZ) rfl
theorem rule_doc3 {B xb g cap l : Nat} {w0 w : World} {F : Fil} {P : DPts} {c : Cls} {row : List Bs} {a r : Bs} (h : RH B xb g cap w0 w F P l c row) (hn : row.length = 4 ∨ row.length = 5) (h1 : (pcN true (fld row 2)).2 = 0) (h2 : Wd.rd [] (fld row 3) = some (a, r, true)) (ha : a = [48]) :
  Calls Tryz.prog 121 #[ptr P.fb, ptr xb, .slice (some ⟨g, 0, none⟩) row.length cap] w (RRes xb w (rule F l c row)) := by
 have hadd := added_cut (F := F) (l := l) (k := c.kind) h2 (.inl ha)
 have HX1 := hide (fun p (hp : added F l c.kind (fld row 3) = .ok p) => rule_of hn (pc0_ok h1) hp)
 have HX2 := hide (fun e (hp : added F l c.kind (fld row 3) = .error e) => rule_e2 hn (pc0_ok h1) hp)
 have hcells := h.cells
 have hsx := h.sx
 have hlow := fun i (hi : i < row.length) => h.few _ (List.mem_of_getElem? (fld_get (row := row) (i := i) hi))
 have c2 := hcells w (Below.refl _ _) 2 (by omega)
 have hs2 := (hlow 2 (by omega)).1
 have hs3 := (hlow 3 (by omega)).1
 have HP := hide (fun W => piece_doc (Fld.str (fld row 2)) true W (by rw [fstr_wd, Wd.str_size]; exact hs2))
 rw [str_toList, h1] at HP
 have HR := hide (fun W => RfW.read_any (Fld.str (fld row 3)) W (by rw [fstr_wd, Wd.str_size]; omega))
 rw [str_toList, h2] at HR
 unfold RdW.ans at HR
 have hz := rd_len [] _ h2
 simp only [List.length_nil, Nat.zero_add] at hz
 have HC := hide hcells
 have HSX := hide hsx
 have HF := hide h.flags
 have hcap := h.cap
 have hxl := hsx.lt
 have HLOW := hide hlow
 have hdd : addD a = [] := if_pos ha
 rw [hdd] at hadd
 have t48 := lst_t (s := Wd.str a) (l := [48]) (by rw [Wd.str_list]; exact ha)
 rw [if_neg (by decide)] at hadd
 have HFL := hide (fun W b => unhide HF W b (Wd.str r) (by rw [Wd.str_size]; omega))
 rw [Wd.str_list] at HFL
 have HADD := hide hadd
 clear h hcells hsx hlow h1 h2 hs2 hs3 hadd hdd ha HF hz
 generalize pcN true (fld row 2) = pc at *
 obtain ⟨T, ec⟩ := pc
 go_enter Tryz.func121, Tryz.ntmps121
 go_wp2_with fail
 refine (unhide HP _).mono ?_
 rintro e w2 ⟨rfl, b2⟩
 have HS2 := hide ((unhide HSX).below b2)
 have x3 := (unhide HS2).cells.2.1
 have xf := (unhide HS2).cells.2.2.2.2.2
 have xl := (unhide HS2).lt
 have HS3 : Hid (SX xb w (w2.setCell ⟨xb, 3, none⟩ (.string (Wd.str T))) ⟨c.kind, c.flag, c.cross, T, [], [], [], l⟩ (.slice none 0 0)) := (unhide HS2).set 3 _ rfl (unhide HS2).nxt
 have c3 := unhide HC _ (unhide HS3).low 3 (by omega)
 clear b2
 go_wp2_with fail
 refine (unhide HR _).mono ?_
 rintro e w3 ⟨rfl, b3⟩
 have HS4 := hide ((unhide HS3).below b3)
 have y0 := (unhide HS4).cells.1
 have y4 := (unhide HS4).cells.2.2.1
 have y5 := (unhide HS4).cells.2.2.2.1
 have y6 := (unhide HS4).cells.2.2.2.2.1
 have yf := (unhide HS4).cells.2.2.2.2.2
 have yl := (unhide HS4).lt
 clear b3 x3 xf xl c3 c2
 by_cases hk : c.kind = 1
 ·have HY := hide (unhide HX2 _ ((unhide HADD).trans (if_pos hk)))
  have hkt : (c.kind == 1) = true := by rw [beq_iff_eq]; exact hk
  clear hn
  go_wp2_with fail
  go_ret
  exact RRes.no (unhide HY) (unhide HS4) (by decide) rfl
 have hkf : (c.kind == 1) = false := by rw [beq_eq_false_iff_ne]; exact hk
 have HADD2 := hide ((unhide HADD).trans (if_neg hk))
 clear HADD
 go_wp2_with fail
 refine (unhide HFL _ (unhide HS4).low).mono ?_
 rintro e w5 ⟨u, rfl, hu, b5⟩
 obtain ⟨au, cu, eu, -, -⟩ := hu.form
 have HU := hide hu
 have HS5b := hide ((unhide HS4).below b5)
 have s6 := (unhide HS5b).cells.2.2.2.2.1
 have s5 := (unhide HS5b).cells.2.2.2.1
 have sf := (unhide HS5b).cells.2.2.2.2.2
 have sl := (unhide HS5b).lt
 have HS6 := hide ((unhide HS5b).set 6 u (r' := ⟨c.kind, c.flag, c.cross, T, [], [], flgS F r, l⟩) (u' := u) rfl (unhide HU))
 have s65 := (unhide HS6).cells.2.2.2.1
 have s6f := (unhide HS6).cells.2.2.2.2.2
 have s6l := (unhide HS6).lt
 clear hu b5
 by_cases hfe : flgE F r = 0
 ·have HXX := hide (unhide HX1 _ ((unhide HADD2).trans (if_neg (fun q => q hfe))))
  rw [hfe] at *
  subst eu
  rcases hn with hn | hn
  ·have HY := hide ((unhide HXX).trans (condX_4 hn))
   have hn5 : (row.length : Int) = 4 := by omega
   rw [hn] at *
   have HS7 := hide ((unhide HS6).set 5 (.string ⟨#[46]⟩) (r' := ⟨c.kind, c.flag, c.cross, T, [], [46], flgS F r, l⟩) rfl (unhide HS6).nxt)
   go_wp2_with fail
   go_ret
   exact RRes.yes (unhide HY) (unhide HS7)
  ·have hn5 : (row.length : Int) = 5 := by omega
   have HS7 := hide ((unhide HS6).set 5 (.string ⟨#[46]⟩) (r' := ⟨c.kind, c.flag, c.cross, T, [], [46], flgS F r, l⟩) rfl (unhide HS6).nxt)
   have c4 := unhide HC _ (unhide HS7).low 4 (by omega)
   have hl4 := unhide HLOW 4 (by omega)
   have HB := hide (fun W => VlW.bytes_any (Fld.str (fld row 4)) W (by rw [fstr_wd, Wd.str_size]; unfold maxLen; omega))
   rw [str_toList] at HB
   have HCR := hide (fun W => Pt.refRead_any (Fld.str (fld row 4)) W)
   rw [str_toList] at HCR
   have HYB := hide (fun hb => (unhide HXX).trans (condX_b hn hb))
   have HYK := hide (fun hb he => (unhide HXX).trans (condX_ok hn hl4.2 hb he))
   have HYE := hide (fun hb he => (unhide HXX).trans (condX_e hn hl4.2 hb he))
   rw [hn] at *
   cases hb : (fld row 4).all Wd.fit with
   | false =>
    have HY := hide (unhide HYB hb)
    rw [hb] at HB
    clear hb HCR
    go_wp2_with fail
    refine (unhide HB _).mono ?_
    rintro e w8 ⟨rfl, rfl⟩
    go_wp2_with fail
    go_ret
    exact RRes.no (unhide HY) (unhide HS7) (by decide) rfl
   | true =>
    rw [hb] at HB
    by_cases he : (Cd.rd (fld row 4)).2 = 0
    ·have HY := hide (unhide HYK hb he)
     have HSH := hide (fun W v h => Pt.refShow_any (Cd.rd (fld row 4)).1 v W (Pt.rd_pcs _) (Cd.rd_len _) h)
     rw [he] at HCR
     clear hb he
     go_wp2_with fail
     refine (unhide HB _).mono ?_
     rintro e w8 ⟨rfl, rfl⟩
     go_wp2_with fail
     refine (unhide HCR _).mono ?_
     rintro e w9 ⟨v9, rfl, hp9, b9⟩
     have HS9 := hide ((unhide HS7).below b9)
     have HT9 := hide hp9.at
     clear hp9 b9
     go_wp2_with fail
     refine (unhide HSH _ _ (unhide HT9)).mono ?_
     rintro e w10 ⟨rfl, b10⟩
     have HS10 := hide ((unhide HS9).below b10)
     have v5 := (unhide HS10).cells.2.2.2.1
     have vf := (unhide HS10).cells.2.2.2.2.2
     have vl := (unhide HS10).lt
     have HS11 := hide ((unhide HS10).set 5 (.string (Wd.str (Cd.sws (Cd.rd (fld row 4)).1))) (r' := ⟨c.kind, c.flag, c.cross, T, [], Cd.sws (Cd.rd (fld row 4)).1, flgS F r, l⟩) rfl (unhide HS10).nxt)
     clear b10
     go_wp2_with fail
     go_ret
     exact RRes.yes (unhide HY) (unhide HS11)
    ·have HY := hide (unhide HYE hb he)
     have HNZ := hide he
     have hez : (((Cd.rd (fld row 4)).2 : Nat) : Int) ≠ 0 := by omega
     generalize (Cd.rd (fld row 4)).2 = ce at *
     have hez2 : ((ce : Int) == 0) = false := by rw [beq_eq_false_iff_ne]; exact hez
     clear hb he
     go_wp2_with fail
     refine (unhide HB _).mono ?_
     rintro e w8 ⟨rfl, rfl⟩
     go_wp2_with fail
     refine (unhide HCR _).mono ?_
     rintro e w9 ⟨v9, rfl, hp9, b9⟩
     have HS9 := hide ((unhide HS7).below b9)
     clear hp9 b9
     go_wp2_with fail
     go_ret
     exact RRes.no (unhide HY) (unhide HS9) (unhide HNZ) rfl
 ·have HY := hide (unhide HX2 _ ((unhide HADD2).trans (if_pos hfe)))
  have hez2 : (flgE F r == 0) = false := by rw [beq_eq_false_iff_ne]; exact hfe
  have HPOS := hide (flgE_pos F r)
  have HNZ := hide hfe
  subst eu
  generalize flgE F r = ce at *
  clear hn
  go_wp2_with fail
  go_ret
  exact RRes.no (unhide HY) (unhide HS6) (by have := unhide HPOS; have := unhide HNZ; omega) (by have := unhide HPOS; omega)
end Af
end Go.Proofs.YtmhegbeemgagkaaGreatDoor
