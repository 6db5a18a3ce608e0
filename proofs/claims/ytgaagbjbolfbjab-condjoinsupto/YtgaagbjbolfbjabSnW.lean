/- Contract: the document's Shown: one item. -/
import Derived.Test.YtgaagbjbolfbjabRdW4
import Derived.Test.YtgaagbjbolfbjabShP
import Derived.Test.YtgaagbjbolfbjabQbW
namespace Go.Proofs.Ytgaagbjbolfbjab
open Go.RowKit
namespace Pt
open Cd

theorem no_len (f : UInt8 → Bool) : (lso fun b => !f b).length = 0 ↔ (lso f).length = 256 := by
  rw [lso_all]
  constructor
  · intro h b
    have h0 := List.eq_nil_of_length_eq_zero h
    cases hf : f b with
    | true => rfl
    | false =>
      have : b ∈ lso (fun b => !f b) := mem_lso.2 (by simp [hf])
      rw [h0] at this
      simp at this
  · intro h
    have : lso (fun b => !f b) = [] := by
      apply List.eq_nil_iff_forall_not_mem.2
      intro b hb
      have := mem_lso.1 hb
      rw [h b] at this
      cases this
    rw [this]
    rfl
/-- what the loop gathers -/
def noHat (l : List UInt8) : List UInt8 := l.filter (· != 94)
theorem noHat_step {l : List UInt8} {k : Nat} {c : UInt8} (h : l[k]? = some c) : noHat (l.take (k + 1)) = if c = 94 then noHat (l.take k) else noHat (l.take k) ++ [c] := by
  have hk := (List.getElem?_eq_some_iff.1 h).1
  have hc := (List.getElem?_eq_some_iff.1 h).2
  rw [List.take_succ_eq_append_getElem hk, hc]
  unfold noHat
  rw [List.filter_append]
  by_cases e : c = 94
  · rw [if_pos e, e]; simp
  · rw [if_neg e]; simp [e]
def hatIn (l : List UInt8) : Bool := l.contains 94
theorem any_step {l : List UInt8} {k : Nat} {c : UInt8} (h : l[k]? = some c) : hatIn (l.take (k + 1)) = (hatIn (l.take k) || c == 94) := by
  unfold hatIn
  have hk := (List.getElem?_eq_some_iff.1 h).1
  have hc := (List.getElem?_eq_some_iff.1 h).2
  rw [List.take_succ_eq_append_getElem hk, hc, Bool.eq_iff_iff, Bool.or_eq_true, con_iff, con_iff, List.mem_append, List.mem_singleton, beq_iff_eq]
  exact ⟨fun h => h.imp id Eq.symm, fun h => h.imp id Eq.symm⟩
/-- bytes made a text -/
def cvB (v : Value) : Sem Value := convert 53 9 v
theorem cvB_as (v : Value) : convert 53 9 v = cvB v := rfl
theorem cvB_own {w : World} {B : Nat} {v : Value} {L : List UInt8} (h : Own B w v L) : (cvB v).run Try.prog w = .ok (.string (str L)) w := conv_own h
attribute [local go_sem ↓] cvB_as
theorem push_txt {B : Nat} {wr w2 : World} {A : Obj} {v : Value} {e size n : Nat} {xs : List Value} (hB : B ≤ wr.heap.size) (ho : wr.ownsRow B e size v n xs) (hg : (wr.alloc A).grownBy w2 v.ownBlock) : Below B wr w2 :=
  ((Below.refl B wr).alloc hB A).grown hg (by simp; omega) (fun k e => (ho.lt k e).1)
set_option maxHeartbeats 2000000 in
set_option maxRecDepth 100000 in
theorem shown_any (p : List UInt8) (w : World) (hp : Pcs p) :
    Calls Try.prog 21 #[.agg #[.string (str p)]] w fun e w' => e = .returned (.string (str (shw (adm p)))) ∧ Below w.heap.size w w' := by
  obtain ⟨i0, hi, hz0, hz1, hz2⟩ := info_parts infoB
  have HY := hide (fun W => admitted_any p true W hp)
  have HN := hide (fun W => admitted_any p false W hp)
  have HA := hide (fun W => refAdmits_any p 93 W hp)
  rw [beq_yes] at HY
  rw [beq_no] at HN
  have hnl := no_len (adm p)
  have hly := lso_len (adm p)
  have hln := lso_len (fun b => !adm p b)
  generalize adm p = f at *
  have HSH : Hid (shw f = if (lso f).length = 256 then [46] else if lso f = [46] then [91, 46, 93] else if lso f = [91] then [91, 91, 93] else if (lso f).length = 1 then lso f else if f 93 = true then 91 :: 94 :: (lso (fun b => !f b) ++ [93]) else 91 :: (((lso f).filter (· != 94) ++ (if f 94 = true then [94] else [])) ++ [93])) := rfl
  have HHAT : Hid (hatIn (lso f) = f 94) := hide (by rw [hatIn, Bool.eq_iff_iff, con_iff, mem_lso])
  generalize hT : str p = T at *
  clear hT
  go_enter Try.func21, Try.ntmps21
  go_wp2_with fail
  refine (unhide HY _).mono ?_
  rintro e w1 ⟨v1, rfl, ho1, hb1⟩
  have HG1 := hide (keep_pat (heap_alloc_last w (.cells #[.string T] 51)) hb1)
  have hc1 := cell_of_row w1 _ 0 _ _ _ (unhide HG1)
  have HO1 := hide ho1
  have HB1 := hide (((Below.refl _ w).alloc (Nat.le_refl _) (.cells #[.string T] 51)).trans (hb1.mono (by simp)))
  clear ho1 hb1
  go_wp2_with fail
  refine (unhide HN _).mono ?_
  rintro e w2 ⟨v2, rfl, ho2, hb2⟩
  have HG2 := hide (keep_pat (unhide HG1) hb2)
  have HO12 := hide ((unhide HO1).below hb2)
  have HO2 := hide ho2
  have HB2 := hide ((unhide HB1).trans (hb2.mono (unhide HB1).size))
  clear ho2 hb2 hc1 HG1 HO1 HB1
  obtain ⟨a1, cap1, rfl⟩ := own_slice (unhide HO12)
  obtain ⟨a2, cap2, rfl⟩ := own_slice (unhide HO2)
  have hc1 := cell_of_row w2 _ 0 _ _ _ (unhide HG2)
  clear HY HN
  by_cases h256 : (lso f).length = 256
  · have hq : ((lso fun b => !f b).length : Int) = 0 := by have := hnl.2 h256; omega
    have HR : Hid (str (shw f) = ⟨#[46]⟩) := hide (by rw [unhide HSH, if_pos h256]; rfl)
    clear h256 hnl HSH
    generalize (lso fun b => !f b).length = n2 at *
    go_wp2
    go_ret
    exact ⟨ret_str (unhide HR).symm, unhide HB2⟩
  · have hq : ¬ ((lso fun b => !f b).length : Int) = 0 := by
      intro e
      exact h256 (hnl.1 (by omega))
    have hqb : (((lso fun b => !f b).length : Int) == 0) = false := by rw [beq_eq_false_iff_ne]; exact hq
    clear hnl
    by_cases hl1 : (lso f).length = 1
    · obtain ⟨c, hc⟩ := List.length_eq_one_iff.1 hl1
      obtain ⟨g, cp, hv, hg, hcell⟩ := own_cells (unhide HO12) (by omega)
      injection hv with e1 _ e3
      subst e1
      subst e3
      have hc0 := hcell 0 c (by rw [hc]; rfl)
      have hcv := cvB_own (unhide HO12)
      have hq1 : ((lso f).length : Int) = 1 := by omega
      by_cases h46 : c = 46
      · have hd : (c.toNat : Int) = 46 := by rw [h46]; rfl
        have HR : Hid (str (shw f) = ⟨#[91, 46, 93]⟩) := hide (by rw [unhide HSH, if_neg h256, if_pos (by rw [hc, h46])]; rfl)
        clear hc h46 HSH h256 hl1 hcell
        generalize lso f = L at *
        go_wp2
        go_ret
        exact ⟨ret_str (unhide HR).symm, unhide HB2⟩
      · by_cases h91 : c = 91
        · have hd : (c.toNat : Int) = 91 := by rw [h91]; rfl
          have HR : Hid (str (shw f) = ⟨#[91, 91, 93]⟩) := hide (by rw [unhide HSH, if_neg h256, if_neg (by rw [hc, h91]; decide), if_pos (by rw [hc, h91])]; rfl)
          clear hc h46 h91 HSH h256 hl1 hcell
          generalize lso f = L at *
          go_wp2
          go_ret
          exact ⟨ret_str (unhide HR).symm, unhide HB2⟩
        · have hd1 : ((c.toNat : Int) == 46) = false := by rw [beq_eq_false_iff_ne]; exact ne_int h46
          have hd2 : ((c.toNat : Int) == 91) = false := by rw [beq_eq_false_iff_ne]; exact ne_int h91
          have HR : Hid (str (shw f) = str (lso f)) := hide (by rw [unhide HSH, if_neg h256, if_neg (by rw [hc]; intro e; exact h46 (List.cons.inj e).1), if_neg (by rw [hc]; intro e; exact h91 (List.cons.inj e).1), if_pos hl1])
          clear hc h46 h91 HSH h256 hl1 hcell
          generalize lso f = L at *
          go_wp2
          go_ret
          exact ⟨ret_str (unhide HR).symm, unhide HB2⟩
    · have hq1 : ¬ ((lso f).length : Int) = 1 := by omega
      have hq1b : (((lso f).length : Int) == 1) = false := by rw [beq_eq_false_iff_ne]; exact hq1
      have n46 : lso f ≠ [46] := fun e => hl1 (by rw [e]; rfl)
      have n91 : lso f ≠ [91] := fun e => hl1 (by rw [e]; rfl)
      have hsw : w.heap.size < w2.heap.size := (Array.getElem?_eq_some_iff.1 (unhide HG2)).1
      cases h93 : f 93 with
      | true =>
        have HR : Hid (str (shw f) = str (91 :: 94 :: (lso (fun b => !f b) ++ [93]))) := hide (by rw [unhide HSH, if_neg h256, if_neg n46, if_neg n91, if_neg hl1, if_pos h93])
        have hs2 := str_size (lso (fun b => !f b))
        have ha1 := add_run (a := ⟨#[91, 94]⟩) (b := str (lso (fun b => !f b))) (by have : (ByteArray.mk #[91, 94]).size = 2 := rfl; omega)
        have ha2 := add_run (a := ⟨#[91, 94]⟩ ++ str (lso (fun b => !f b))) (b := ⟨#[93]⟩) (by rw [ByteArray.size_append]; have : (ByteArray.mk #[91, 94]).size = 2 := rfl; have : (ByteArray.mk #[93]).size = 1 := rfl; omega)
        have HX : Hid ((⟨#[91, 94]⟩ ++ str (lso (fun b => !f b)) ++ ⟨#[93]⟩ : ByteArray) = str (91 :: 94 :: (lso (fun b => !f b) ++ [93]))) := hide (by rw [show (⟨#[91, 94]⟩ : ByteArray) = str [91, 94] from rfl, show (⟨#[93]⟩ : ByteArray) = str [93] from rfl, str_app, str_app]; rfl)
        rw [h93] at HA
        have hcv := cvB_own ((unhide HO2).alloc (.cells #[.string T] 51))
        clear HSH h256 hl1 n46 n91 h93 hs2 HHAT
        generalize ⟨#[91, 94]⟩ ++ str (lso (fun b => !f b)) ++ ⟨#[93]⟩ = A2 at *
        generalize ⟨#[91, 94]⟩ ++ str (lso (fun b => !f b)) = A1 at *
        generalize str (lso (fun b => !f b)) = T2 at *
        generalize (lso (fun b => !f b)).length = n2 at *
        generalize (lso f).length = n1 at *
        go_wp2_with fail
        refine (unhide HA _).mono ?_
        rintro e w3 ⟨rfl, rfl⟩
        go_wp2
        go_ret
        exact ⟨ret_str ((unhide HX).trans (unhide HR).symm), (unhide HB2).alloc (unhide HB2).size _⟩
      | false =>
        rw [h93] at HA
        have HR : Hid (str (shw f) = str (91 :: (((lso f).filter (· != 94) ++ (if f 94 = true then [94] else [])) ++ [93]))) := hide (by rw [unhide HSH, if_neg h256, if_neg n46, if_neg n91, if_neg hl1, if_neg (by rw [h93]; decide)])
        clear HSH h256 hl1 n46 n91 h93
        generalize (lso (fun b => !f b)).length = n2 at *
        go_wp2_with fail
        refine (unhide HA _).mono ?_
        rintro e w3 ⟨rfl, rfl⟩
        have HW3 := hide ((unhide HB2).alloc (unhide HB2).size (.cells #[.string T] 51))
        have HO3 := hide ((unhide HO12).below ((Below.refl _ w2).alloc (Nat.le_refl _) (.cells #[.string T] 51)))
        have HSTEP := hide (fun k c h => noHat_step (l := lso f) (k := k) (c := c) h)
        have HANY := hide (fun k c h => any_step (l := lso f) (k := k) (c := c) h)
        have HEND : Hid (∀ k, (lso f).length ≤ k → noHat ((lso f).take k) = (lso f).filter (· != 94) ∧ hatIn ((lso f).take k) = f 94) := fun k hk => by rw [List.take_of_length_le hk]; exact ⟨rfl, unhide HHAT⟩
        have HLEN : Hid (∀ k, (noHat ((lso f).take k)).length ≤ k) := fun k => by
          have h1 := List.length_filter_le (· != 94) ((lso f).take k)
          have h2 := List.length_take_le k (lso f)
          unfold noHat
          omega
        have HGET : Hid (∀ k, k < (lso f).length → ∃ c, (lso f)[k]? = some c) := fun k hk => ⟨_, List.getElem?_eq_getElem hk⟩
        have HIF : Hid (∀ b : Bool, f 94 = b → (lso f).filter (· != 94) ++ (if f 94 = true then [94] else []) = (lso f).filter (· != 94) ++ (if b = true then [94] else [])) := fun b h => by rw [h]
        generalize (lso f).filter (· != 94) = NF at *
        generalize f 94 = F94 at *
        generalize lso f = L at *
        go_wp2
        go_loopw [6, 7, 8] (fun s6 s7 s8 wr => ∃ (k : Nat) (v : Value), v = s6 ∧ s7 = .bool (hatIn (L.take k)) ∧ s8 = .int .i64 k ∧ k ≤ L.length ∧ Hid (Own (w2.heap.size + 1) wr v (noHat (L.take k))) ∧ Hid (Below (w2.heap.size + 1) (w2.alloc (.cells #[.string T] 51)) wr)) (fun _ _ i _ => L.length - (intOf i).toNat)
        case atStart =>
          refine ⟨0, _, rfl, rfl, rfl, by omega, ?_, (Below.refl _ _).alloc (by simp) _⟩
          have := own_made (w2.alloc (.cells #[.string T] 51))
          simp only [World.size_alloc] at this
          exact this
        case round =>
          obtain ⟨k, v, rfl, rfl, rfl, hk, HO, HB⟩ := hrel
          have HLT : Hid (w2.heap.size + 1 ≤ wr.heap.size) := hide (by have := (unhide HB).size; simpa using this)
          have HV : Hid (Below (w2.alloc (.cells #[.string T] 51)).heap.size (w2.alloc (.cells #[.string T] 51)) wr) := hide (by rw [World.size_alloc]; exact unhide HB)
          have hln := unhide HLEN k
          by_cases hlt : k < L.length
          · have hltz : (k : Int) < (L.length : Int) := by omega
            obtain ⟨c, hc⟩ := unhide HGET k hlt
            obtain ⟨g, cp, hv, hg, hcell⟩ := own_cells ((unhide HO3).below (unhide HV)) (by omega)
            injection hv with e1 _ e3
            subst e1
            subst e3
            have hc0 := hcell k c hc
            have HS := hide (unhide HSTEP k c hc)
            have HC := hide (unhide HANY k c hc)
            clear hcell
            by_cases h94 : c = 94
            · have hd : ((c.toNat : Int) == 94) = true := by rw [h94]; rfl
              rw [if_pos h94] at HS
              have HC2 : Hid (hatIn (L.take (k + 1)) = true) := hide (by rw [unhide HC, h94]; simp)
              clear h94 hc
              generalize noHat (L.take k) = acc at *
              generalize hatIn (L.take k) = hat at *
              go_wp2
              go_roundw
              case rel => exact ⟨k + 1, v, rfl, by rw [unhide HC2], by go_num, by omega, by rw [unhide HS]; exact HO, HB⟩
              case measure => simp [intOf]; omega
            · have hd : ((c.toNat : Int) == 94) = false := by rw [beq_eq_false_iff_ne]; exact ne_int h94
              rw [if_neg h94] at HS
              have HC2 : Hid (hatIn (L.take (k + 1)) = hatIn (L.take k)) := hide (by rw [unhide HC]; simp [h94])
              clear h94 hc
              generalize noHat (L.take k) = acc at *
              generalize hatIn (L.take k) = hat at *
              go_wp2_with (at_builtin; refine wpList_append_own _ rfl _ _ 53 rfl (w2.heap.size + 1) 5 i0 (.int .u8 0) 1 1 Try.underlying53 hi hz0 hz1 hz2 rfl (by decide) _ _ _ rfl ((unhide HO).alloc _) ⟨wr.heap.size, 0, none⟩ 1 1 [.int .u8 (c.toNat : Int)] rfl rfl (one_new _ _ _) (by simp [Value.oneCell']) (by unfold maxLen; omega) (by omega) (by have h1 := unhide HLT; simp; omega) ?_; intro v' w4 hown' hgrow hnil; clear hnil; have HO4 := hide (own_push (c := c) rfl hown'); have HB4 := hide (push_txt (unhide HLT) (unhide HO) hgrow); clear hown' hgrow)
              go_roundw
              case rel => exact ⟨k + 1, v', rfl, by rw [unhide HC2], by go_num, by omega, by rw [unhide HS]; exact HO4, (unhide HB).trans (unhide HB4)⟩
              case measure => simp [intOf]; omega
          · have hltz : ¬ (k : Int) < (L.length : Int) := by omega
            obtain ⟨e1, e2⟩ := unhide HEND k (by omega)
            have HE1 := hide e1
            have HE2 := hide e2
            have HI2 := hide (unhide HIF _ e2.symm)
            clear e1 e2
            generalize noHat (L.take k) = acc at *
            generalize hatIn (L.take k) = hat at *
            have HBW := hide ((unhide HW3).trans ((unhide HV).mono (unhide HW3).size))
            cases hat with
            | true =>
              have hl2 : acc.length ≤ 256 := by omega
              have hs2 := str_size (acc ++ [94])
              rw [List.length_append] at hs2
              have hs3 : (str (acc ++ [94])).size ≤ 300 := by rw [hs2]; simp; omega
              have ha1 := add_run (a := ⟨#[91]⟩) (b := str (acc ++ [94])) (by have : (ByteArray.mk #[91]).size = 1 := rfl; omega)
              have ha2 := add_run (a := ⟨#[91]⟩ ++ str (acc ++ [94])) (b := ⟨#[93]⟩) (by rw [ByteArray.size_append]; have : (ByteArray.mk #[91]).size = 1 := rfl; have : (ByteArray.mk #[93]).size = 1 := rfl; omega)
              have HX : Hid ((⟨#[91]⟩ ++ str (acc ++ [94]) ++ ⟨#[93]⟩ : ByteArray) = str (91 :: ((acc ++ [94]) ++ [93]))) := hide (by rw [show (⟨#[91]⟩ : ByteArray) = str [91] from rfl, show (⟨#[93]⟩ : ByteArray) = str [93] from rfl, str_app, str_app]; rfl)
              have HCV : Hid (∀ (W : World) v, Own (w2.heap.size + 1) W v (acc ++ [94]) → (cvB v).run Try.prog W = .ok (.string (str (acc ++ [94]))) W) := fun W v h => cvB_own h
              clear hs2 hs3
              generalize ⟨#[91]⟩ ++ str (acc ++ [94]) ++ ⟨#[93]⟩ = A2 at *
              generalize ⟨#[91]⟩ ++ str (acc ++ [94]) = A1 at *
              generalize str (acc ++ [94]) = TT at *
              go_wp2_with (at_builtin; refine wpList_append_own _ rfl _ _ 53 rfl (w2.heap.size + 1) 5 i0 (.int .u8 0) 1 1 Try.underlying53 hi hz0 hz1 hz2 rfl (by decide) _ _ _ rfl ((unhide HO).alloc _) ⟨wr.heap.size, 0, none⟩ 1 1 [.int .u8 94] rfl rfl (one_new _ _ _) (by simp [Value.oneCell']) (by unfold maxLen; omega) (by omega) (by have h1 := unhide HLT; simp; omega) ?_; intro v' w4 hown' hgrow hnil; clear hnil; have HO4 := hide (own_push (c := 94) rfl hown'); have HB4 := hide (push_txt (unhide HLT) (unhide HO) hgrow); have hcv := unhide HCV _ _ (unhide HO4); clear hown' hgrow)
              go_ret
              exact ⟨ret_str (by rw [unhide HR, unhide HI2, ← unhide HE1, unhide HX]; rfl), (unhide HBW).trans ((unhide HB4).mono (by have := (unhide HW3).size; simp at this; omega))⟩
            | false =>
              have hs2 := str_size acc
              have ha1 := add_run (a := ⟨#[91]⟩) (b := str acc) (by have : (ByteArray.mk #[91]).size = 1 := rfl; omega)
              have ha2 := add_run (a := ⟨#[91]⟩ ++ str acc) (b := ⟨#[93]⟩) (by rw [ByteArray.size_append]; have : (ByteArray.mk #[91]).size = 1 := rfl; have : (ByteArray.mk #[93]).size = 1 := rfl; omega)
              have HX : Hid ((⟨#[91]⟩ ++ str acc ++ ⟨#[93]⟩ : ByteArray) = str (91 :: (acc ++ [93]))) := hide (by rw [show (⟨#[91]⟩ : ByteArray) = str [91] from rfl, show (⟨#[93]⟩ : ByteArray) = str [93] from rfl, str_app, str_app]; rfl)
              have hcv := cvB_own (unhide HO)
              clear hs2
              generalize ⟨#[91]⟩ ++ str acc ++ ⟨#[93]⟩ = A2 at *
              generalize ⟨#[91]⟩ ++ str acc = A1 at *
              generalize str acc = TT at *
              go_wp2
              go_ret
              exact ⟨ret_str (by rw [unhide HR, unhide HI2, ← unhide HE1, unhide HX]; simp), unhide HBW⟩
end Pt
end Go.Proofs.Ytgaagbjbolfbjab
