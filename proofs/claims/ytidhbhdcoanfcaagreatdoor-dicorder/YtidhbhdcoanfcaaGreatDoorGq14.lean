import Derived.Test.YtidhbhdcoanfcaaGreatDoorChecked
import Derived.WalkSpells
import Derived.WalkLawsBesides
import Derived.BigQuiet
import Derived.Lib.Strings
import Derived.Lib.ItoaNum
set_option maxHeartbeats 8000000
set_option maxRecDepth 100000
namespace Go.Proofs.YtidhbhdcoanfcaaGreatDoor.Num

def isDig (c : UInt8) : Bool := decide (48 ≤ c.toNat) && decide (c.toNat ≤ 57)
def numVal (l : List UInt8) : Nat := l.foldl (fun n c => n * 10 + (c.toNat - 48)) 0
def lead (l : List UInt8) : Bool := (l.head? == some 48) && decide (1 < l.length)
def good (l : List UInt8) (most : Int) : Bool := !l.isEmpty && !lead l && l.all isDig && decide ((numVal l : Int) ≤ most)
def numN (l : List UInt8) (most : Int) : Int := if good l most then (numVal l : Int) else 0
def numE (l : List UInt8) (most : Int) : Int := if good l most then 0 else 13

theorem numVal_snoc (l : List UInt8) (c : UInt8) : numVal (l ++ [c]) = numVal l * 10 + (c.toNat - 48) := by
 simp [numVal, List.foldl_append]
theorem numVal_app (l r : List UInt8) : numVal l ≤ numVal (l ++ r) := by
 induction r generalizing l with
 | nil => simp
 | cons c r ih =>
  have h := ih (l ++ [c])
  rw [numVal_snoc] at h
  have e : l ++ c :: r = l ++ [c] ++ r := by simp
  rw [e]
  omega
theorem numVal_take (l : List UInt8) (k : Nat) : numVal (l.take k) ≤ numVal l := by
 have h := numVal_app (l.take k) (l.drop k)
 rwa [List.take_append_drop] at h
theorem take_snoc (s : ByteArray) (k : Nat) (h : k < s.size) : s.data.toList.take (k + 1) = s.data.toList.take k ++ [s[k]] := by
 rw [List.take_succ_eq_append_getElem (by simpa using h)]; rfl
theorem step (s : ByteArray) (k : Nat) (h : k < s.size) : numVal (s.data.toList.take (k + 1)) = numVal (s.data.toList.take k) * 10 + (s[k].toNat - 48) := by
 rw [take_snoc s k h, numVal_snoc]
theorem all_take (s : ByteArray) (k : Nat) (h : k < s.size) : (s.data.toList.take (k + 1)).all isDig = ((s.data.toList.take k).all isDig && isDig s[k]) := by
 rw [take_snoc s k h]; simp

theorem bad_of_empty (l : List UInt8) (most : Int) (h : l.isEmpty = true) : good l most = false := by simp [good, h]
theorem bad_of_lead (l : List UInt8) (most : Int) (h : lead l = true) : good l most = false := by simp [good, h]
theorem bad_of_digit (s : ByteArray) (most : Int) (k : Nat) (h : k < s.size) (hd : isDig s[k] = false) : good s.data.toList most = false := by
 have hm : s[k] ∈ s.data.toList := by
  have e : s[k] = s.data.toList[k]'(by simpa using h) := rfl
  rw [e]; exact List.getElem_mem _
 have : s.data.toList.all isDig = false := by
  rw [List.all_eq_false]
  exact ⟨_, hm, by simp [hd]⟩
 simp [good, this]
theorem bad_of_over (l : List UInt8) (most : Int) (k : Nat) (h : most < (numVal (l.take k) : Int)) : good l most = false := by
 have := numVal_take l k
 have h2 : decide ((numVal l : Int) ≤ most) = false := by simp; omega
 simp [good, h2]
theorem good_of (l : List UInt8) (most : Int) (h0 : l.isEmpty = false) (h1 : lead l = false) (h2 : l.all isDig = true) (h3 : (numVal l : Int) ≤ most) : good l most = true := by
 simp only [good, h0, h1, h2]; simp [h3]
theorem numN_bad {l : List UInt8} {most : Int} (h : good l most = false) : numN l most = 0 := by simp [numN, h]
theorem numE_bad {l : List UInt8} {most : Int} (h : good l most = false) : numE l most = 13 := by simp [numE, h]
theorem numN_good {l : List UInt8} {most : Int} (h : good l most = true) : numN l most = numVal l := by simp [numN, h]
theorem numE_good {l : List UInt8} {most : Int} (h : good l most = true) : numE l most = 0 := by simp [numE, h]
theorem full (s : ByteArray) (k : Nat) (h : s.size ≤ k) : s.data.toList.take k = s.data.toList := List.take_of_length_le (by simpa using h)
theorem isDig_of (c : UInt8) (h1 : 48 ≤ (c.toNat : Int)) (h2 : (c.toNat : Int) ≤ 57) : isDig c = true := by
 simp [isDig]; omega
theorem isDig_lo (c : UInt8) (h1 : (c.toNat : Int) < 48) : isDig c = false := by
 simp [isDig]; omega
theorem isDig_hi (c : UInt8) (h1 : 57 < (c.toNat : Int)) : isDig c = false := by
 simp [isDig]; omega
end Go.Proofs.YtidhbhdcoanfcaaGreatDoor.Num
namespace Go.Proofs.YtidhbhdcoanfcaaGreatDoor
open Go.RowKit
namespace NumW

theorem hide {p : Prop} (h : p) : Hid p := h
theorem unhide {p : Prop} (h : Hid p) : p := h

theorem empty_iff (s : ByteArray) : s.toList.isEmpty = s.data.toList.isEmpty := by rw [Lib.toList_data]
theorem size_pos (s : ByteArray) (h : s.data.toList.isEmpty = false) : 0 < s.size := by
 have : 0 < s.data.toList.length := by
  cases hh : s.data.toList with
  | nil => rw [hh] at h; cases h
  | cons _ _ => simp
 simpa using this
theorem size_zero (s : ByteArray) (h : s.data.toList.isEmpty = true) : s.size = 0 := by
 have : s.data.toList.length = 0 := by
  cases hh : s.data.toList with
  | nil => rfl
  | cons _ _ => rw [hh] at h; cases h
 simpa using this
theorem lead_true (s : ByteArray) (h0 : 0 < s.size) (h : Num.lead s.data.toList = true) : ((s[0].toNat : Int) == 48) = true ∧ 1 < s.size := by
 have e : s.data.toList.head? = some s[0] := by
  rw [List.head?_eq_getElem?, List.getElem?_eq_getElem (by simpa using h0)]; rfl
 simp only [Num.lead, e, Bool.and_eq_true, decide_eq_true_eq, beq_iff_eq, Option.some.injEq] at h
 refine ⟨by rw [h.1]; rfl, by simpa using h.2⟩
theorem lead_false (s : ByteArray) (h0 : 0 < s.size) (h : Num.lead s.data.toList = false) : ((s[0].toNat : Int) == 48) = false ∨ ((s[0].toNat : Int) == 48) = true ∧ s.size ≤ 1 := by
 have e : s.data.toList.head? = some s[0] := by
  rw [List.head?_eq_getElem?, List.getElem?_eq_getElem (by simpa using h0)]; rfl
 by_cases h48 : s[0] = 48
 ·right
  refine ⟨by rw [h48]; rfl, ?_⟩
  simp only [Num.lead, e, h48, Bool.and_eq_false_iff] at h
  rcases h with h | h
  ·simp at h
  ·simpa using h
 ·left
  simp only [beq_eq_false_iff_ne]
  intro h
  apply h48
  apply UInt8.toNat_inj.1
  show s[0].toNat = 48
  omega

theorem number_empty (s : ByteArray) (most : Int) (w : World) (h : s.toList.isEmpty = true) (_hz : s.size = 0) :
  Calls Tryz.prog 90 #[.string s, .int .i64 most] w fun e w' => e = .returned (.tuple #[.int .i64 0, .int .i64 13]) ∧ w' = w := by
 go_enter Tryz.func90, Tryz.ntmps90
 go_wp2
 go_ret2
 exact ⟨rfl, rfl⟩
theorem number_lead (s : ByteArray) (most : Int) (w : World) (h : s.toList.isEmpty = false) (h0 : 0 < s.size) (hs : s.size ≤ maxLen) (h1 : ((s[0].toNat : Int) == 48) = true) (h2 : 1 < s.size) :
  Calls Tryz.prog 90 #[.string s, .int .i64 most] w fun e w' => e = .returned (.tuple #[.int .i64 0, .int .i64 13]) ∧ w' = w := by
 unfold maxLen at hs
 have h3 : (1 : Int) < (s.size : Int) := by omega
 go_enter Tryz.func90, Tryz.ntmps90
 go_wp2
 go_ret2
 exact ⟨rfl, rfl⟩
theorem ret2 {a b c d : Int} (h1 : a = b) (h2 : c = d) : Ending.returned (.tuple #[.int .i64 a, .int .i64 c]) = .returned (.tuple #[.int .i64 b, .int .i64 d]) := by rw [h1, h2]
theorem number_loop (s : ByteArray) (most : Int) (w : World) (h : s.toList.isEmpty = false) (h0 : 0 < s.size) (hs : s.size ≤ maxLen) (hm1 : -9223372036854775808 ≤ most) (hm2 : most ≤ 9223372036854775807)
  (hl : ((s[0].toNat : Int) == 48) = false ∨ ((s[0].toNat : Int) == 48) = true ∧ s.size ≤ 1) (hL : Hid (Num.lead s.data.toList = false)) (hE : Hid (s.data.toList.isEmpty = false)) :
  Calls Tryz.prog 90 #[.string s, .int .i64 most] w fun e w' => e = .returned (.tuple #[.int .i64 (Num.numN s.data.toList most), .int .i64 (Num.numE s.data.toList most)]) ∧ w' = w := by
 unfold maxLen at hs
 rcases hl with hl | ⟨hl, hl1⟩
 all_goals
  go_enter Tryz.func90, Tryz.ntmps90
  go_wp2
  go_loop [6, 7] (fun n i => ∃ k : Nat, k ≤ s.size ∧ i = .int .i64 k ∧ n = .int .i64 (Num.numVal (s.data.toList.take k) : Nat) ∧ (k = 0 ∨ (Num.numVal (s.data.toList.take k) : Int) ≤ most) ∧ Hid ((s.data.toList.take k).all Num.isDig = true)) (fun _ i => s.size - (intOf i).toNat)
  case atStart => exact ⟨0, Nat.zero_le _, rfl, rfl, .inl rfl, rfl⟩
  case round =>
   obtain ⟨k, hk, rfl, rfl, hle, HD⟩ := hrel
   by_cases hlt : k < s.size
   ·have hsn := Num.step s k hlt
    have HS : Hid (Num.numVal (s.data.toList.take (k + 1)) = Num.numVal (s.data.toList.take k) * 10 + (s[k].toNat - 48)) := hsn
    clear hsn
    generalize hv : Num.numVal (s.data.toList.take k) = v at *
    have HV : Hid (Num.numVal (s.data.toList.take k) = v) := hv
    clear hv
    have hfail : Num.good s.data.toList most = false → Ending.returned (.tuple #[.int .i64 0, .int .i64 13]) = Ending.returned (.tuple #[.int .i64 (Num.numN s.data.toList most), .int .i64 (Num.numE s.data.toList most)]) :=
     fun hb => ret2 (Num.numN_bad hb).symm (Num.numE_bad hb).symm
    have HF := hide hfail
    clear hfail
    by_cases hd1 : (s[k].toNat : Int) < 48
    ·go_wp2
     go_ret2
     exact ⟨unhide HF (Num.bad_of_digit s most k hlt (Num.isDig_lo _ hd1)), rfl⟩
    by_cases hd2 : 57 < (s[k].toNat : Int)
    ·go_wp2
     go_ret2
     exact ⟨unhide HF (Num.bad_of_digit s most k hlt (Num.isDig_hi _ hd2)), rfl⟩
    by_cases ho1 : most < (s[k].toNat : Int) - 48
    ·have hov : most < (Num.numVal (s.data.toList.take (k + 1)) : Int) := by rw [HS.out]; omega
     have HO := hide (Num.bad_of_over s.data.toList most (k + 1) hov)
     clear hov
     go_wp2
     go_ret2
     exact ⟨unhide HF (unhide HO), rfl⟩
    by_cases ho2 : (most - ((s[k].toNat : Int) - 48)) / 10 < (v : Int)
    ·have hov : most < (Num.numVal (s.data.toList.take (k + 1)) : Int) := by rw [HS.out]; omega
     have HO := hide (Num.bad_of_over s.data.toList most (k + 1) hov)
     clear hov
     go_wp2
     go_ret2
     exact ⟨unhide HF (unhide HO), rfl⟩
    have HA : Hid ((s.data.toList.take (k + 1)).all Num.isDig = true) := by
     show (s.data.toList.take (k + 1)).all Num.isDig = true
     rw [Num.all_take s k hlt, HD.out, Num.isDig_of _ (by omega) (by omega)]; rfl
    have hq : (Num.numVal (s.data.toList.take (k + 1)) : Int) = v * 10 + ((s[k].toNat : Int) - 48) := by rw [HS.out]; omega
    have HQ := hide hq
    have hq2 : (Num.numVal (s.data.toList.take (k + 1)) : Int) ≤ most := by rw [hq]; omega
    have HQ2 := hide hq2
    clear hq hq2
    go_wp2
    go_round
    case rel => exact ⟨k + 1, by omega, by go_num, by rw [unhide HQ], .inr (unhide HQ2), HA⟩
    case measure => simp [intOf]; omega
   ·have hfull := Num.full s k (by omega)
    have hall : s.data.toList.all Num.isDig = true := by rw [← hfull]; exact HD.out
    have hle2 : (Num.numVal s.data.toList : Int) ≤ most := by
     rw [← hfull]
     rcases hle with rfl | hle
     ·omega
     ·exact hle
    have hgd := Num.good_of _ most hE.out hL.out hall hle2
    have HR : Hid (Ending.returned (.tuple #[.int .i64 ((Num.numVal (s.data.toList.take k) : Nat) : Int), .int .i64 0]) = Ending.returned (.tuple #[.int .i64 (Num.numN s.data.toList most), .int .i64 (Num.numE s.data.toList most)])) :=
     ret2 (by rw [Num.numN_good hgd, hfull]) (Num.numE_good hgd).symm
    clear hfull hall hle2 hgd
    go_wp2
    go_ret2
    exact ⟨HR.out, rfl⟩

theorem number_any (s : ByteArray) (most : Int) (w : World) (hs : s.size ≤ maxLen) (hm1 : -9223372036854775808 ≤ most) (hm2 : most ≤ 9223372036854775807) :
  Calls Tryz.prog 90 #[.string s, .int .i64 most] w fun e w' => e = .returned (.tuple #[.int .i64 (Num.numN s.data.toList most), .int .i64 (Num.numE s.data.toList most)]) ∧ w' = w := by
 cases hE : s.data.toList.isEmpty with
 | true =>
  have hb := Num.bad_of_empty s.data.toList most hE
  rw [Num.numN_bad hb, Num.numE_bad hb]
  exact number_empty s most w (by rw [empty_iff, hE]) (size_zero s hE)
 | false =>
  have h0 := size_pos s hE
  cases hL : Num.lead s.data.toList with
  | true =>
   have hb := Num.bad_of_lead s.data.toList most hL
   rw [Num.numN_bad hb, Num.numE_bad hb]
   obtain ⟨h1, h2⟩ := lead_true s h0 hL
   exact number_lead s most w (by rw [empty_iff, hE]) h0 hs h1 h2
  | false => exact number_loop s most w (by rw [empty_iff, hE]) h0 hs hm1 hm2 (lead_false s h0 hL) hL hE
end NumW
namespace One

def Hid (p : Prop) : Prop := p
theorem hide {p : Prop} (h : p) : Hid p := h
theorem unhide {p : Prop} (h : Hid p) : p := h
def sg (c : UInt8) : Bool := decide (33 ≤ c.toNat) && decide (c.toNat ≤ 126) && (c.toNat != 47) && (c.toNat != 44) && (c.toNat != 35)
theorem sg_int (c : UInt8) : sg c = (decide ((33 : Int) ≤ (c.toNat : Int)) && decide ((c.toNat : Int) ≤ 126) && ((c.toNat : Int) != 47) && ((c.toNat : Int) != 44) && ((c.toNat : Int) != 35)) := by
 unfold sg
 generalize c.toNat = n
 have e1 : decide (33 ≤ n) = decide ((33 : Int) ≤ (n : Int)) := decide_eq_decide.2 (by omega)
 have e2 : decide (n ≤ 126) = decide ((n : Int) ≤ 126) := decide_eq_decide.2 (by omega)
 have ne : ∀ k : Nat, (n != k) = ((n : Int) != (k : Int)) := fun k => by
  by_cases h : n = k
  ·subst h; simp
  ·have h2 : ¬ (n : Int) = (k : Int) := by omega
   have a1 : (n != k) = true := bne_iff_ne.2 h
   have a2 : ((n : Int) != (k : Int)) = true := bne_iff_ne.2 h2
   rw [a1, a2]
 rw [e1, e2, ne 47, ne 44, ne 35]
 rfl
def val (kind : Int) (l : List UInt8) : Int :=
 if kind = 1 then (match l with | [c] => if sg c then (c.toNat : Int) else 0 | _ => 0)
 else if kind = 2 then (match l with | [c, d] => if sg c && sg d then 256 * (c.toNat : Int) + (d.toNat : Int) else 0 | _ => 0)
 else Num.numN l 65535
def isK (kind : Int) : Bool := decide (1 ≤ kind) && decide (kind ≤ 3)
def oneF (kind : Int) (l : List UInt8) : Int := if isK kind then val kind l else 0
def oneE (kind : Int) (l : List UInt8) : Int := if isK kind then (if val kind l = 0 then 31 else 0) else 30
theorem sg_pos {c : UInt8} (h : sg c = true) : 33 ≤ c.toNat ∧ c.toNat ≤ 126 := by
 unfold sg at h
 simp at h
 exact ⟨h.1.1.1.1, h.1.1.1.2⟩
theorem val_bounds (kind : Int) (l : List UInt8) : 0 ≤ val kind l ∧ val kind l ≤ 65535 := by
 unfold val
 split
 ·split
  ·split
   ·rename_i h; have := sg_pos h; omega
   ·omega
  ·omega
 ·split
  ·split
   ·split
    ·rename_i h
     have h1 := sg_pos (Bool.and_eq_true_iff.1 h).1
     have h2 := sg_pos (Bool.and_eq_true_iff.1 h).2
     omega
    ·omega
   ·omega
  ·unfold Num.numN
   split
   ·rename_i h
    unfold Num.good at h
    simp at h
    omega
   ·omega
theorem or_u16 (c d : Nat) (hc : c < 256) (hd : d < 256) : bits .or .u16 ((c : Int) * 256) (d : Int) = 256 * (c : Int) + (d : Int) := by
 have h0 : (c : Int) * (256 : Int) = ((c <<< 8 : Nat) : Int) := by rw [Nat.shiftLeft_eq]; omega
 have hx : (c <<< 8) + d = c <<< 8 ||| d := Nat.shiftLeft_add_eq_or_of_lt (by omega) c
 have hs : c <<< 8 = c * 256 := by rw [Nat.shiftLeft_eq]
 have h1 : (BitVec.ofInt 16 ((c <<< 8 : Nat) : Int)).toNat = c <<< 8 := by
  rw [BitVec.ofInt_natCast, BitVec.toNat_ofNat]; exact Nat.mod_eq_of_lt (by omega)
 have h2 : (BitVec.ofInt 16 (d : Int)).toNat = d := by
  rw [BitVec.ofInt_natCast, BitVec.toNat_ofNat]; exact Nat.mod_eq_of_lt (by omega)
 rw [h0]
 show IntKind.u16.wrap ((BitVec.ofInt 16 ((c <<< 8 : Nat) : Int) ||| BitVec.ofInt 16 (d : Int)).toNat : Int) = _
 rw [BitVec.toNat_or, h1, h2, ← hx, hs]
 simp [IntKind.wrap, IntKind.bits, IntKind.signed]
 omega
theorem one_of {s : ByteArray} (h : s.size = 1) : ∃ c, s = ⟨#[c]⟩ := by
 obtain ⟨⟨l⟩⟩ := s
 match l, h with
 | [c], _ => exact ⟨c, rfl⟩
theorem two_of {s : ByteArray} (h : s.size = 2) : ∃ c d, s = ⟨#[c, d]⟩ := by
 obtain ⟨⟨l⟩⟩ := s
 match l, h with
 | [c, d], _ => exact ⟨c, d, rfl⟩
theorem val_not1 {s : ByteArray} (h : s.size ≠ 1) : val 1 s.data.toList = 0 := by
 obtain ⟨⟨l⟩⟩ := s
 match l, h with
 | [], _ => rfl
 | [c], h => exact absurd rfl h
 | _ :: _ :: _, _ => rfl
theorem val_not2 {s : ByteArray} (h : s.size ≠ 2) : val 2 s.data.toList = 0 := by
 obtain ⟨⟨l⟩⟩ := s
 match l, h with
 | [], _ => rfl
 | [c], _ => rfl
 | [c, d], h => exact absurd rfl h
 | _ :: _ :: _ :: _, _ => rfl
theorem byte_any (c : UInt8) (w : World) : Calls Tryz.prog 152 #[.int .u8 (c.toNat : Int)] w fun e w' => e = .returned (.bool (sg c)) ∧ w' = w := by
 have HS : Hid (sg c = (decide ((33 : Int) ≤ (c.toNat : Int)) && decide ((c.toNat : Int) ≤ 126) && ((c.toNat : Int) != 47) && ((c.toNat : Int) != 44) && ((c.toNat : Int) != 35))) := sg_int c
 generalize sg c = b at *
 generalize (c.toNat : Int) = x at *
 go_enter Tryz.func152, Tryz.ntmps152
 by_cases h1 : (33 : Int) ≤ x
 ·by_cases h2 : x ≤ 126
  ·cases h3 : (x != 47)
   ·go_wp2
    go_ret
    exact ⟨by rw [unhide HS]; simp [h1, h2, h3], rfl⟩
   ·cases h4 : (x != 44)
    ·go_wp2
     go_ret
     exact ⟨by rw [unhide HS]; simp [h1, h2, h3, h4], rfl⟩
    ·go_wp2
     go_ret
     exact ⟨by rw [unhide HS]; simp [h1, h2, h3, h4], rfl⟩
  ·go_wp2
   go_ret
   exact ⟨by rw [unhide HS]; simp; omega, rfl⟩
 ·go_wp2
  go_ret
  exact ⟨by rw [unhide HS]; simp; omega, rfl⟩
theorem kind_any (k : Int) (w : World) : Calls Tryz.prog 133 #[.int .i64 k] w fun e w' => e = .returned (.bool (isK k)) ∧ w' = w := by
 have HS : Hid (isK k = ((k == 1) || (k == 2) || (k == 3))) := by
  unfold isK
  rw [Hid]
  by_cases h1 : k = 1
  ·subst h1; rfl
  ·by_cases h2 : k = 2
   ·subst h2; rfl
   ·by_cases h3 : k = 3
    ·subst h3; rfl
    ·have e1 : (k == 1) = false := beq_eq_false_iff_ne.2 h1
     have e2 : (k == 2) = false := beq_eq_false_iff_ne.2 h2
     have e3 : (k == 3) = false := beq_eq_false_iff_ne.2 h3
     rw [e1, e2, e3]
     simp
     omega
 generalize isK k = b at *
 go_enter Tryz.func133, Tryz.ntmps133
 cases h1 : (k == 1)
 ·cases h2 : (k == 2)
  ·go_wp2
   go_ret
   exact ⟨by rw [unhide HS]; simp [h1, h2], rfl⟩
  ·go_wp2
   go_ret
   exact ⟨by rw [unhide HS]; simp [h2], rfl⟩
 ·go_wp2
  go_ret
  exact ⟨by rw [unhide HS]; simp [h1], rfl⟩

theorem ret2 {a b c d : Int} {k k2 : IntKind} (h1 : a = c) (h2 : b = d) : Ending.returned (.tuple #[.int k a, .int k2 b]) = Ending.returned (.tuple #[.int k c, .int k2 d]) := by rw [h1, h2]
theorem byte_range (c : UInt8) : (0 : Int) ≤ (c.toNat : Int) ∧ (c.toNat : Int) < 256 := by
 have := c.toNat_lt
 omega
theorem one_any (kind : Int) (s : ByteArray) (w : World) (hs : s.size ≤ maxLen) :
  Calls Tryz.prog 130 #[.int .i64 kind, .string s] w fun e w' => e = .returned (.tuple #[.int .u16 (oneF kind s.data.toList), .int .i64 (oneE kind s.data.toList)]) ∧ ∃ n, w' = w.drewN n := by
 by_cases h1 : kind = 1
 ·subst h1
  have hk : ∀ w, Calls Tryz.prog 133 #[.int .i64 1] w fun e w' => e = .returned (.bool true) ∧ w' = w := fun w => kind_any 1 w
  have HK := hide hk
  clear hk
  by_cases hz : s.size = 1
  ·obtain ⟨c, rfl⟩ := one_of hz
   have HB := hide (fun w => byte_any c w)
   have hcr := byte_range c
   have hc0 : (ByteArray.mk #[c])[0] = c := rfl
   have hsz1 : (ByteArray.mk #[c]).size = 1 := rfl
   cases hg : sg c
   ·have HF : Hid (oneF 1 (ByteArray.mk #[c]).data.toList = 0) := by simp [Hid, oneF, isK, val, hg]
    have HE : Hid (oneE 1 (ByteArray.mk #[c]).data.toList = 31) := by simp [Hid, oneE, isK, val, hg]
    rw [hg] at HB
    generalize oneF 1 (ByteArray.mk #[c]).data.toList = F at *
    generalize oneE 1 (ByteArray.mk #[c]).data.toList = E at *
    go_enter Tryz.func130, Tryz.ntmps130
    go_wp2_with (first
     | (go_at_call 133; refine (unhide HK _).mono ?_; rintro e w1 ⟨rfl, hw1⟩; obtain rfl := hw1.symm)
     | (go_at_call 152; refine (unhide HB _).mono ?_; rintro e w1 ⟨rfl, hw1⟩; obtain rfl := hw1.symm))
    go_ret2
    exact ⟨ret2 (unhide HF).symm (unhide HE).symm, 0, rfl⟩
   ·have HF : Hid (oneF 1 (ByteArray.mk #[c]).data.toList = (c.toNat : Int)) := by simp [Hid, oneF, isK, val, hg]
    have HE : Hid (oneE 1 (ByteArray.mk #[c]).data.toList = 0) := by
     have := sg_pos hg
     simp [Hid, oneE, isK, val, hg]
     omega
    rw [hg] at HB
    have hwr : IntKind.u16.wrap (c.toNat : Int) = (c.toNat : Int) := by simp [IntKind.wrap, IntKind.bits, IntKind.signed]; omega
    generalize oneF 1 (ByteArray.mk #[c]).data.toList = F at *
    generalize oneE 1 (ByteArray.mk #[c]).data.toList = E at *
    go_enter Tryz.func130, Tryz.ntmps130
    go_wp2_with (first
     | (go_at_call 133; refine (unhide HK _).mono ?_; rintro e w1 ⟨rfl, hw1⟩; obtain rfl := hw1.symm)
     | (go_at_call 152; refine (unhide HB _).mono ?_; rintro e w1 ⟨rfl, hw1⟩; obtain rfl := hw1.symm))
    go_ret2
    exact ⟨ret2 (unhide HF).symm (unhide HE).symm, 0, rfl⟩
  ·have HF : Hid (oneF 1 s.data.toList = 0) := by rw [Hid, oneF, val_not1 hz]; simp
   have HE : Hid (oneE 1 s.data.toList = 31) := by rw [Hid, oneE, val_not1 hz]; rfl
   have hzz : ((s.size : Int) == 1) = false := by rw [beq_eq_false_iff_ne]; omega
   generalize oneF 1 s.data.toList = F at *
   generalize oneE 1 s.data.toList = E at *
   go_enter Tryz.func130, Tryz.ntmps130
   go_wp2_with (go_at_call 133; refine (unhide HK _).mono ?_; rintro e w1 ⟨rfl, hw1⟩; obtain rfl := hw1.symm)
   go_ret2
   exact ⟨ret2 (unhide HF).symm (unhide HE).symm, 0, rfl⟩
 ·by_cases h2 : kind = 2
  ·subst h2
   have hk : ∀ w, Calls Tryz.prog 133 #[.int .i64 2] w fun e w' => e = .returned (.bool true) ∧ w' = w := fun w => kind_any 2 w
   have HK := hide hk
   clear hk h1
   by_cases hz : s.size = 2
   ·obtain ⟨c, d, rfl⟩ := two_of hz
    have HB := hide (fun w => byte_any c w)
    have HD := hide (fun w => byte_any d w)
    have hcr := byte_range c
    have hdr := byte_range d
    have hor := or_u16 c.toNat d.toNat (by omega) (by omega)
    have hwc : IntKind.u16.wrap (c.toNat : Int) = (c.toNat : Int) := by simp [IntKind.wrap, IntKind.bits, IntKind.signed]; omega
    have hwd : IntKind.u16.wrap (d.toNat : Int) = (d.toNat : Int) := by simp [IntKind.wrap, IntKind.bits, IntKind.signed]; omega
    have hw2 : IntKind.u16.wrap ((c.toNat : Int) * 256) = (c.toNat : Int) * 256 ∨ sg c = false := by
     cases hg : sg c
     ·exact .inr rfl
     ·left
      have := sg_pos hg
      simp [IntKind.wrap, IntKind.bits, IntKind.signed]; omega
    have hc0 : (ByteArray.mk #[c, d])[0] = c := rfl
    have hc1 : (ByteArray.mk #[c, d])[1] = d := rfl
    have hsz1 : (ByteArray.mk #[c, d]).size = 2 := rfl
    have HV : Hid (val 2 (ByteArray.mk #[c, d]).data.toList = if sg c && sg d then 256 * (c.toNat : Int) + (d.toNat : Int) else 0) := rfl
    cases hg : sg c
    ·have HF : Hid (oneF 2 (ByteArray.mk #[c, d]).data.toList = 0) := by rw [Hid, oneF, unhide HV, hg]; rfl
     have HE : Hid (oneE 2 (ByteArray.mk #[c, d]).data.toList = 31) := by rw [Hid, oneE, unhide HV, hg]; rfl
     rw [hg] at HB
     clear HD
     generalize oneF 2 (ByteArray.mk #[c, d]).data.toList = F at *
     generalize oneE 2 (ByteArray.mk #[c, d]).data.toList = E at *
     go_enter Tryz.func130, Tryz.ntmps130
     go_wp2_with (first
      | (go_at_call 133; refine (unhide HK _).mono ?_; rintro e w1 ⟨rfl, hw1⟩; obtain rfl := hw1.symm)
      | (go_at_call 152; refine (unhide HB _).mono ?_; rintro e w1 ⟨rfl, hw1⟩; obtain rfl := hw1.symm))
     go_ret2
     exact ⟨ret2 (unhide HF).symm (unhide HE).symm, 0, rfl⟩
    ·cases hgd : sg d
     ·have HF : Hid (oneF 2 (ByteArray.mk #[c, d]).data.toList = 0) := by rw [Hid, oneF, unhide HV, hg, hgd]; rfl
      have HE : Hid (oneE 2 (ByteArray.mk #[c, d]).data.toList = 31) := by rw [Hid, oneE, unhide HV, hg, hgd]; rfl
      clear HB HD
      generalize oneF 2 (ByteArray.mk #[c, d]).data.toList = F at *
      generalize oneE 2 (ByteArray.mk #[c, d]).data.toList = E at *
      go_enter Tryz.func130, Tryz.ntmps130
      go_wp2_with (first
       | (go_at_call 133; refine (unhide HK _).mono ?_; rintro e w1 ⟨rfl, hw1⟩; obtain rfl := hw1.symm)
       | (go_at_call 152; refine (byte_any _ _).mono ?_; rintro e w1 ⟨rfl, hw1⟩; obtain rfl := hw1.symm; (try rw [hg]); (try rw [hgd])))
      go_ret2
      exact ⟨ret2 (unhide HF).symm (unhide HE).symm, 0, rfl⟩
     ·have hp := sg_pos hg
      have hw3 : IntKind.u16.wrap ((c.toNat : Int) * 256) = (c.toNat : Int) * 256 := by rcases hw2 with h | h; exact h; rw [hg] at h; cases h
      have HF : Hid (oneF 2 (ByteArray.mk #[c, d]).data.toList = 256 * (c.toNat : Int) + (d.toNat : Int)) := by rw [Hid, oneF, unhide HV, hg, hgd]; rfl
      have HE : Hid (oneE 2 (ByteArray.mk #[c, d]).data.toList = 0) := by
       rw [Hid, oneE, unhide HV, hg, hgd]
       have e : (isK 2) = true := rfl
       rw [if_pos e, if_neg]
       simp
       omega
      clear HB HD
      clear hw2 hp
      generalize oneF 2 (ByteArray.mk #[c, d]).data.toList = F at *
      generalize oneE 2 (ByteArray.mk #[c, d]).data.toList = E at *
      go_enter Tryz.func130, Tryz.ntmps130
      go_wp2_with (first
       | (go_at_call 133; refine (unhide HK _).mono ?_; rintro e w1 ⟨rfl, hw1⟩; obtain rfl := hw1.symm)
       | (go_at_call 152; refine (byte_any _ _).mono ?_; rintro e w1 ⟨rfl, hw1⟩; obtain rfl := hw1.symm; (try rw [hg]); (try rw [hgd])))
      go_quiet (fail)
      go_wp2
      go_ret2
      exact ⟨ret2 (unhide HF).symm (unhide HE).symm, _, rfl⟩
   ·have HF : Hid (oneF 2 s.data.toList = 0) := by rw [Hid, oneF, val_not2 hz]; simp
    have HE : Hid (oneE 2 s.data.toList = 31) := by rw [Hid, oneE, val_not2 hz]; rfl
    have hzz : ((s.size : Int) == 2) = false := by rw [beq_eq_false_iff_ne]; omega
    generalize oneF 2 s.data.toList = F at *
    generalize oneE 2 s.data.toList = E at *
    go_enter Tryz.func130, Tryz.ntmps130
    go_wp2_with (go_at_call 133; refine (unhide HK _).mono ?_; rintro e w1 ⟨rfl, hw1⟩; obtain rfl := hw1.symm)
    go_ret2
    exact ⟨ret2 (unhide HF).symm (unhide HE).symm, 0, rfl⟩
  ·by_cases h3 : kind = 3
   ·subst h3
    have hk : ∀ w, Calls Tryz.prog 133 #[.int .i64 3] w fun e w' => e = .returned (.bool true) ∧ w' = w := fun w => kind_any 3 w
    have HK := hide hk
    clear hk h1 h2
    have HN := hide (fun W => NumW.number_any s 65535 W hs (by decide) (by decide))
    have hv := val_bounds 3 s.data.toList
    have ev : val 3 s.data.toList = Num.numN s.data.toList 65535 := rfl
    have HF : Hid (oneF 3 s.data.toList = Num.numN s.data.toList 65535) := rfl
    have HE : Hid (oneE 3 s.data.toList = if Num.numN s.data.toList 65535 = 0 then 31 else 0) := rfl
    have hgood : Num.numE s.data.toList 65535 = 0 ∨ (Num.numE s.data.toList 65535 = 13 ∧ Num.numN s.data.toList 65535 = 0) := by
     unfold Num.numE Num.numN
     split
     ·exact .inl rfl
     ·exact .inr ⟨rfl, rfl⟩
    rw [ev] at hv
    clear ev
    generalize oneF 3 s.data.toList = F at *
    generalize oneE 3 s.data.toList = E at *
    generalize Num.numN s.data.toList 65535 = N at *
    generalize Num.numE s.data.toList 65535 = X at *
    have hwr : IntKind.u16.wrap N = N := by simp [IntKind.wrap, IntKind.bits, IntKind.signed]; omega
    rcases hgood with rfl | ⟨rfl, rfl⟩
    ·by_cases hN0 : N = 0
     ·subst hN0
      go_enter Tryz.func130, Tryz.ntmps130
      go_wp2_with (first
       | (go_at_call 133; refine (unhide HK _).mono ?_; rintro e w1 ⟨rfl, hw1⟩; obtain rfl := hw1.symm)
       | (go_at_call 90; refine (unhide HN _).mono ?_; rintro e w1 ⟨rfl, hw1⟩; obtain rfl := hw1.symm))
      go_ret2
      exact ⟨ret2 (unhide HF).symm (by rw [unhide HE]; rfl), 0, rfl⟩
     ·have hNp : (0 : Int) < N := by omega
      have HE0 : Hid (E = 0) := by rw [Hid, unhide HE, if_neg hN0]
      go_enter Tryz.func130, Tryz.ntmps130
      go_wp2_with (first
       | (go_at_call 133; refine (unhide HK _).mono ?_; rintro e w1 ⟨rfl, hw1⟩; obtain rfl := hw1.symm)
       | (go_at_call 90; refine (unhide HN _).mono ?_; rintro e w1 ⟨rfl, hw1⟩; obtain rfl := hw1.symm))
      go_ret2
      exact ⟨ret2 (unhide HF).symm (unhide HE0).symm, 0, rfl⟩
    ·go_enter Tryz.func130, Tryz.ntmps130
     go_wp2_with (first
      | (go_at_call 133; refine (unhide HK _).mono ?_; rintro e w1 ⟨rfl, hw1⟩; obtain rfl := hw1.symm)
      | (go_at_call 90; refine (unhide HN _).mono ?_; rintro e w1 ⟨rfl, hw1⟩; obtain rfl := hw1.symm))
     go_ret2
     exact ⟨ret2 (unhide HF).symm (by rw [unhide HE]; rfl), 0, rfl⟩
   ·have hk0 : isK kind = false := by unfold isK; simp; omega
    have HK := hide (fun w => kind_any kind w)
    rw [hk0] at HK
    have HF : Hid (oneF kind s.data.toList = 0) := by rw [Hid, oneF, hk0]; rfl
    have HE : Hid (oneE kind s.data.toList = 30) := by rw [Hid, oneE, hk0]; rfl
    generalize oneF kind s.data.toList = F at *
    generalize oneE kind s.data.toList = E at *
    go_enter Tryz.func130, Tryz.ntmps130
    go_wp2_with (go_at_call 133; refine (unhide HK _).mono ?_; rintro e w1 ⟨rfl, hw1⟩; obtain rfl := hw1.symm)
    go_ret2
    exact ⟨ret2 (unhide HF).symm (unhide HE).symm, 0, rfl⟩
end One
namespace NumW

end NumW
namespace One

end One
end Go.Proofs.YtidhbhdcoanfcaaGreatDoor
namespace Go.Proofs.YtidhbhdcoanfcaaGreatDoor.Dec

def low (u : Nat) : List UInt8 := if u = 0 then [] else (Lib.decDigits u).reverse
theorem low_zero : low 0 = [] := rfl
theorem low_pos {u : Nat} (h : 0 < u) : low u = UInt8.ofNat (48 + u % 10) :: low (u / 10) := by
 unfold low
 rw [if_neg (by omega), Lib.decDigits]
 by_cases h10 : u < 10
 ·rw [dif_pos h10, if_pos (by omega), Nat.mod_eq_of_lt h10]; rfl
 ·rw [dif_neg h10, if_neg (by omega)]; simp
theorem nDigits_le : ∀ (k u : Nat), u < 10 ^ (k + 1) → Lib.nDigits u ≤ k + 1
 | 0, u, h => by rw [Lib.nDigits_small (by simpa using h)]; exact Nat.le_refl _
 | k + 1, u, h => by
  by_cases h10 : u < 10
  ·rw [Lib.nDigits_small h10]; omega
  ·rw [Lib.nDigits_big h10]
   rw [Nat.pow_succ] at h
   have := nDigits_le k (u / 10) (by omega)
   omega
theorem low_len {u : Nat} (h : u ≤ 9223372036854775808) : (low u).length ≤ 19 := by
 unfold low
 split
 ·simp
 ·rw [List.length_reverse, Lib.decDigits_length]
  exact nDigits_le 18 u (Nat.lt_of_le_of_lt h (by decide))
theorem low_rev {u : Nat} (h : 0 < u) : (low u).reverse = Lib.decDigits u := by
 unfold low
 rw [if_neg (by omega), List.reverse_reverse]
theorem step {u r : Nat} {D : List UInt8} (h : D ++ low r = low u) (hr : 0 < r) : (D ++ [UInt8.ofNat (48 + r % 10)]) ++ low (r / 10) = low u := by
 rw [← h, low_pos hr]; simp
theorem len_of {u r : Nat} {D : List UInt8} (h : D ++ low r = low u) (hu : u ≤ 9223372036854775808) : D.length ≤ 19 := by
 have := congrArg List.length h
 have h2 := low_len hu
 simp at this
 omega
theorem byte_of (d : Nat) (h : d < 10) : ((UInt8.ofNat (48 + d)).toNat : Int) = 48 + (d : Int) := by
 rw [UInt8.toNat_ofNat']
 omega
theorem drop_rev (L : List UInt8) (k : Nat) (h : k < L.length) : (L.drop k).reverse = (L.drop (k + 1)).reverse ++ [L[k]] := by
 rw [List.drop_eq_getElem_cons h]; simp

theorem numVal_dec (u : Nat) : Num.numVal (Lib.decDigits u) = u := by
 induction u using Nat.strongRecOn with
 | _ u ih =>
  rw [Lib.decDigits]
  by_cases h : u < 10
  ·rw [dif_pos h]
   have e := byte_of u h
   have e2 : (UInt8.ofNat (48 + u)).toNat = 48 + u := by omega
   simp only [Num.numVal, List.foldl_cons, List.foldl_nil, e2]
   omega
  ·rw [dif_neg h, Num.numVal_snoc, ih (u / 10) (by omega)]
   have e := byte_of (u % 10) (by omega)
   have e2 : (UInt8.ofNat (48 + u % 10)).toNat = 48 + u % 10 := by omega
   rw [e2]
   omega
theorem isDig_byte (d : Nat) (h : d < 10) : Num.isDig (UInt8.ofNat (48 + d)) = true := by
 have := byte_of d h
 exact Num.isDig_of _ (by omega) (by omega)
theorem all_dec (u : Nat) : (Lib.decDigits u).all Num.isDig = true := by
 induction u using Nat.strongRecOn with
 | _ u ih =>
  rw [Lib.decDigits]
  by_cases h : u < 10
  ·rw [dif_pos h, List.all_cons, isDig_byte u h]; rfl
  ·rw [dif_neg h, List.all_append, ih (u / 10) (by omega), List.all_cons, isDig_byte (u % 10) (by omega)]; rfl
theorem head_dec (u : Nat) (h : 0 < u) : ∃ c t, Lib.decDigits u = c :: t ∧ c ≠ 48 := by
 induction u using Nat.strongRecOn with
 | _ u ih =>
  rw [Lib.decDigits]
  by_cases h10 : u < 10
  ·rw [dif_pos h10]
   refine ⟨_, [], rfl, fun e => ?_⟩
   have := byte_of u h10
   rw [e] at this
   have : ((48 : UInt8).toNat : Int) = 48 := rfl
   omega
  ·rw [dif_neg h10]
   obtain ⟨c, t, e, hc⟩ := ih (u / 10) (by omega) (by omega)
   rw [e]
   exact ⟨c, _, rfl, hc⟩
theorem lead_dec (u : Nat) : Num.lead (Lib.decDigits u) = false := by
 by_cases h : 0 < u
 ·obtain ⟨c, t, e, hc⟩ := head_dec u h
  simp [Num.lead, e, hc]
 ·have : u = 0 := by omega
  subst this
  rw [Lib.decDigits_one (by decide)]
  decide
theorem nonempty_dec (u : Nat) : (Lib.decDigits u).isEmpty = false := by
 by_cases h : 0 < u
 ·obtain ⟨c, t, e, _⟩ := head_dec u h
  simp [e]
 ·have : u = 0 := by omega
  subst this
  rw [Lib.decDigits_one (by decide)]
  decide
end Go.Proofs.YtidhbhdcoanfcaaGreatDoor.Dec
