/- Contracts: lines.Number answers the number and the error of the plain definition, for every text and every int, and turns nothing in memory. -/
import Derived.Test.YtkefjaifaonlbaaGreatDoorChecked
import Derived.Test.YtkefjaifaonlbaaGreatDoorGz06
import Derived.WalkKit
import Derived.WalkSpells
import Derived.WalkLawsBesides
import Derived.Deep.QuietTactic
import Derived.BigQuiet
import Derived.Deep.DeepFit
import Derived.Lib.Strings
import Derived.Laws.Bits64b
import Derived.Test.YtkefjaifaonlbaaGreatDoorGz02
import Derived.Test.YtkefjaifaonlbaaGreatDoorShAll
namespace Go.Proofs.YtkefjaifaonlbaaGreatDoor
open Go.RowKit
namespace NumW

theorem hide {p : Prop} (h : p) : Hid p := h
theorem unhide {p : Prop} (h : Hid p) : p := h

theorem empty_iff (s : ByteArray) : s.toList.isEmpty = s.data.toList.isEmpty := by rw [Lib.toList_data]
theorem size_pos (s : ByteArray) (h : s.data.toList.isEmpty = false) : 0 < s.size := by
  have : 0 < s.data.toList.length := by
    cases hh : s.data.toList with
    | nil => rw [hh] at h; cases h
    | cons _ _ => simp
  simpa using this
theorem size_zero (s : ByteArray) (h : s.data.toList.isEmpty = true) : s.size = 0 := by
  have : s.data.toList.length = 0 := by
    cases hh : s.data.toList with
    | nil => rfl
    | cons _ _ => rw [hh] at h; cases h
  simpa using this
theorem lead_true (s : ByteArray) (h0 : 0 < s.size) (h : Num.lead s.data.toList = true) : ((s[0].toNat : Int) == 48) = true ∧ 1 < s.size := by
  have e : s.data.toList.head? = some s[0] := by
    rw [List.head?_eq_getElem?, List.getElem?_eq_getElem (by simpa using h0)]; rfl
  simp only [Num.lead, e, Bool.and_eq_true, decide_eq_true_eq, beq_iff_eq, Option.some.injEq] at h
  refine ⟨by rw [h.1]; rfl, by simpa using h.2⟩
theorem lead_false (s : ByteArray) (h0 : 0 < s.size) (h : Num.lead s.data.toList = false) : ((s[0].toNat : Int) == 48) = false ∨ ((s[0].toNat : Int) == 48) = true ∧ s.size ≤ 1 := by
  have e : s.data.toList.head? = some s[0] := by
    rw [List.head?_eq_getElem?, List.getElem?_eq_getElem (by simpa using h0)]; rfl
  by_cases h48 : s[0] = 48
  · right
    refine ⟨by rw [h48]; rfl, ?_⟩
    simp only [Num.lead, e, h48, Bool.and_eq_false_iff] at h
    rcases h with h | h
    · simp at h
    · simpa using h
  · left
    simp only [beq_eq_false_iff_ne]
    intro h
    apply h48
    apply UInt8.toNat_inj.1
    show s[0].toNat = 48
    omega

set_option maxHeartbeats 400000 in
theorem number_empty (s : ByteArray) (most : Int) (w : World) (h : s.toList.isEmpty = true) (_hz : s.size = 0) :
    Calls Tryz.prog 12 #[.string s, .int .i64 most] w fun e w' => e = .returned (.tuple #[.int .i64 0, .int .i64 13]) ∧ w' = w := by
  go_enter Tryz.func12, Tryz.ntmps12
  go_wp2
  go_ret2
  exact ⟨rfl, rfl⟩
set_option maxHeartbeats 400000 in
theorem number_lead (s : ByteArray) (most : Int) (w : World) (h : s.toList.isEmpty = false) (h0 : 0 < s.size) (hs : s.size ≤ maxLen) (h1 : ((s[0].toNat : Int) == 48) = true) (h2 : 1 < s.size) :
    Calls Tryz.prog 12 #[.string s, .int .i64 most] w fun e w' => e = .returned (.tuple #[.int .i64 0, .int .i64 13]) ∧ w' = w := by
  unfold maxLen at hs
  have h3 : (1 : Int) < (s.size : Int) := by omega
  go_enter Tryz.func12, Tryz.ntmps12
  go_wp2
  go_ret2
  exact ⟨rfl, rfl⟩
theorem ret2 {a b c d : Int} (h1 : a = b) (h2 : c = d) : Ending.returned (.tuple #[.int .i64 a, .int .i64 c]) = .returned (.tuple #[.int .i64 b, .int .i64 d]) := by rw [h1, h2]
set_option maxHeartbeats 1000000 in
theorem number_loop (s : ByteArray) (most : Int) (w : World) (h : s.toList.isEmpty = false) (h0 : 0 < s.size) (hs : s.size ≤ maxLen) (hm1 : -9223372036854775808 ≤ most) (hm2 : most ≤ 9223372036854775807)
    (hl : ((s[0].toNat : Int) == 48) = false ∨ ((s[0].toNat : Int) == 48) = true ∧ s.size ≤ 1) (hL : Hid (Num.lead s.data.toList = false)) (hE : Hid (s.data.toList.isEmpty = false)) :
    Calls Tryz.prog 12 #[.string s, .int .i64 most] w fun e w' => e = .returned (.tuple #[.int .i64 (Num.numN s.data.toList most), .int .i64 (Num.numE s.data.toList most)]) ∧ w' = w := by
  unfold maxLen at hs
  rcases hl with hl | ⟨hl, hl1⟩
  all_goals
    go_enter Tryz.func12, Tryz.ntmps12
    go_wp2
    go_loop [6, 7] (fun n i => ∃ k : Nat, k ≤ s.size ∧ i = .int .i64 k ∧ n = .int .i64 (Num.numVal (s.data.toList.take k) : Nat) ∧ (k = 0 ∨ (Num.numVal (s.data.toList.take k) : Int) ≤ most) ∧ Hid ((s.data.toList.take k).all Num.isDig = true)) (fun _ i => s.size - (intOf i).toNat)
    case atStart => exact ⟨0, Nat.zero_le _, rfl, rfl, .inl rfl, rfl⟩
    case round =>
      obtain ⟨k, hk, rfl, rfl, hle, HD⟩ := hrel
      by_cases hlt : k < s.size
      · have hsn := Num.step s k hlt
        have HS : Hid (Num.numVal (s.data.toList.take (k + 1)) = Num.numVal (s.data.toList.take k) * 10 + (s[k].toNat - 48)) := hsn
        clear hsn
        generalize hv : Num.numVal (s.data.toList.take k) = v at *
        have HV : Hid (Num.numVal (s.data.toList.take k) = v) := hv
        clear hv
        have hfail : Num.good s.data.toList most = false → Ending.returned (.tuple #[.int .i64 0, .int .i64 13]) = Ending.returned (.tuple #[.int .i64 (Num.numN s.data.toList most), .int .i64 (Num.numE s.data.toList most)]) :=
          fun hb => ret2 (Num.numN_bad hb).symm (Num.numE_bad hb).symm
        have HF := hide hfail
        clear hfail
        by_cases hd1 : (s[k].toNat : Int) < 48
        · go_wp2
          go_ret2
          exact ⟨unhide HF (Num.bad_of_digit s most k hlt (Num.isDig_lo _ hd1)), rfl⟩
        by_cases hd2 : 57 < (s[k].toNat : Int)
        · go_wp2
          go_ret2
          exact ⟨unhide HF (Num.bad_of_digit s most k hlt (Num.isDig_hi _ hd2)), rfl⟩
        by_cases ho1 : most < (s[k].toNat : Int) - 48
        · have hov : most < (Num.numVal (s.data.toList.take (k + 1)) : Int) := by rw [HS.out]; omega
          have HO := hide (Num.bad_of_over s.data.toList most (k + 1) hov)
          clear hov
          go_wp2
          go_ret2
          exact ⟨unhide HF (unhide HO), rfl⟩
        by_cases ho2 : (most - ((s[k].toNat : Int) - 48)) / 10 < (v : Int)
        · have hov : most < (Num.numVal (s.data.toList.take (k + 1)) : Int) := by rw [HS.out]; omega
          have HO := hide (Num.bad_of_over s.data.toList most (k + 1) hov)
          clear hov
          go_wp2
          go_ret2
          exact ⟨unhide HF (unhide HO), rfl⟩
        have HA : Hid ((s.data.toList.take (k + 1)).all Num.isDig = true) := by
          show (s.data.toList.take (k + 1)).all Num.isDig = true
          rw [Num.all_take s k hlt, HD.out, Num.isDig_of _ (by omega) (by omega)]; rfl
        have hq : (Num.numVal (s.data.toList.take (k + 1)) : Int) = v * 10 + ((s[k].toNat : Int) - 48) := by rw [HS.out]; omega
        have HQ := hide hq
        have hq2 : (Num.numVal (s.data.toList.take (k + 1)) : Int) ≤ most := by rw [hq]; omega
        have HQ2 := hide hq2
        clear hq hq2
        go_wp2
        go_round
        case rel => exact ⟨k + 1, by omega, by go_num, by rw [unhide HQ], .inr (unhide HQ2), HA⟩
        case measure => simp [intOf]; omega
      · have hfull := Num.full s k (by omega)
        have hall : s.data.toList.all Num.isDig = true := by rw [← hfull]; exact HD.out
        have hle2 : (Num.numVal s.data.toList : Int) ≤ most := by
          rw [← hfull]
          rcases hle with rfl | hle
          · omega
          · exact hle
        have hgd := Num.good_of _ most hE.out hL.out hall hle2
        have HR : Hid (Ending.returned (.tuple #[.int .i64 ((Num.numVal (s.data.toList.take k) : Nat) : Int), .int .i64 0]) = Ending.returned (.tuple #[.int .i64 (Num.numN s.data.toList most), .int .i64 (Num.numE s.data.toList most)])) :=
          ret2 (by rw [Num.numN_good hgd, hfull]) (Num.numE_good hgd).symm
        clear hfull hall hle2 hgd
        go_wp2
        go_ret2
        exact ⟨HR.out, rfl⟩

theorem number_any (s : ByteArray) (most : Int) (w : World) (hs : s.size ≤ maxLen) (hm1 : -9223372036854775808 ≤ most) (hm2 : most ≤ 9223372036854775807) :
    Calls Tryz.prog 12 #[.string s, .int .i64 most] w fun e w' => e = .returned (.tuple #[.int .i64 (Num.numN s.data.toList most), .int .i64 (Num.numE s.data.toList most)]) ∧ w' = w := by
  cases hE : s.data.toList.isEmpty with
  | true =>
    have hb := Num.bad_of_empty s.data.toList most hE
    rw [Num.numN_bad hb, Num.numE_bad hb]
    exact number_empty s most w (by rw [empty_iff, hE]) (size_zero s hE)
  | false =>
    have h0 := size_pos s hE
    cases hL : Num.lead s.data.toList with
    | true =>
      have hb := Num.bad_of_lead s.data.toList most hL
      rw [Num.numN_bad hb, Num.numE_bad hb]
      obtain ⟨h1, h2⟩ := lead_true s h0 hL
      exact number_lead s most w (by rw [empty_iff, hE]) h0 hs h1 h2
    | false => exact number_loop s most w (by rw [empty_iff, hE]) h0 hs hm1 hm2 (lead_false s h0 hL) hL hE
end NumW
end Go.Proofs.YtkefjaifaonlbaaGreatDoor
/- Contracts: flags.One and the document's own One: the flag that a text writes; nothing in memory turns. -/
namespace Go.Proofs.YtkefjaifaonlbaaGreatDoor
open Go.RowKit
namespace One

def Hid (p : Prop) : Prop := p
theorem hide {p : Prop} (h : p) : Hid p := h
theorem unhide {p : Prop} (h : Hid p) : p := h
/-- is it a flag byte? -/
def sg (c : UInt8) : Bool := decide (33 ≤ c.toNat) && decide (c.toNat ≤ 126) && (c.toNat != 47) && (c.toNat != 44) && (c.toNat != 35)
theorem sg_int (c : UInt8) : sg c = (decide ((33 : Int) ≤ (c.toNat : Int)) && decide ((c.toNat : Int) ≤ 126) && ((c.toNat : Int) != 47) && ((c.toNat : Int) != 44) && ((c.toNat : Int) != 35)) := by
  unfold sg
  generalize c.toNat = n
  have e1 : decide (33 ≤ n) = decide ((33 : Int) ≤ (n : Int)) := decide_eq_decide.2 (by omega)
  have e2 : decide (n ≤ 126) = decide ((n : Int) ≤ 126) := decide_eq_decide.2 (by omega)
  have ne : ∀ k : Nat, (n != k) = ((n : Int) != (k : Int)) := fun k => by
    by_cases h : n = k
    · subst h; simp
    · have h2 : ¬ (n : Int) = (k : Int) := by omega
      have a1 : (n != k) = true := bne_iff_ne.2 h
      have a2 : ((n : Int) != (k : Int)) = true := bne_iff_ne.2 h2
      rw [a1, a2]
  rw [e1, e2, ne 47, ne 44, ne 35]
  rfl
/-- the flag that a text writes; 0: it writes none -/
def val (kind : Int) (l : List UInt8) : Int :=
  if kind = 1 then (match l with | [c] => if sg c then (c.toNat : Int) else 0 | _ => 0)
  else if kind = 2 then (match l with | [c, d] => if sg c && sg d then 256 * (c.toNat : Int) + (d.toNat : Int) else 0 | _ => 0)
  else Num.numN l 65535
def isK (kind : Int) : Bool := decide (1 ≤ kind) && decide (kind ≤ 3)
def oneF (kind : Int) (l : List UInt8) : Int := if isK kind then val kind l else 0
def oneE (kind : Int) (l : List UInt8) : Int := if isK kind then (if val kind l = 0 then 31 else 0) else 30
theorem sg_pos {c : UInt8} (h : sg c = true) : 33 ≤ c.toNat ∧ c.toNat ≤ 126 := by
  unfold sg at h
  simp at h
  exact ⟨h.1.1.1.1, h.1.1.1.2⟩
theorem val_short (c : UInt8) (h : sg c = true) : val 1 [c] = (c.toNat : Int) := by simp [val, h]
theorem val_bounds (kind : Int) (l : List UInt8) : 0 ≤ val kind l ∧ val kind l ≤ 65535 := by
  unfold val
  split
  · split
    · split
      · rename_i h; have := sg_pos h; omega
      · omega
    · omega
  · split
    · split
      · split
        · rename_i h
          have h1 := sg_pos (Bool.and_eq_true_iff.1 h).1
          have h2 := sg_pos (Bool.and_eq_true_iff.1 h).2
          omega
        · omega
      · omega
    · unfold Num.numN
      split
      · rename_i h
        unfold Num.good at h
        simp at h
        omega
      · omega
theorem or_u16 (c d : Nat) (hc : c < 256) (hd : d < 256) : bits .or .u16 ((c : Int) * 256) (d : Int) = 256 * (c : Int) + (d : Int) := by
  have h0 : (c : Int) * (256 : Int) = ((c <<< 8 : Nat) : Int) := by rw [Nat.shiftLeft_eq]; omega
  have hx : (c <<< 8) + d = c <<< 8 ||| d := Nat.shiftLeft_add_eq_or_of_lt (by omega) c
  have hs : c <<< 8 = c * 256 := by rw [Nat.shiftLeft_eq]
  have h1 : (BitVec.ofInt 16 ((c <<< 8 : Nat) : Int)).toNat = c <<< 8 := by
    rw [BitVec.ofInt_natCast, BitVec.toNat_ofNat]; exact Nat.mod_eq_of_lt (by omega)
  have h2 : (BitVec.ofInt 16 (d : Int)).toNat = d := by
    rw [BitVec.ofInt_natCast, BitVec.toNat_ofNat]; exact Nat.mod_eq_of_lt (by omega)
  rw [h0]
  show IntKind.u16.wrap ((BitVec.ofInt 16 ((c <<< 8 : Nat) : Int) ||| BitVec.ofInt 16 (d : Int)).toNat : Int) = _
  rw [BitVec.toNat_or, h1, h2, ← hx, hs]
  simp [IntKind.wrap, IntKind.bits, IntKind.signed]
  omega
theorem one_of {s : ByteArray} (h : s.size = 1) : ∃ c, s = ⟨#[c]⟩ := by
  obtain ⟨⟨l⟩⟩ := s
  match l, h with
  | [c], _ => exact ⟨c, rfl⟩
theorem two_of {s : ByteArray} (h : s.size = 2) : ∃ c d, s = ⟨#[c, d]⟩ := by
  obtain ⟨⟨l⟩⟩ := s
  match l, h with
  | [c, d], _ => exact ⟨c, d, rfl⟩
theorem val_not1 {s : ByteArray} (h : s.size ≠ 1) : val 1 s.data.toList = 0 := by
  obtain ⟨⟨l⟩⟩ := s
  match l, h with
  | [], _ => rfl
  | [c], h => exact absurd rfl h
  | _ :: _ :: _, _ => rfl
theorem val_not2 {s : ByteArray} (h : s.size ≠ 2) : val 2 s.data.toList = 0 := by
  obtain ⟨⟨l⟩⟩ := s
  match l, h with
  | [], _ => rfl
  | [c], _ => rfl
  | [c, d], h => exact absurd rfl h
  | _ :: _ :: _ :: _, _ => rfl
theorem byte_any (c : UInt8) (w : World) : Calls Tryz.prog 37 #[.int .u8 (c.toNat : Int)] w fun e w' => e = .returned (.bool (sg c)) ∧ w' = w := by
  have HS : Hid (sg c = (decide ((33 : Int) ≤ (c.toNat : Int)) && decide ((c.toNat : Int) ≤ 126) && ((c.toNat : Int) != 47) && ((c.toNat : Int) != 44) && ((c.toNat : Int) != 35))) := sg_int c
  generalize sg c = b at *
  generalize (c.toNat : Int) = x at *
  go_enter Tryz.func37, Tryz.ntmps37
  by_cases h1 : (33 : Int) ≤ x
  · by_cases h2 : x ≤ 126
    · cases h3 : (x != 47)
      · go_wp2
        go_ret
        exact ⟨by rw [unhide HS]; simp [h1, h2, h3], rfl⟩
      · cases h4 : (x != 44)
        · go_wp2
          go_ret
          exact ⟨by rw [unhide HS]; simp [h1, h2, h3, h4], rfl⟩
        · go_wp2
          go_ret
          exact ⟨by rw [unhide HS]; simp [h1, h2, h3, h4], rfl⟩
    · go_wp2
      go_ret
      exact ⟨by rw [unhide HS]; simp; omega, rfl⟩
  · go_wp2
    go_ret
    exact ⟨by rw [unhide HS]; simp; omega, rfl⟩
theorem kind_any (k : Int) (w : World) : Calls Tryz.prog 25 #[.int .i64 k] w fun e w' => e = .returned (.bool (isK k)) ∧ w' = w := by
  have HS : Hid (isK k = ((k == 1) || (k == 2) || (k == 3))) := by
    unfold isK
    rw [Hid]
    by_cases h1 : k = 1
    · subst h1; rfl
    · by_cases h2 : k = 2
      · subst h2; rfl
      · by_cases h3 : k = 3
        · subst h3; rfl
        · have e1 : (k == 1) = false := beq_eq_false_iff_ne.2 h1
          have e2 : (k == 2) = false := beq_eq_false_iff_ne.2 h2
          have e3 : (k == 3) = false := beq_eq_false_iff_ne.2 h3
          rw [e1, e2, e3]
          simp
          omega
  generalize isK k = b at *
  go_enter Tryz.func25, Tryz.ntmps25
  cases h1 : (k == 1)
  · cases h2 : (k == 2)
    · go_wp2
      go_ret
      exact ⟨by rw [unhide HS]; simp [h1, h2], rfl⟩
    · go_wp2
      go_ret
      exact ⟨by rw [unhide HS]; simp [h2], rfl⟩
  · go_wp2
    go_ret
    exact ⟨by rw [unhide HS]; simp [h1], rfl⟩
end One
end Go.Proofs.YtkefjaifaonlbaaGreatDoor
/- Contracts: flags.One, and the document's own Value and One: the flag that a text writes; nothing in memory turns. -/
namespace Go.Proofs.YtkefjaifaonlbaaGreatDoor
open Go.RowKit
namespace One

theorem ret2 {a b c d : Int} {k k2 : IntKind} (h1 : a = c) (h2 : b = d) : Ending.returned (.tuple #[.int k a, .int k2 b]) = Ending.returned (.tuple #[.int k c, .int k2 d]) := by rw [h1, h2]
theorem byte_range (c : UInt8) : (0 : Int) ≤ (c.toNat : Int) ∧ (c.toNat : Int) < 256 := by
  have := c.toNat_lt
  omega
set_option maxRecDepth 100000 in
set_option maxHeartbeats 4000000 in
theorem one_any (kind : Int) (s : ByteArray) (w : World) (hs : s.size ≤ maxLen) :
    Calls Tryz.prog 27 #[.int .i64 kind, .string s] w fun e w' => e = .returned (.tuple #[.int .u16 (oneF kind s.data.toList), .int .i64 (oneE kind s.data.toList)]) ∧ ∃ n, w' = w.drewN n := by
  by_cases h1 : kind = 1
  · subst h1
    have hk : ∀ w, Calls Tryz.prog 25 #[.int .i64 1] w fun e w' => e = .returned (.bool true) ∧ w' = w := fun w => kind_any 1 w
    have HK := hide hk
    clear hk
    by_cases hz : s.size = 1
    · obtain ⟨c, rfl⟩ := one_of hz
      have HB := hide (fun w => byte_any c w)
      have hcr := byte_range c
      have hc0 : (ByteArray.mk #[c])[0] = c := rfl
      have hsz1 : (ByteArray.mk #[c]).size = 1 := rfl
      cases hg : sg c
      · have HF : Hid (oneF 1 (ByteArray.mk #[c]).data.toList = 0) := by simp [Hid, oneF, isK, val, hg]
        have HE : Hid (oneE 1 (ByteArray.mk #[c]).data.toList = 31) := by simp [Hid, oneE, isK, val, hg]
        rw [hg] at HB
        generalize oneF 1 (ByteArray.mk #[c]).data.toList = F at *
        generalize oneE 1 (ByteArray.mk #[c]).data.toList = E at *
        go_enter Tryz.func27, Tryz.ntmps27
        go_wp2_with (first
          | (go_at_call 25; refine (unhide HK _).mono ?_; rintro e w1 ⟨rfl, hw1⟩; obtain rfl := hw1.symm)
          | (go_at_call 37; refine (unhide HB _).mono ?_; rintro e w1 ⟨rfl, hw1⟩; obtain rfl := hw1.symm))
        go_ret2
        exact ⟨ret2 (unhide HF).symm (unhide HE).symm, 0, rfl⟩
      · have HF : Hid (oneF 1 (ByteArray.mk #[c]).data.toList = (c.toNat : Int)) := by simp [Hid, oneF, isK, val, hg]
        have HE : Hid (oneE 1 (ByteArray.mk #[c]).data.toList = 0) := by
          have := sg_pos hg
          simp [Hid, oneE, isK, val, hg]
          omega
        rw [hg] at HB
        have hwr : IntKind.u16.wrap (c.toNat : Int) = (c.toNat : Int) := by simp [IntKind.wrap, IntKind.bits, IntKind.signed]; omega
        generalize oneF 1 (ByteArray.mk #[c]).data.toList = F at *
        generalize oneE 1 (ByteArray.mk #[c]).data.toList = E at *
        go_enter Tryz.func27, Tryz.ntmps27
        go_wp2_with (first
          | (go_at_call 25; refine (unhide HK _).mono ?_; rintro e w1 ⟨rfl, hw1⟩; obtain rfl := hw1.symm)
          | (go_at_call 37; refine (unhide HB _).mono ?_; rintro e w1 ⟨rfl, hw1⟩; obtain rfl := hw1.symm))
        go_ret2
        exact ⟨ret2 (unhide HF).symm (unhide HE).symm, 0, rfl⟩
    · have HF : Hid (oneF 1 s.data.toList = 0) := by rw [Hid, oneF, val_not1 hz]; simp
      have HE : Hid (oneE 1 s.data.toList = 31) := by rw [Hid, oneE, val_not1 hz]; rfl
      have hzz : ((s.size : Int) == 1) = false := by rw [beq_eq_false_iff_ne]; omega
      generalize oneF 1 s.data.toList = F at *
      generalize oneE 1 s.data.toList = E at *
      go_enter Tryz.func27, Tryz.ntmps27
      go_wp2_with (go_at_call 25; refine (unhide HK _).mono ?_; rintro e w1 ⟨rfl, hw1⟩; obtain rfl := hw1.symm)
      go_ret2
      exact ⟨ret2 (unhide HF).symm (unhide HE).symm, 0, rfl⟩
  · by_cases h2 : kind = 2
    · subst h2
      have hk : ∀ w, Calls Tryz.prog 25 #[.int .i64 2] w fun e w' => e = .returned (.bool true) ∧ w' = w := fun w => kind_any 2 w
      have HK := hide hk
      clear hk h1
      by_cases hz : s.size = 2
      · obtain ⟨c, d, rfl⟩ := two_of hz
        have HB := hide (fun w => byte_any c w)
        have HD := hide (fun w => byte_any d w)
        have hcr := byte_range c
        have hdr := byte_range d
        have hor := or_u16 c.toNat d.toNat (by omega) (by omega)
        have hwc : IntKind.u16.wrap (c.toNat : Int) = (c.toNat : Int) := by simp [IntKind.wrap, IntKind.bits, IntKind.signed]; omega
        have hwd : IntKind.u16.wrap (d.toNat : Int) = (d.toNat : Int) := by simp [IntKind.wrap, IntKind.bits, IntKind.signed]; omega
        have hw2 : IntKind.u16.wrap ((c.toNat : Int) * 256) = (c.toNat : Int) * 256 ∨ sg c = false := by
          cases hg : sg c
          · exact .inr rfl
          · left
            have := sg_pos hg
            simp [IntKind.wrap, IntKind.bits, IntKind.signed]; omega
        have hc0 : (ByteArray.mk #[c, d])[0] = c := rfl
        have hc1 : (ByteArray.mk #[c, d])[1] = d := rfl
        have hsz1 : (ByteArray.mk #[c, d]).size = 2 := rfl
        have HV : Hid (val 2 (ByteArray.mk #[c, d]).data.toList = if sg c && sg d then 256 * (c.toNat : Int) + (d.toNat : Int) else 0) := rfl
        cases hg : sg c
        · have HF : Hid (oneF 2 (ByteArray.mk #[c, d]).data.toList = 0) := by rw [Hid, oneF, unhide HV, hg]; rfl
          have HE : Hid (oneE 2 (ByteArray.mk #[c, d]).data.toList = 31) := by rw [Hid, oneE, unhide HV, hg]; rfl
          rw [hg] at HB
          clear HD
          generalize oneF 2 (ByteArray.mk #[c, d]).data.toList = F at *
          generalize oneE 2 (ByteArray.mk #[c, d]).data.toList = E at *
          go_enter Tryz.func27, Tryz.ntmps27
          go_wp2_with (first
            | (go_at_call 25; refine (unhide HK _).mono ?_; rintro e w1 ⟨rfl, hw1⟩; obtain rfl := hw1.symm)
            | (go_at_call 37; refine (unhide HB _).mono ?_; rintro e w1 ⟨rfl, hw1⟩; obtain rfl := hw1.symm))
          go_ret2
          exact ⟨ret2 (unhide HF).symm (unhide HE).symm, 0, rfl⟩
        · cases hgd : sg d
          · have HF : Hid (oneF 2 (ByteArray.mk #[c, d]).data.toList = 0) := by rw [Hid, oneF, unhide HV, hg, hgd]; rfl
            have HE : Hid (oneE 2 (ByteArray.mk #[c, d]).data.toList = 31) := by rw [Hid, oneE, unhide HV, hg, hgd]; rfl
            clear HB HD
            generalize oneF 2 (ByteArray.mk #[c, d]).data.toList = F at *
            generalize oneE 2 (ByteArray.mk #[c, d]).data.toList = E at *
            go_enter Tryz.func27, Tryz.ntmps27
            go_wp2_with (first
              | (go_at_call 25; refine (unhide HK _).mono ?_; rintro e w1 ⟨rfl, hw1⟩; obtain rfl := hw1.symm)
              | (go_at_call 37; refine (byte_any _ _).mono ?_; rintro e w1 ⟨rfl, hw1⟩; obtain rfl := hw1.symm; (try rw [hg]); (try rw [hgd])))
            go_ret2
            exact ⟨ret2 (unhide HF).symm (unhide HE).symm, 0, rfl⟩
          · have hp := sg_pos hg
            have hw3 : IntKind.u16.wrap ((c.toNat : Int) * 256) = (c.toNat : Int) * 256 := by rcases hw2 with h | h; exact h; rw [hg] at h; cases h
            have HF : Hid (oneF 2 (ByteArray.mk #[c, d]).data.toList = 256 * (c.toNat : Int) + (d.toNat : Int)) := by rw [Hid, oneF, unhide HV, hg, hgd]; rfl
            have HE : Hid (oneE 2 (ByteArray.mk #[c, d]).data.toList = 0) := by
              rw [Hid, oneE, unhide HV, hg, hgd]
              have e : (isK 2) = true := rfl
              rw [if_pos e, if_neg]
              simp
              omega
            clear HB HD
            clear hw2 hp
            generalize oneF 2 (ByteArray.mk #[c, d]).data.toList = F at *
            generalize oneE 2 (ByteArray.mk #[c, d]).data.toList = E at *
            go_enter Tryz.func27, Tryz.ntmps27
            go_wp2_with (first
              | (go_at_call 25; refine (unhide HK _).mono ?_; rintro e w1 ⟨rfl, hw1⟩; obtain rfl := hw1.symm)
              | (go_at_call 37; refine (byte_any _ _).mono ?_; rintro e w1 ⟨rfl, hw1⟩; obtain rfl := hw1.symm; (try rw [hg]); (try rw [hgd])))
            go_quiet (fail)
            go_wp2
            go_ret2
            exact ⟨ret2 (unhide HF).symm (unhide HE).symm, _, rfl⟩
      · have HF : Hid (oneF 2 s.data.toList = 0) := by rw [Hid, oneF, val_not2 hz]; simp
        have HE : Hid (oneE 2 s.data.toList = 31) := by rw [Hid, oneE, val_not2 hz]; rfl
        have hzz : ((s.size : Int) == 2) = false := by rw [beq_eq_false_iff_ne]; omega
        generalize oneF 2 s.data.toList = F at *
        generalize oneE 2 s.data.toList = E at *
        go_enter Tryz.func27, Tryz.ntmps27
        go_wp2_with (go_at_call 25; refine (unhide HK _).mono ?_; rintro e w1 ⟨rfl, hw1⟩; obtain rfl := hw1.symm)
        go_ret2
        exact ⟨ret2 (unhide HF).symm (unhide HE).symm, 0, rfl⟩
    · by_cases h3 : kind = 3
      · subst h3
        have hk : ∀ w, Calls Tryz.prog 25 #[.int .i64 3] w fun e w' => e = .returned (.bool true) ∧ w' = w := fun w => kind_any 3 w
        have HK := hide hk
        clear hk h1 h2
        have HN := hide (fun W => NumW.number_any s 65535 W hs (by decide) (by decide))
        have hv := val_bounds 3 s.data.toList
        have ev : val 3 s.data.toList = Num.numN s.data.toList 65535 := rfl
        have HF : Hid (oneF 3 s.data.toList = Num.numN s.data.toList 65535) := rfl
        have HE : Hid (oneE 3 s.data.toList = if Num.numN s.data.toList 65535 = 0 then 31 else 0) := rfl
        have hgood : Num.numE s.data.toList 65535 = 0 ∨ (Num.numE s.data.toList 65535 = 13 ∧ Num.numN s.data.toList 65535 = 0) := by
          unfold Num.numE Num.numN
          split
          · exact .inl rfl
          · exact .inr ⟨rfl, rfl⟩
        rw [ev] at hv
        clear ev
        generalize oneF 3 s.data.toList = F at *
        generalize oneE 3 s.data.toList = E at *
        generalize Num.numN s.data.toList 65535 = N at *
        generalize Num.numE s.data.toList 65535 = X at *
        have hwr : IntKind.u16.wrap N = N := by simp [IntKind.wrap, IntKind.bits, IntKind.signed]; omega
        rcases hgood with rfl | ⟨rfl, rfl⟩
        · by_cases hN0 : N = 0
          · subst hN0
            go_enter Tryz.func27, Tryz.ntmps27
            go_wp2_with (first
              | (go_at_call 25; refine (unhide HK _).mono ?_; rintro e w1 ⟨rfl, hw1⟩; obtain rfl := hw1.symm)
              | (go_at_call 12; refine (unhide HN _).mono ?_; rintro e w1 ⟨rfl, hw1⟩; obtain rfl := hw1.symm))
            go_ret2
            exact ⟨ret2 (unhide HF).symm (by rw [unhide HE]; rfl), 0, rfl⟩
          · have hNp : (0 : Int) < N := by omega
            have HE0 : Hid (E = 0) := by rw [Hid, unhide HE, if_neg hN0]
            go_enter Tryz.func27, Tryz.ntmps27
            go_wp2_with (first
              | (go_at_call 25; refine (unhide HK _).mono ?_; rintro e w1 ⟨rfl, hw1⟩; obtain rfl := hw1.symm)
              | (go_at_call 12; refine (unhide HN _).mono ?_; rintro e w1 ⟨rfl, hw1⟩; obtain rfl := hw1.symm))
            go_ret2
            exact ⟨ret2 (unhide HF).symm (unhide HE0).symm, 0, rfl⟩
        · go_enter Tryz.func27, Tryz.ntmps27
          go_wp2_with (first
            | (go_at_call 25; refine (unhide HK _).mono ?_; rintro e w1 ⟨rfl, hw1⟩; obtain rfl := hw1.symm)
            | (go_at_call 12; refine (unhide HN _).mono ?_; rintro e w1 ⟨rfl, hw1⟩; obtain rfl := hw1.symm))
          go_ret2
          exact ⟨ret2 (unhide HF).symm (by rw [unhide HE]; rfl), 0, rfl⟩
      · have hk0 : isK kind = false := by unfold isK; simp; omega
        have HK := hide (fun w => kind_any kind w)
        rw [hk0] at HK
        have HF : Hid (oneF kind s.data.toList = 0) := by rw [Hid, oneF, hk0]; rfl
        have HE : Hid (oneE kind s.data.toList = 30) := by rw [Hid, oneE, hk0]; rfl
        generalize oneF kind s.data.toList = F at *
        generalize oneE kind s.data.toList = E at *
        go_enter Tryz.func27, Tryz.ntmps27
        go_wp2_with (go_at_call 25; refine (unhide HK _).mono ?_; rintro e w1 ⟨rfl, hw1⟩; obtain rfl := hw1.symm)
        go_ret2
        exact ⟨ret2 (unhide HF).symm (unhide HE).symm, 0, rfl⟩
end One
end Go.Proofs.YtkefjaifaonlbaaGreatDoor
/- Contract: flags.Read, given what flags.cut answers: the set of the flags that the pieces write, or the error. -/
namespace Go.Proofs.YtkefjaifaonlbaaGreatDoor
open Go.Sort Go.RowKit
namespace So

/-- the error of a list of flags, 0 standing for what is none -/
def readE (V : List Int) : Int := if 0 ∈ V then 31 else if 64 < V.length then 32 else 0
/-- the first k flags lie in the block g -/
def Fill (g n : Nat) (V : List Int) (k : Nat) (W : World) : Prop := ∃ cur, W.heap[g]? = some (.cells cur 31 (0, 0)) ∧ n = cur.size ∧ cur.toList.take k = (V.take k).map encF
theorem set_heap {W : World} {g k : Nat} {cur : Array Value} {t : TypeId} {fr : Nat × Nat} (h : W.heap[g]? = some (.cells cur t fr)) (v : Value) : (W.setCell ⟨g, k, none⟩ v).heap[g]? = some (.cells (cur.setIfInBounds k v) t fr) := by
  rw [setCell_eq]
  show (W.heap.modify g _)[g]? = _
  rw [Array.getElem?_modify, if_pos rfl, h]
  rfl
theorem set_below {W : World} {g k : Nat} (v : Value) : Go.RowKit.Below g W (W.setCell ⟨g, k, none⟩ v) := by
  rw [setCell_eq]
  refine ⟨rfl, rfl, rfl, ?_, fun j hj => ?_⟩
  · show W.heap.size ≤ (W.heap.modify g _).size
    simp
  · show (W.heap.modify g _)[j]? = _
    rw [Array.getElem?_modify, if_neg (by omega)]
theorem Fill.cell {g n k : Nat} {V : List Int} {W : World} (h : Fill g n V k W) (hk : k < n) : (∃ u, W.cell? ⟨g, k, none⟩ = some u) ∧ W.frozen? ⟨g, k, none⟩ = false := by
  obtain ⟨cur, h1, h2, _⟩ := h
  constructor
  · refine ⟨cur[k], ?_⟩
    simp only [World.cell?, h1]
    simp
  · simp [World.frozen?, h1]
theorem Fill.drewN {g n k : Nat} {V : List Int} {W : World} (h : Fill g n V k W) (q : Nat) : Fill g n V k (W.drewN q) := h
theorem Fill.set {g n k : Nat} {V : List Int} {W : World} (h : Fill g n V k W) (hk : k < n) {x : Int} (hx : V[k]? = some x) : Fill g n V (k + 1) (W.setCell ⟨g, k, none⟩ (encF x)) := by
  obtain ⟨cur, h1, h2, h3⟩ := h
  refine ⟨_, set_heap h1 _, by simpa using h2, ?_⟩
  have hkl : k < V.length := (List.getElem?_eq_some_iff.1 hx).1
  have hkx : V[k] = x := (List.getElem?_eq_some_iff.1 hx).2
  rw [List.take_succ_eq_append_getElem hkl, hkx, List.map_append, ← h3]
  have hks : k < cur.size := by omega
  rw [List.take_succ_eq_append_getElem (by simpa using hks)]
  congr 1
  · simp [List.take_set_of_le]
  · simp
theorem Fill.row {g n : Nat} {V : List Int} {W : World} (h : Fill g n V n W) (hn : V.length = n) (hm : n ≤ maxLen) : FRow g W (.slice (some ⟨g, 0, none⟩) n n) V := by
  obtain ⟨cur, h1, h2, h3⟩ := h
  exact ⟨g, n, cur, by rw [hn], Nat.le_refl _, h1, by omega, hm, h2, by rw [hn, h3, ← hn, List.take_length]⟩

set_option maxRecDepth 100000 in
set_option maxHeartbeats 8000000 in
theorem read_with (kind : Int) (s : ByteArray) (P : List ByteArray) (w : World) (hk : One.isK kind = true) (hn : P.length ≤ 1099511627776) (hz : ∀ p ∈ P, p.size ≤ maxLen)
    (hcut : Calls Tryz.prog 26 #[.int .i64 kind, .string s] w fun e w' => ∃ u, e = .returned u ∧ ArgS.StrsAt w' u P ∧ Go.RowKit.Below w.heap.size w w') :
    Calls Tryz.prog 11 #[.int .i64 kind, .string s] w fun e w' => ∃ u, e = .returned (.tuple #[u, .int .i64 (readE (P.map fun p => One.val kind p.data.toList))]) ∧ Go.RowKit.Below w.heap.size w w' ∧
      (readE (P.map fun p => One.val kind p.data.toList) = 0 → ∃ l, IsSet l (P.map fun p => One.val kind p.data.toList) ∧ FRow w.heap.size w' u l) ∧ (readE (P.map fun p => One.val kind p.data.toList) ≠ 0 → u = .slice none 0 0) := by
  obtain ⟨i0, hi, hz0, hz1, hz2⟩ := info_parts infoF
  obtain ⟨V, hV⟩ : ∃ V, V = P.map fun p => One.val kind p.data.toList := ⟨_, rfl⟩
  have hVl : V.length = P.length := by rw [hV]; simp
  have HO : Hid (∀ (k : Nat) p x W, P[k]? = some p → V[k]? = some x → Calls Tryz.prog 27 #[.int .i64 kind, .string p] W fun e w' => e = .returned (.tuple #[.int .u16 x, .int .i64 (if x = 0 then 31 else 0)]) ∧ ∃ n, w' = W.drewN n) := fun k p x W hp hx => by
    refine (One.one_any kind p W (hz p (List.mem_of_getElem? hp))).mono ?_
    rintro e w' ⟨rfl, h⟩
    have ex : x = One.val kind p.data.toList := by
      rw [hV] at hx
      simp [hp] at hx
      exact hx.symm
    rw [One.oneF, One.oneE, if_pos hk, if_pos hk, ex]
    exact ⟨rfl, h⟩
  have HKK := hide (fun W => One.kind_any kind W)
  rw [hk] at HKK
  rw [← hV]
  have HC := hide hcut
  clear hV hcut hk hz
  generalize hnn : P.length = n at *
  have HN := hide hnn
  have HVL := hide hVl
  clear hnn hVl
  have hnz : (n : Int) ≤ 1099511627776 := by omega
  go_enter Tryz.func11, Tryz.ntmps11
  go_wp2_with (first
    | (go_at_call 25; refine (unhide HKK _).mono ?_; rintro e w0 ⟨rfl, hw0⟩; obtain rfl := hw0.symm)
    | (go_at_call 26; refine (unhide HC).mono ?_; rintro e w1 ⟨u, rfl, hP, hB1⟩; obtain ⟨ao, cap, rfl, hcp, hcell⟩ := hP.form; rw [unhide HN] at hcp ⊢; have HCE := hide hcell; obtain ⟨w2, hrun, hown, hgrow⟩ := run_make_full (P := Tryz.prog) w1 w1.heap.size 22 31 i0 (.int .u16 0) 1 Tryz.underlying22 hi hz0 hz1 .i64 .i64 n (by rw [hz2]; omega) (by unfold maxLen; omega) (Nat.le_refl _); have HOW := hide hown; have HGR := hide hgrow; have HB1 := hide hB1; clear hP hcell hown hgrow hB1))
  have HF0 : Hid (Fill w1.heap.size n V 0 w2) := by
    obtain ⟨_, ⟨e0, _⟩ | ⟨g, cap1, cur, e1, hg, hh, hc1, hm1, hs1, _⟩⟩ := unhide HOW
    · cases e0
    · injection e1 with e1 _ e3
      injection e1 with e1
      injection e1 with e1 _ _
      rw [← e1] at hh
      exact ⟨cur, hh, by omega, by simp⟩
  have HB2 : Hid (Go.RowKit.Below w1.heap.size w1 w2) := (Go.RowKit.Below.refl _ w1).grown (unhide HGR) (Nat.le_refl _) (fun k e => by cases e)
  clear HOW HGR hrun hi hz0 hz1 hz2
  have hnm : n ≤ maxLen := by unfold maxLen; omega
  obtain ⟨G, hG⟩ : ∃ G, G = w1.heap.size := ⟨_, rfl⟩
  have HGG := hide hG
  have HGE : Hid (w.heap.size ≤ G) := by rw [Hid, hG]; exact (unhide HB1).size
  have HNV : Hid (∀ (k : Nat) x, V[k]? = some x → (∀ y ∈ V.take k, y ≠ 0) → x ≠ 0 → ∀ y ∈ V.take (k + 1), y ≠ 0) := fun k x hx h h2 y hy => by
    have hkl : k < V.length := (List.getElem?_eq_some_iff.1 hx).1
    rw [List.take_succ_eq_append_getElem hkl, (List.getElem?_eq_some_iff.1 hx).2] at hy
    rcases List.mem_append.1 hy with hy | hy
    · exact h y hy
    · simp at hy; subst hy; exact h2
  have HBAD : Hid (∀ k : Nat, V[k]? = some 0 → readE V = 31) := fun k hx => by rw [readE, if_pos (List.mem_of_getElem? hx)]
  rw [← hG] at HF0 HB2 ⊢
  clear hG
  go_loopw [23] (fun vi wr => ∃ k : Nat, vi = .int .i64 k ∧ k ≤ n ∧ Hid (Fill G n V k wr) ∧ Hid (Go.RowKit.Below G w1 wr) ∧ Hid (∀ y ∈ V.take k, y ≠ 0)) (fun vi _ => n - (intOf vi).toNat)
  case atStart => exact ⟨0, rfl, Nat.zero_le _, HF0, HB2, hide (fun y hy => by simp at hy)⟩
  case round =>
    obtain ⟨k, rfl, hk, HF, HB, HNZ⟩ := hrel
    by_cases hlt : k < n
    · have hltz : (k : Int) < (n : Int) := by omega
      obtain ⟨p, hp⟩ : ∃ p, P[k]? = some p := ⟨_, List.getElem?_eq_getElem (by rw [unhide HN]; exact hlt)⟩
      obtain ⟨gp, op, rfl, hgp, hcp2⟩ := unhide HCE k p hp
      have hcw : wr.cell? ⟨gp, op + k, none⟩ = some (.string p) := ((unhide HB).cell (p := ⟨gp, op + k, none⟩) (by show gp < G; rw [unhide HGG]; exact hgp)).trans hcp2
      obtain ⟨⟨u0, hcu⟩, hfu⟩ := (unhide HF).cell hlt
      obtain ⟨x, hx⟩ : ∃ x, V[k]? = some x := ⟨_, List.getElem?_eq_getElem (by rw [unhide HVL]; exact hlt)⟩
      have HOK := hide (fun W => unhide HO k p x W hp hx)
      have HX := hide hx
      clear hp hcp2 hgp hx
      by_cases hx0 : x = 0
      · subst hx0
        rw [if_pos rfl] at HOK
        have HR : Hid (readE V = 31) := unhide HBAD k (unhide HX)
        go_wp2_with (go_at_call 27; refine (unhide HOK _).mono ?_; rintro e w3 ⟨rfl, n3, hw3⟩; obtain rfl := hw3.symm)
        have HBF : Hid (Go.RowKit.Below w.heap.size w (wr.drewN n3)) := (unhide HB1).trans (below_drewN ((unhide HB).mono (unhide HGE)) n3)
        go_ret2
        rw [unhide HR]
        exact ⟨_, rfl, unhide HBF, fun h => (by cases h), fun _ => rfl⟩
      · rw [if_neg hx0] at HOK
        have HNZ2 := hide (unhide HNV k x (unhide HX) (unhide HNZ) hx0)
        clear hx0
        go_wp2_with (go_at_call 27; refine (unhide HOK _).mono ?_; rintro e w3 ⟨rfl, n3, hw3⟩; obtain rfl := hw3.symm)
        go_roundw
        case rel => exact ⟨k + 1, by go_num, by omega, hide (((unhide HF).drewN n3).set hlt (unhide HX)), hide ((below_drewN (unhide HB) n3).trans (set_below _)), HNZ2⟩
        case measure => simp [intOf]; omega
    · obtain rfl : k = n := by omega
      have hltz : ¬ (k : Int) < (k : Int) := by omega
      have HROW := hide ((unhide HF).row (unhide HVL) hnm)
      have hno : 0 ∉ V := fun h => unhide HNZ 0 (by rw [← unhide HVL, List.take_length]; exact h) rfl
      have HBW : Hid (Go.RowKit.Below w.heap.size w wr) := (unhide HB1).trans ((unhide HB).mono (unhide HGE))
      by_cases h64 : 64 < k
      · have h64z : (64 : Int) < (k : Int) := by omega
        have HR : Hid (readE V = 32) := by rw [Hid, readE, if_neg hno, if_pos (by rw [unhide HVL]; exact h64)]
        clear hno
        go_wp2
        go_ret2
        rw [unhide HR]
        exact ⟨_, rfl, unhide HBW, fun h => (by cases h), fun _ => rfl⟩
      · have h64z : ¬ (64 : Int) < (k : Int) := by omega
        have HR : Hid (readE V = 0) := by rw [Hid, readE, if_neg hno, if_neg (by rw [unhide HVL]; exact h64)]
        have HOF := hide (of_any _ V wr (unhide HROW).arg (by rw [unhide HVL]; omega))
        clear hno
        go_wp2_with (go_at_call 13; refine (unhide HOF).mono ?_; rintro e w4 ⟨u4, l, rfl, h4, hF4, hB4⟩; have H4 := hide h4; have HF4 := hide hF4; have HB4 := hide hB4; clear h4 hF4 hB4)
        go_ret2
        rw [unhide HR]
        exact ⟨u4, rfl, (unhide HBW).trans ((unhide HB4).mono (unhide HBW).size), fun _ => ⟨l, unhide H4, (unhide HF4).low (unhide HBW).size⟩, fun h => absurd rfl h⟩
end So
end Go.Proofs.YtkefjaifaonlbaaGreatDoor
/- The shelf. -/
