/- Contracts: flags.One and the document's own One: the flag that a text writes; nothing in memory turns. -/
import Derived.Test.YtgaagbjbolfbjaaDoorNumW
import Derived.Laws.Bits64b
namespace Go.Proofs.YtgaagbjbolfbjaaDoor
open Go.RowKit
namespace One

def Hid (p : Prop) : Prop := p
theorem hide {p : Prop} (h : p) : Hid p := h
theorem unhide {p : Prop} (h : Hid p) : p := h
/-- is it a flag byte? -/
def sg (c : UInt8) : Bool := decide (33 ≤ c.toNat) && decide (c.toNat ≤ 126) && (c.toNat != 47) && (c.toNat != 44) && (c.toNat != 35)
theorem sg_int (c : UInt8) : sg c = (decide ((33 : Int) ≤ (c.toNat : Int)) && decide ((c.toNat : Int) ≤ 126) && ((c.toNat : Int) != 47) && ((c.toNat : Int) != 44) && ((c.toNat : Int) != 35)) := by
  unfold sg
  generalize c.toNat = n
  have e1 : decide (33 ≤ n) = decide ((33 : Int) ≤ (n : Int)) := decide_eq_decide.2 (by omega)
  have e2 : decide (n ≤ 126) = decide ((n : Int) ≤ 126) := decide_eq_decide.2 (by omega)
  have ne : ∀ k : Nat, (n != k) = ((n : Int) != (k : Int)) := fun k => by
    by_cases h : n = k
    · subst h; simp
    · have h2 : ¬ (n : Int) = (k : Int) := by omega
      have a1 : (n != k) = true := bne_iff_ne.2 h
      have a2 : ((n : Int) != (k : Int)) = true := bne_iff_ne.2 h2
      rw [a1, a2]
  rw [e1, e2, ne 47, ne 44, ne 35]
  rfl
/-- the flag that a text writes; 0: it writes none -/
def val (kind : Int) (l : List UInt8) : Int :=
  if kind = 1 then (match l with | [c] => if sg c then (c.toNat : Int) else 0 | _ => 0)
  else if kind = 2 then (match l with | [c, d] => if sg c && sg d then 256 * (c.toNat : Int) + (d.toNat : Int) else 0 | _ => 0)
  else Num.numN l 65535
def isK (kind : Int) : Bool := decide (1 ≤ kind) && decide (kind ≤ 3)
def oneF (kind : Int) (l : List UInt8) : Int := if isK kind then val kind l else 0
def oneE (kind : Int) (l : List UInt8) : Int := if isK kind then (if val kind l = 0 then 31 else 0) else 30
theorem sg_pos {c : UInt8} (h : sg c = true) : 33 ≤ c.toNat ∧ c.toNat ≤ 126 := by
  unfold sg at h
  simp at h
  exact ⟨h.1.1.1.1, h.1.1.1.2⟩
theorem val_short (c : UInt8) (h : sg c = true) : val 1 [c] = (c.toNat : Int) := by simp [val, h]
theorem val_bounds (kind : Int) (l : List UInt8) : 0 ≤ val kind l ∧ val kind l ≤ 65535 := by
  unfold val
  split
  · split
    · split
      · rename_i h; have := sg_pos h; omega
      · omega
    · omega
  · split
    · split
      · split
        · rename_i h
          have h1 := sg_pos (Bool.and_eq_true_iff.1 h).1
          have h2 := sg_pos (Bool.and_eq_true_iff.1 h).2
          omega
        · omega
      · omega
    · unfold Num.numN
      split
      · rename_i h
        unfold Num.good at h
        simp at h
        omega
      · omega
theorem or_u16 (c d : Nat) (hc : c < 256) (hd : d < 256) : bits .or .u16 ((c : Int) * 256) (d : Int) = 256 * (c : Int) + (d : Int) := by
  have h0 : (c : Int) * (256 : Int) = ((c <<< 8 : Nat) : Int) := by rw [Nat.shiftLeft_eq]; omega
  have hx : (c <<< 8) + d = c <<< 8 ||| d := Nat.shiftLeft_add_eq_or_of_lt (by omega) c
  have hs : c <<< 8 = c * 256 := by rw [Nat.shiftLeft_eq]
  have h1 : (BitVec.ofInt 16 ((c <<< 8 : Nat) : Int)).toNat = c <<< 8 := by
    rw [BitVec.ofInt_natCast, BitVec.toNat_ofNat]; exact Nat.mod_eq_of_lt (by omega)
  have h2 : (BitVec.ofInt 16 (d : Int)).toNat = d := by
    rw [BitVec.ofInt_natCast, BitVec.toNat_ofNat]; exact Nat.mod_eq_of_lt (by omega)
  rw [h0]
  show IntKind.u16.wrap ((BitVec.ofInt 16 ((c <<< 8 : Nat) : Int) ||| BitVec.ofInt 16 (d : Int)).toNat : Int) = _
  rw [BitVec.toNat_or, h1, h2, ← hx, hs]
  simp [IntKind.wrap, IntKind.bits, IntKind.signed]
  omega
theorem one_of {s : ByteArray} (h : s.size = 1) : ∃ c, s = ⟨#[c]⟩ := by
  obtain ⟨⟨l⟩⟩ := s
  match l, h with
  | [c], _ => exact ⟨c, rfl⟩
theorem two_of {s : ByteArray} (h : s.size = 2) : ∃ c d, s = ⟨#[c, d]⟩ := by
  obtain ⟨⟨l⟩⟩ := s
  match l, h with
  | [c, d], _ => exact ⟨c, d, rfl⟩
theorem val_not1 {s : ByteArray} (h : s.size ≠ 1) : val 1 s.data.toList = 0 := by
  obtain ⟨⟨l⟩⟩ := s
  match l, h with
  | [], _ => rfl
  | [c], h => exact absurd rfl h
  | _ :: _ :: _, _ => rfl
theorem val_not2 {s : ByteArray} (h : s.size ≠ 2) : val 2 s.data.toList = 0 := by
  obtain ⟨⟨l⟩⟩ := s
  match l, h with
  | [], _ => rfl
  | [c], _ => rfl
  | [c, d], h => exact absurd rfl h
  | _ :: _ :: _ :: _, _ => rfl
theorem byte_any (c : UInt8) (w : World) : Calls Tryd.prog 40 #[.int .u8 (c.toNat : Int)] w fun e w' => e = .returned (.bool (sg c)) ∧ w' = w := by
  have HS : Hid (sg c = (decide ((33 : Int) ≤ (c.toNat : Int)) && decide ((c.toNat : Int) ≤ 126) && ((c.toNat : Int) != 47) && ((c.toNat : Int) != 44) && ((c.toNat : Int) != 35))) := sg_int c
  generalize sg c = b at *
  generalize (c.toNat : Int) = x at *
  go_enter Tryd.func40, Tryd.ntmps40
  by_cases h1 : (33 : Int) ≤ x
  · by_cases h2 : x ≤ 126
    · cases h3 : (x != 47)
      · go_wp2
        go_ret
        exact ⟨by rw [unhide HS]; simp [h1, h2, h3], rfl⟩
      · cases h4 : (x != 44)
        · go_wp2
          go_ret
          exact ⟨by rw [unhide HS]; simp [h1, h2, h3, h4], rfl⟩
        · go_wp2
          go_ret
          exact ⟨by rw [unhide HS]; simp [h1, h2, h3, h4], rfl⟩
    · go_wp2
      go_ret
      exact ⟨by rw [unhide HS]; simp; omega, rfl⟩
  · go_wp2
    go_ret
    exact ⟨by rw [unhide HS]; simp; omega, rfl⟩
theorem kind_any (k : Int) (w : World) : Calls Tryd.prog 24 #[.int .i64 k] w fun e w' => e = .returned (.bool (isK k)) ∧ w' = w := by
  have HS : Hid (isK k = ((k == 1) || (k == 2) || (k == 3))) := by
    unfold isK
    rw [Hid]
    by_cases h1 : k = 1
    · subst h1; rfl
    · by_cases h2 : k = 2
      · subst h2; rfl
      · by_cases h3 : k = 3
        · subst h3; rfl
        · have e1 : (k == 1) = false := beq_eq_false_iff_ne.2 h1
          have e2 : (k == 2) = false := beq_eq_false_iff_ne.2 h2
          have e3 : (k == 3) = false := beq_eq_false_iff_ne.2 h3
          rw [e1, e2, e3]
          simp
          omega
  generalize isK k = b at *
  go_enter Tryd.func24, Tryd.ntmps24
  cases h1 : (k == 1)
  · cases h2 : (k == 2)
    · go_wp2
      go_ret
      exact ⟨by rw [unhide HS]; simp [h1, h2], rfl⟩
    · go_wp2
      go_ret
      exact ⟨by rw [unhide HS]; simp [h2], rfl⟩
  · go_wp2
    go_ret
    exact ⟨by rw [unhide HS]; simp [h1], rfl⟩
end One
end Go.Proofs.YtgaagbjbolfbjaaDoor
