/- Plain mathematics of numbers written in the base ten: no program is named here. -/
namespace Go.Proofs.YtgaagbjbolfbjaaDoor.Num

def isDig (c : UInt8) : Bool := decide (48 ≤ c.toNat) && decide (c.toNat ≤ 57)
def numVal (l : List UInt8) : Nat := l.foldl (fun n c => n * 10 + (c.toNat - 48)) 0
def lead (l : List UInt8) : Bool := (l.head? == some 48) && decide (1 < l.length)
def good (l : List UInt8) (most : Int) : Bool := !l.isEmpty && !lead l && l.all isDig && decide ((numVal l : Int) ≤ most)
def numN (l : List UInt8) (most : Int) : Int := if good l most then (numVal l : Int) else 0
def numE (l : List UInt8) (most : Int) : Int := if good l most then 0 else 13

theorem numVal_snoc (l : List UInt8) (c : UInt8) : numVal (l ++ [c]) = numVal l * 10 + (c.toNat - 48) := by
  simp [numVal, List.foldl_append]
theorem numVal_app (l r : List UInt8) : numVal l ≤ numVal (l ++ r) := by
  induction r generalizing l with
  | nil => simp
  | cons c r ih =>
    have h := ih (l ++ [c])
    rw [numVal_snoc] at h
    have e : l ++ c :: r = l ++ [c] ++ r := by simp
    rw [e]
    omega
theorem numVal_take (l : List UInt8) (k : Nat) : numVal (l.take k) ≤ numVal l := by
  have h := numVal_app (l.take k) (l.drop k)
  rwa [List.take_append_drop] at h
theorem take_snoc (s : ByteArray) (k : Nat) (h : k < s.size) : s.data.toList.take (k + 1) = s.data.toList.take k ++ [s[k]] := by
  rw [List.take_succ_eq_append_getElem (by simpa using h)]; rfl
theorem step (s : ByteArray) (k : Nat) (h : k < s.size) : numVal (s.data.toList.take (k + 1)) = numVal (s.data.toList.take k) * 10 + (s[k].toNat - 48) := by
  rw [take_snoc s k h, numVal_snoc]
theorem all_take (s : ByteArray) (k : Nat) (h : k < s.size) : (s.data.toList.take (k + 1)).all isDig = ((s.data.toList.take k).all isDig && isDig s[k]) := by
  rw [take_snoc s k h]; simp

theorem bad_of_empty (l : List UInt8) (most : Int) (h : l.isEmpty = true) : good l most = false := by simp [good, h]
theorem bad_of_lead (l : List UInt8) (most : Int) (h : lead l = true) : good l most = false := by simp [good, h]
theorem bad_of_digit (s : ByteArray) (most : Int) (k : Nat) (h : k < s.size) (hd : isDig s[k] = false) : good s.data.toList most = false := by
  have hm : s[k] ∈ s.data.toList := by
    have e : s[k] = s.data.toList[k]'(by simpa using h) := rfl
    rw [e]; exact List.getElem_mem _
  have : s.data.toList.all isDig = false := by
    rw [List.all_eq_false]
    exact ⟨_, hm, by simp [hd]⟩
  simp [good, this]
theorem bad_of_over (l : List UInt8) (most : Int) (k : Nat) (h : most < (numVal (l.take k) : Int)) : good l most = false := by
  have := numVal_take l k
  have h2 : decide ((numVal l : Int) ≤ most) = false := by simp; omega
  simp [good, h2]
theorem good_of (l : List UInt8) (most : Int) (h0 : l.isEmpty = false) (h1 : lead l = false) (h2 : l.all isDig = true) (h3 : (numVal l : Int) ≤ most) : good l most = true := by
  simp only [good, h0, h1, h2]; simp [h3]
theorem numN_bad {l : List UInt8} {most : Int} (h : good l most = false) : numN l most = 0 := by simp [numN, h]
theorem numE_bad {l : List UInt8} {most : Int} (h : good l most = false) : numE l most = 13 := by simp [numE, h]
theorem numN_good {l : List UInt8} {most : Int} (h : good l most = true) : numN l most = numVal l := by simp [numN, h]
theorem numE_good {l : List UInt8} {most : Int} (h : good l most = true) : numE l most = 0 := by simp [numE, h]
theorem full (s : ByteArray) (k : Nat) (h : s.size ≤ k) : s.data.toList.take k = s.data.toList := List.take_of_length_le (by simpa using h)
theorem isDig_of (c : UInt8) (h1 : 48 ≤ (c.toNat : Int)) (h2 : (c.toNat : Int) ≤ 57) : isDig c = true := by
  simp [isDig]; omega
theorem isDig_lo (c : UInt8) (h1 : (c.toNat : Int) < 48) : isDig c = false := by
  simp [isDig]; omega
theorem isDig_hi (c : UInt8) (h1 : 57 < (c.toNat : Int)) : isDig c = false := by
  simp [isDig]; omega
theorem dig_of_all (s : ByteArray) (k : Nat) (h : k < s.size) (ha : s.data.toList.all isDig = true) : (48 : Int) ≤ (s[k].toNat : Int) ∧ (s[k].toNat : Int) ≤ 57 := by
  have hm : s[k] ∈ s.data.toList := by
    have e : s[k] = s.data.toList[k]'(by simpa using h) := rfl
    rw [e]; exact List.getElem_mem _
  have := List.all_eq_true.1 ha _ hm
  simp [isDig] at this
  omega
end Go.Proofs.YtgaagbjbolfbjaaDoor.Num
