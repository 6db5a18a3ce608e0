/- Plain mathematics of the fields of a line: no program is named here. -/
namespace Go.Proofs.YtaaonaaciomijabDoor.Fld

def blank (c : UInt8) : Bool := (c.toNat == 32) || (c.toNat == 9)
def stp (p : List (List UInt8) × List UInt8) (c : UInt8) : List (List UInt8) × List UInt8 :=
  if blank c then (if p.2.isEmpty then p.1 else p.1 ++ [p.2], []) else (p.1, p.2 ++ [c])
def st (l : List UInt8) : List (List UInt8) × List UInt8 := l.foldl stp ([], [])
def fin (p : List (List UInt8) × List UInt8) : List (List UInt8) := if p.2.isEmpty then p.1 else p.1 ++ [p.2]
def fieldsOf (l : List UInt8) : List (List UInt8) := fin (st l)
def str (f : List UInt8) : ByteArray := ⟨f.toArray⟩
def op (l : List UInt8) : Nat := (st l).2.length
def closed (l : List UInt8) : List (List UInt8) := (st l).1

theorem snoc_ind {α : Type} {P : List α → Prop} (h0 : P []) (h1 : ∀ l c, P l → P (l ++ [c])) (l : List α) : P l := by
  rw [← List.reverse_reverse l]
  generalize l.reverse = r
  induction r with
  | nil => exact h0
  | cons c r ih => rw [List.reverse_cons]; exact h1 _ _ ih
theorem st_nil : st [] = ([], []) := rfl
theorem st_snoc (l : List UInt8) (c : UInt8) : st (l ++ [c]) = stp (st l) c := by simp [st, List.foldl_append]
theorem take_snoc (s : ByteArray) (k : Nat) (h : k < s.size) : s.data.toList.take (k + 1) = s.data.toList.take k ++ [s[k]] := by
  rw [List.take_succ_eq_append_getElem (by simpa using h)]; rfl
theorem full (s : ByteArray) (k : Nat) (h : s.size ≤ k) : s.data.toList.take k = s.data.toList := List.take_of_length_le (by simpa using h)
theorem op_pos {l : List UInt8} (h : ¬ (st l).2.isEmpty = true) : 0 < op l := by
  unfold op
  cases hh : (st l).2 with
  | nil => simp [hh] at h
  | cons _ _ => simp
theorem op_zero {l : List UInt8} (h : (st l).2.isEmpty = true) : op l = 0 := by
  unfold op
  cases hh : (st l).2 with
  | nil => rfl
  | cons _ _ => simp [hh] at h
theorem empty_of {l : List UInt8} (h : op l = 0) : (st l).2.isEmpty = true := by
  unfold op at h
  cases hh : (st l).2 with
  | nil => rfl
  | cons _ _ => simp [hh] at h
theorem some_of {l : List UInt8} (h : 0 < op l) : (st l).2.isEmpty = false := by
  unfold op at h
  cases hh : (st l).2 with
  | nil => simp [hh] at h
  | cons _ _ => rfl

/-- so many fields, and so long the open one -/
theorem st_len (l : List UInt8) : (closed l).length + op l ≤ l.length := by
  refine snoc_ind (P := fun l => (closed l).length + op l ≤ l.length) (by simp [closed, op, st]) ?_ l
  intro l c ih
  unfold closed op at *
  rw [st_snoc]
  simp only [stp, List.length_append, List.length_singleton]
  split
  · split
    · simp; omega
    · rename_i h
      have := op_pos h
      unfold op at this
      simp; omega
  · simp; omega
theorem fieldsOf_len (l : List UInt8) : (fieldsOf l).length ≤ l.length := by
  have h := st_len l
  unfold closed op at h
  simp only [fieldsOf, fin]
  split
  · omega
  · rename_i h0
    have := op_pos h0
    unfold op at this
    simp; omega
theorem suffix (l : List UInt8) : (st l).2 = l.drop (l.length - op l) := by
  refine snoc_ind (P := fun l => (st l).2 = l.drop (l.length - op l)) (by simp [st]) ?_ l
  intro l c ih
  have hl := st_len l
  unfold op at *
  rw [st_snoc]
  simp only [stp, List.length_append, List.length_singleton]
  split
  · simp
  · simp only [List.length_append, List.length_singleton]
    have e : l.length + 1 - ((st l).2.length + 1) = l.length - (st l).2.length := by omega
    rw [e, List.drop_append_of_le_length (by omega), ← ih]

variable (s : ByteArray) (k : Nat)
abbrev pre : List UInt8 := s.data.toList.take k
theorem pre_len (h : k ≤ s.size) : (pre s k).length = k := by simp [pre]; omega
theorem op_le (h : k ≤ s.size) : op (pre s k) ≤ k := by have := st_len (pre s k); rw [pre_len s k h] at this; omega
theorem closed_le (h : k ≤ s.size) : (closed (pre s k)).length + op (pre s k) ≤ k := by have := st_len (pre s k); rwa [pre_len s k h] at this

/-- the open field is the line's piece -/
theorem piece (h : k ≤ s.size) : s.extract (k - op (pre s k)) k = str (st (pre s k)).2 := by
  have e := suffix (pre s k)
  rw [pre_len s k h] at e
  generalize op (pre s k) = o at *
  rw [e]
  apply ByteArray.ext
  simp only [ByteArray.data_extract, str]
  apply Array.ext'
  simp [pre, List.take_drop]
  try (congr 1; omega)
theorem step_blank (h : k < s.size) (hb : blank s[k] = true) : closed (pre s (k + 1)) = fieldsOf (pre s k) ∧ op (pre s (k + 1)) = 0 := by
  unfold closed op pre
  rw [take_snoc s k h, st_snoc]
  simp [stp, hb, fieldsOf, fin]
theorem step_plain (h : k < s.size) (hb : blank s[k] = false) : closed (pre s (k + 1)) = closed (pre s k) ∧ op (pre s (k + 1)) = op (pre s k) + 1 := by
  unfold closed op pre
  rw [take_snoc s k h, st_snoc]
  simp [stp, hb]
theorem fields_zero (h : op (pre s k) = 0) : fieldsOf (pre s k) = closed (pre s k) := by
  simp [fieldsOf, fin, empty_of h, closed]
theorem fields_pos (h : 0 < op (pre s k)) : fieldsOf (pre s k) = closed (pre s k) ++ [(st (pre s k)).2] := by
  simp [fieldsOf, fin, some_of h, closed]
theorem fields_blank (h : k < s.size) (hb : blank s[k] = true) : fieldsOf (pre s (k + 1)) = fieldsOf (pre s k) := by
  obtain ⟨h1, h2⟩ := step_blank s k h hb
  rw [fields_zero s (k + 1) h2, h1]
theorem fields_full (h : s.size ≤ k) : fieldsOf (pre s k) = fieldsOf s.data.toList := by unfold pre; rw [full s k h]
end Go.Proofs.YtaaonaaciomijabDoor.Fld
