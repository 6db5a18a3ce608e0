/- Plain mathematics of the fields of a line: no program is named here. -/
import Derived.Lib.IndexMore
import Derived.Lib.Strings
import Derived.Test.YtlajdmjpobckhaaGreatDoorChecked
import Derived.WalkKit
import Derived.WalkSpells
import Derived.WalkLawsBesides
import Derived.Deep.QuietTactic
import Derived.BigQuiet
import Derived.BigCall
import Derived.Deep.DeepFit
namespace Go.Proofs.YtlajdmjpobckhaaGreatDoor.Fld

def blank (c : UInt8) : Bool := (c.toNat == 32) || (c.toNat == 9)
def stp (p : List (List UInt8) × List UInt8) (c : UInt8) : List (List UInt8) × List UInt8 :=
  if blank c then (if p.2.isEmpty then p.1 else p.1 ++ [p.2], []) else (p.1, p.2 ++ [c])
def st (l : List UInt8) : List (List UInt8) × List UInt8 := l.foldl stp ([], [])
def fin (p : List (List UInt8) × List UInt8) : List (List UInt8) := if p.2.isEmpty then p.1 else p.1 ++ [p.2]
def fieldsOf (l : List UInt8) : List (List UInt8) := fin (st l)
def str (f : List UInt8) : ByteArray := ⟨f.toArray⟩
def op (l : List UInt8) : Nat := (st l).2.length
def closed (l : List UInt8) : List (List UInt8) := (st l).1

theorem snoc_ind {α : Type} {P : List α → Prop} (h0 : P []) (h1 : ∀ l c, P l → P (l ++ [c])) (l : List α) : P l := by
  rw [← List.reverse_reverse l]
  generalize l.reverse = r
  induction r with
  | nil => exact h0
  | cons c r ih => rw [List.reverse_cons]; exact h1 _ _ ih
theorem st_nil : st [] = ([], []) := rfl
theorem st_snoc (l : List UInt8) (c : UInt8) : st (l ++ [c]) = stp (st l) c := by simp [st, List.foldl_append]
theorem take_snoc (s : ByteArray) (k : Nat) (h : k < s.size) : s.data.toList.take (k + 1) = s.data.toList.take k ++ [s[k]] := by
  rw [List.take_succ_eq_append_getElem (by simpa using h)]; rfl
theorem full (s : ByteArray) (k : Nat) (h : s.size ≤ k) : s.data.toList.take k = s.data.toList := List.take_of_length_le (by simpa using h)
theorem op_pos {l : List UInt8} (h : ¬ (st l).2.isEmpty = true) : 0 < op l := by
  unfold op
  cases hh : (st l).2 with
  | nil => simp [hh] at h
  | cons _ _ => simp
theorem op_zero {l : List UInt8} (h : (st l).2.isEmpty = true) : op l = 0 := by
  unfold op
  cases hh : (st l).2 with
  | nil => rfl
  | cons _ _ => simp [hh] at h
theorem empty_of {l : List UInt8} (h : op l = 0) : (st l).2.isEmpty = true := by
  unfold op at h
  cases hh : (st l).2 with
  | nil => rfl
  | cons _ _ => simp [hh] at h
theorem some_of {l : List UInt8} (h : 0 < op l) : (st l).2.isEmpty = false := by
  unfold op at h
  cases hh : (st l).2 with
  | nil => simp [hh] at h
  | cons _ _ => rfl

/-- so many fields, and so long the open one -/
theorem st_len (l : List UInt8) : (closed l).length + op l ≤ l.length := by
  refine snoc_ind (P := fun l => (closed l).length + op l ≤ l.length) (by simp [closed, op, st]) ?_ l
  intro l c ih
  unfold closed op at *
  rw [st_snoc]
  simp only [stp, List.length_append, List.length_singleton]
  split
  · split
    · simp; omega
    · rename_i h
      have := op_pos h
      unfold op at this
      simp; omega
  · simp; omega
theorem fieldsOf_len (l : List UInt8) : (fieldsOf l).length ≤ l.length := by
  have h := st_len l
  unfold closed op at h
  simp only [fieldsOf, fin]
  split
  · omega
  · rename_i h0
    have := op_pos h0
    unfold op at this
    simp; omega
theorem suffix (l : List UInt8) : (st l).2 = l.drop (l.length - op l) := by
  refine snoc_ind (P := fun l => (st l).2 = l.drop (l.length - op l)) (by simp [st]) ?_ l
  intro l c ih
  have hl := st_len l
  unfold op at *
  rw [st_snoc]
  simp only [stp, List.length_append, List.length_singleton]
  split
  · simp
  · simp only [List.length_append, List.length_singleton]
    have e : l.length + 1 - ((st l).2.length + 1) = l.length - (st l).2.length := by omega
    rw [e, List.drop_append_of_le_length (by omega), ← ih]

variable (s : ByteArray) (k : Nat)
abbrev pre : List UInt8 := s.data.toList.take k
theorem pre_len (h : k ≤ s.size) : (pre s k).length = k := by simp [pre]; omega
theorem op_le (h : k ≤ s.size) : op (pre s k) ≤ k := by have := st_len (pre s k); rw [pre_len s k h] at this; omega
theorem closed_le (h : k ≤ s.size) : (closed (pre s k)).length + op (pre s k) ≤ k := by have := st_len (pre s k); rwa [pre_len s k h] at this

/-- the open field is the line's piece -/
theorem piece (h : k ≤ s.size) : s.extract (k - op (pre s k)) k = str (st (pre s k)).2 := by
  have e := suffix (pre s k)
  rw [pre_len s k h] at e
  generalize op (pre s k) = o at *
  rw [e]
  apply ByteArray.ext
  simp only [ByteArray.data_extract, str]
  apply Array.ext'
  simp [pre, List.take_drop]
  try (congr 1; omega)
theorem step_blank (h : k < s.size) (hb : blank s[k] = true) : closed (pre s (k + 1)) = fieldsOf (pre s k) ∧ op (pre s (k + 1)) = 0 := by
  unfold closed op pre
  rw [take_snoc s k h, st_snoc]
  simp [stp, hb, fieldsOf, fin]
theorem step_plain (h : k < s.size) (hb : blank s[k] = false) : closed (pre s (k + 1)) = closed (pre s k) ∧ op (pre s (k + 1)) = op (pre s k) + 1 := by
  unfold closed op pre
  rw [take_snoc s k h, st_snoc]
  simp [stp, hb]
theorem fields_zero (h : op (pre s k) = 0) : fieldsOf (pre s k) = closed (pre s k) := by
  simp [fieldsOf, fin, empty_of h, closed]
theorem fields_pos (h : 0 < op (pre s k)) : fieldsOf (pre s k) = closed (pre s k) ++ [(st (pre s k)).2] := by
  simp [fieldsOf, fin, some_of h, closed]
theorem fields_blank (h : k < s.size) (hb : blank s[k] = true) : fieldsOf (pre s (k + 1)) = fieldsOf (pre s k) := by
  obtain ⟨h1, h2⟩ := step_blank s k h hb
  rw [fields_zero s (k + 1) h2, h1]
theorem fields_full (h : s.size ≤ k) : fieldsOf (pre s k) = fieldsOf s.data.toList := by unfold pre; rw [full s k h]
end Go.Proofs.YtlajdmjpobckhaaGreatDoor.Fld
/- Plain mathematics of the lines of a text: no program is named here. -/
namespace Go.Proofs.YtlajdmjpobckhaaGreatDoor.Ln

def ended (l : List UInt8) : List UInt8 := if l.getLast? = some 13 then l.dropLast else l
def stp (p : List (List UInt8) × List UInt8) (c : UInt8) : List (List UInt8) × List UInt8 := if c = 10 then (p.1 ++ [ended p.2], []) else (p.1, p.2 ++ [c])
def fin (p : List (List UInt8) × List UInt8) : List (List UInt8) := if p.2.isEmpty then p.1 else p.1 ++ [ended p.2]
def ln (l : List UInt8) : List (List UInt8) := fin (l.foldl stp ([], []))
def mark : List UInt8 := [239, 187, 191]
def unmark (l : List UInt8) : List UInt8 := Lib.trimPrefix l mark
def linesOf (l : List UInt8) : List (List UInt8) := ln (unmark l)

def bef : List UInt8 → List UInt8
  | [] => []
  | c :: t => if c = 10 then [] else c :: bef t
def aft : List UInt8 → List UInt8
  | [] => []
  | c :: t => if c = 10 then t else aft t
theorem index_eq (l : List UInt8) : (0 ≤ Lib.index l [10] → l.take (Lib.index l [10]).toNat = bef l ∧ l.drop ((Lib.index l [10]).toNat + 1) = aft l) ∧ (¬ 0 ≤ Lib.index l [10] → l = bef l ∧ aft l = []) ∧ (-1 ≤ Lib.index l [10]) := by
  induction l with
  | nil => simp [Lib.index, bef, aft]
  | cons c t ih =>
    obtain ⟨ih1, ih2, ih3⟩ := ih
    by_cases hc : c = 10
    · subst hc
      simp [Lib.index, bef, aft]
    · have hp : ([10] : List UInt8).isPrefixOf (c :: t) = false := by
        simp only [List.isPrefixOf, Bool.and_true]
        simp [Ne.symm hc]
      simp only [Lib.index, hp, bef, aft, if_neg hc]
      by_cases h1 : Lib.index t [10] = -1
      · have h2 := ih2 (by omega)
        simp only [h1]
        simp
        exact h2
      · have h3 : 0 ≤ Lib.index t [10] := by omega
        have h4 := ih1 h3
        have hb : (Lib.index t [10] == -1) = false := by simp [h1]
        simp only [hb]
        refine ⟨fun _ => ?_, fun h => absurd (by simp; omega) h, by simp; omega⟩
        have e : (Lib.index t [10] + 1).toNat = (Lib.index t [10]).toNat + 1 := by omega
        simp only [Bool.false_eq_true, if_false, e, List.take_succ_cons, List.drop_succ_cons]
        exact ⟨by rw [h4.1], h4.2⟩
theorem cut_eq (l : List UInt8) : (Lib.cut l [10]).1 = bef l ∧ (Lib.cut l [10]).2.1 = aft l := by
  obtain ⟨h1, h2, _⟩ := index_eq l
  unfold Lib.cut
  split
  · rename_i h
    exact h1 h
  · rename_i h
    exact ⟨(h2 h).1, (h2 h).2.symm⟩
theorem ended_eq (l : List UInt8) : Lib.trimSuffix l [13] = ended l := by
  unfold Lib.trimSuffix Lib.hasSuffix ended
  rcases List.eq_nil_or_concat l with rfl | ⟨a, c, rfl⟩
  · rfl
  · rw [List.concat_eq_append, show (a ++ [c]).getLast? = some c from by simp, show (a ++ [c]).dropLast = a from by simp]
    have : ([13] : List UInt8).isSuffixOf (a ++ [c]) = decide (c = 13) := by
      simp only [List.isSuffixOf, List.reverse_append, List.reverse_cons, List.reverse_nil, List.nil_append, List.isPrefixOf, List.cons_append, Bool.and_true]
      by_cases h : c = 13
      · simp [h]
      · simp [h, Ne.symm h]
    rw [this]
    by_cases h : c = 13
    · subst h; simp
    · simp [h]
theorem fold_acc (l : List UInt8) : ∀ (d : List (List UInt8)) (cur : List UInt8), fin (l.foldl stp (d, cur)) = d ++ fin (l.foldl stp ([], cur)) := by
  induction l with
  | nil => intro d cur; cases cur <;> simp [fin]
  | cons c t ih =>
    intro d cur
    simp only [List.foldl_cons, stp]
    split
    · rw [ih (d ++ [ended cur]), ih ([] ++ [ended cur])]; simp
    · exact ih d (cur ++ [c])
theorem ln_from (l : List UInt8) : ∀ cur : List UInt8, (l ≠ [] ∨ cur ≠ []) → fin (l.foldl stp ([], cur)) = ended (cur ++ bef l) :: ln (aft l) := by
  induction l with
  | nil =>
    intro cur h
    have hc : cur ≠ [] := by rcases h with h | h; exact absurd rfl h; exact h
    have : cur.isEmpty = false := by cases cur with | nil => exact absurd rfl hc | cons _ _ => rfl
    simp [fin, bef, aft, ln, this]
  | cons c t ih =>
    intro cur _
    simp only [List.foldl_cons, stp, bef, aft]
    by_cases hc : c = 10
    · rw [if_pos hc, if_pos hc, if_pos hc, fold_acc]
      simp [ln]
    · rw [if_neg hc, if_neg hc, if_neg hc, ih (cur ++ [c]) (.inr (by simp))]
      simp
theorem ln_cons (l : List UInt8) (h : l ≠ []) : ln l = ended (bef l) :: ln (aft l) := by
  have := ln_from l [] (.inl h)
  simpa [ln] using this
theorem ln_nil : ln [] = [] := rfl
theorem aft_lt (l : List UInt8) (h : l ≠ []) : (aft l).length < l.length := by
  induction l with
  | nil => exact absurd rfl h
  | cons c t ih =>
    simp only [aft]
    split
    · simp
    · cases t with
      | nil => simp [aft]
      | cons d u => have := ih (by simp); simp at this ⊢; omega
theorem bef_le (l : List UInt8) : (bef l).length ≤ l.length := by
  induction l with
  | nil => simp [bef]
  | cons c t ih =>
    simp only [bef]
    split
    · simp
    · simp; omega
theorem ln_len : ∀ (n : Nat) (l : List UInt8), l.length ≤ n → (ln l).length ≤ l.length
  | 0, l, h => by have : l = [] := List.eq_nil_of_length_eq_zero (by omega); subst this; simp [ln_nil]
  | n + 1, l, h => by
    by_cases hl : l = []
    · subst hl; simp [ln_nil]
    · have h1 := aft_lt l hl
      have h2 := ln_len n (aft l) (by omega)
      rw [ln_cons l hl]
      simp
      omega
theorem unmark_le (l : List UInt8) : (unmark l).length ≤ l.length := by
  unfold unmark Lib.trimPrefix
  split
  · simp
  · exact Nat.le_refl _
theorem linesOf_len (l : List UInt8) : (linesOf l).length ≤ l.length := Nat.le_trans (ln_len _ _ (Nat.le_refl _)) (unmark_le l)

/-! numbered lines -/
def num : Nat → List (List UInt8) → List (Nat × ByteArray)
  | _, [] => []
  | k, l :: t => (k, Fld.str l) :: num (k + 1) t
theorem num_length (L : List (List UInt8)) : ∀ k, (num k L).length = L.length := by
  induction L with
  | nil => intro k; rfl
  | cons l t ih => intro k; simp [num, ih]
theorem num_snd (L : List (List UInt8)) : ∀ k, (num k L).map (·.2) = L.map Fld.str := by
  induction L with
  | nil => intro k; rfl
  | cons l t ih => intro k; simp [num, ih]
theorem num_get (L : List (List UInt8)) : ∀ k j x, (num k L)[j]? = some x → x.1 = k + j ∧ ∃ l, L[j]? = some l ∧ x.2 = Fld.str l := by
  induction L with
  | nil => intro k j x h; simp [num] at h
  | cons l t ih =>
    intro k j x h
    cases j with
    | zero => simp [num] at h; subst h; simp
    | succ j =>
      simp [num] at h
      obtain ⟨h1, l', h2, h3⟩ := ih (k + 1) j x h
      exact ⟨by omega, l', by simpa using h2, h3⟩
def items (l : List UInt8) : List (Nat × ByteArray) := num 1 (linesOf l)
theorem items_length (l : List UInt8) : (items l).length = (linesOf l).length := num_length _ _
end Go.Proofs.YtlajdmjpobckhaaGreatDoor.Ln
/- Plain mathematics: the lines of a text as a walk from the left makes them; no program is named here. -/
namespace Go.Proofs.YtlajdmjpobckhaaGreatDoor.Ln

def at_ (T : ByteArray) (k : Nat) : List (List UInt8) × List UInt8 := (T.data.toList.take k).foldl stp ([], [])
theorem at_zero (T : ByteArray) : at_ T 0 = ([], []) := rfl
theorem at_succ (T : ByteArray) (k : Nat) (h : k < T.size) : at_ T (k + 1) = stp (at_ T k) T[k] := by
  unfold at_
  rw [Fld.take_snoc T k h, List.foldl_append]
  rfl
theorem at_full (T : ByteArray) (k : Nat) (h : T.size ≤ k) : ln T.data.toList = fin (at_ T k) := by
  unfold at_
  rw [Fld.full T k h]
  rfl
theorem at_len (T : ByteArray) : ∀ k, k ≤ T.size → (at_ T k).1.length + (at_ T k).2.length ≤ k
  | 0, _ => by simp [at_zero]
  | k + 1, h => by
    have ih := at_len T k (by omega)
    rw [at_succ T k (by omega)]
    unfold stp
    split
    · simp; omega
    · simp; omega
theorem feed_at (T : ByteArray) (k : Nat) (h : k < T.size) (hc : T[k] = 10) : at_ T (k + 1) = ((at_ T k).1 ++ [ended (at_ T k).2], []) := by
  rw [at_succ T k h]; unfold stp; rw [if_pos hc]
theorem plain_at (T : ByteArray) (k : Nat) (h : k < T.size) (hc : ¬ T[k] = 10) : at_ T (k + 1) = ((at_ T k).1, (at_ T k).2 ++ [T[k]]) := by
  rw [at_succ T k h]; unfold stp; rw [if_neg hc]
theorem ended_len (l : List UInt8) : (ended l).length ≤ l.length := by
  unfold ended
  split
  · simp
  · exact Nat.le_refl _
theorem ended_yes {l : List UInt8} {c : UInt8} {a : List UInt8} (h : l = a ++ [c]) (hc : c = 13) : ended l = a := by
  subst h; subst hc
  simp [ended]
theorem ended_no {l : List UInt8} {c : UInt8} {a : List UInt8} (h : l = a ++ [c]) (hc : ¬ c = 13) : ended l = l := by
  subst h
  simp [ended, hc]
theorem snoc_of {l : List UInt8} (h : 0 < l.length) : ∃ a c, l = a ++ [c] ∧ a.length = l.length - 1 ∧ l[l.length - 1]? = some c := by
  rcases List.eq_nil_or_concat l with rfl | ⟨a, c, rfl⟩
  · simp at h
  · exact ⟨a, c, List.concat_eq_append, by simp, by simp⟩

theorem ln_each : ∀ (n : Nat) (l : List UInt8), l.length ≤ n → ∀ x ∈ ln l, x.length ≤ l.length
  | 0, l, h => by have : l = [] := List.eq_nil_of_length_eq_zero (by omega); subst this; simp [ln_nil]
  | n + 1, l, h => by
    intro x hx
    by_cases hl : l = []
    · subst hl; simp [ln_nil] at hx
    · have h1 := aft_lt l hl
      rw [ln_cons l hl] at hx
      rcases List.mem_cons.1 hx with rfl | hx
      · have := ended_len (bef l); have := bef_le l; omega
      · have := ln_each n (aft l) (by omega) x hx; omega
theorem linesOf_each (l : List UInt8) (h : l.length ≤ 65536) : ∀ x ∈ linesOf l, x.length ≤ 65536 := by
  intro x hx
  have h1 := ln_each _ (unmark l) (Nat.le_refl _) x hx
  have h2 := unmark_le l
  omega

/-! the mark -/
theorem mark_true (s : ByteArray) (h : Lib.hasPrefix s.data.toList mark = true) : ∃ h3 : 3 ≤ s.size, s[0] = 239 ∧ s[1] = 187 ∧ s[2] = 191 := by
  have hp : mark <+: s.data.toList := List.isPrefixOf_iff_prefix.1 h
  obtain ⟨t, ht⟩ := hp
  have hlen : 3 ≤ s.size := by
    have := congrArg List.length ht
    simp [mark] at this
    omega
  have g : ∀ (j : Nat) (hj : j < s.size), s.data.toList[j]? = some s[j] := fun j hj => List.getElem?_eq_getElem (by simpa using hj)
  refine ⟨hlen, ?_, ?_, ?_⟩
  · have := g 0 (by omega); rw [← ht] at this; simpa [mark] using this.symm
  · have := g 1 (by omega); rw [← ht] at this; simpa [mark] using this.symm
  · have := g 2 (by omega); rw [← ht] at this; simpa [mark] using this.symm
theorem mark_of (s : ByteArray) (h3 : 3 ≤ s.size) (h0 : s[0] = 239) (h1 : s[1] = 187) (h2 : s[2] = 191) : Lib.hasPrefix s.data.toList mark = true := by
  apply List.isPrefixOf_iff_prefix.2
  refine ⟨s.data.toList.drop 3, ?_⟩
  apply List.ext_getElem?
  intro j
  have g : ∀ (j : Nat) (hj : j < s.size), s.data.toList[j]? = some s[j] := fun j hj => List.getElem?_eq_getElem (by simpa using hj)
  match j with
  | 0 => rw [g 0 (by omega), h0]; rfl
  | 1 => rw [g 1 (by omega), h1]; rfl
  | 2 => rw [g 2 (by omega), h2]; rfl
  | k + 3 => simp [mark, Nat.add_comm]
theorem mark_false (s : ByteArray) (h : Lib.hasPrefix s.data.toList mark = false) : s.size < 3 ∨ ∃ h3 : 3 ≤ s.size, ¬ s[0] = 239 ∨ (s[0] = 239 ∧ ¬ s[1] = 187) ∨ (s[0] = 239 ∧ s[1] = 187 ∧ ¬ s[2] = 191) := by
  by_cases h3 : 3 ≤ s.size
  · right
    refine ⟨h3, ?_⟩
    by_cases h0 : s[0] = 239
    · by_cases h1 : s[1] = 187
      · by_cases h2 : s[2] = 191
        · rw [mark_of s h3 h0 h1 h2] at h; cases h
        · exact .inr (.inr ⟨h0, h1, h2⟩)
      · exact .inr (.inl ⟨h0, h1⟩)
    · exact .inl h0
  · left; omega
theorem unmark_yes (s : ByteArray) (h : Lib.hasPrefix s.data.toList mark = true) : unmark s.data.toList = (s.extract 3 s.size).data.toList := by
  unfold unmark Lib.trimPrefix
  rw [if_pos h, Lib.extract_data]
  rw [List.take_of_length_le (by simp)]
  rfl
theorem unmark_no (s : ByteArray) (h : Lib.hasPrefix s.data.toList mark = false) : unmark s.data.toList = s.data.toList := by
  unfold unmark Lib.trimPrefix
  rw [h]
  rfl
theorem byte_eq (c d : UInt8) (h : c = d) : ((c.toNat : Int) == (d.toNat : Int)) = true := by rw [h]; simp
theorem byte_ne (c d : UInt8) (h : ¬ c = d) : ((c.toNat : Int) == (d.toNat : Int)) = false := by
  rw [beq_eq_false_iff_ne]
  intro e
  apply h
  apply UInt8.toNat_inj.1
  omega
end Go.Proofs.YtlajdmjpobckhaaGreatDoor.Ln
/- Plain mathematics of the rows of a text: no program is named here. -/
namespace Go.Proofs.YtlajdmjpobckhaaGreatDoor.Rw

def rem (f : List UInt8) : Bool := Lib.hasPrefix f [35]
def keep (fs : List (List UInt8)) : List (List UInt8) := fs.takeWhile fun f => !rem f
def rowOf (k : Nat) (l : List UInt8) : List (Nat × List (List UInt8)) := if (keep (Fld.fieldsOf l)).isEmpty then [] else [(k, keep (Fld.fieldsOf l))]
def rowsP (P : List (Nat × ByteArray)) : List (Nat × List (List UInt8)) := P.flatMap fun x => rowOf x.1 x.2.data.toList
def rowsOf (l : List UInt8) : List (Nat × List (List UInt8)) := rowsP (Ln.items l)
theorem rowsP_snoc (P : List (Nat × ByteArray)) (x : Nat × ByteArray) : rowsP (P ++ [x]) = rowsP P ++ rowOf x.1 x.2.data.toList := by simp [rowsP]
theorem rowOf_len (k : Nat) (l : List UInt8) : (rowOf k l).length ≤ 1 := by unfold rowOf; split <;> simp
theorem rowsP_len (P : List (Nat × ByteArray)) : (rowsP P).length ≤ P.length := by
  refine Fld.snoc_ind (P := fun P => (rowsP P).length ≤ P.length) (by simp [rowsP]) ?_ P
  intro P x ih
  rw [rowsP_snoc]
  have := rowOf_len x.1 x.2.data.toList
  simp
  omega
theorem str_data (l : List UInt8) : (Fld.str l).data.toList = l := by simp [Fld.str]

/-! the fields of a line are not empty -/
theorem closed_ne (l : List UInt8) : ∀ f ∈ (Fld.st l).1, f ≠ [] := by
  refine Fld.snoc_ind (P := fun l => ∀ f ∈ (Fld.st l).1, f ≠ []) (by simp [Fld.st]) ?_ l
  intro l c ih f hf
  rw [Fld.st_snoc] at hf
  unfold Fld.stp at hf
  split at hf
  · split at hf
    · exact ih f hf
    · rename_i h
      simp at hf
      rcases hf with hf | hf
      · exact ih f hf
      · subst hf
        intro e
        rw [e] at h
        exact h rfl
  · exact ih f hf
theorem fields_ne (l : List UInt8) : ∀ f ∈ Fld.fieldsOf l, f ≠ [] := by
  intro f hf
  unfold Fld.fieldsOf Fld.fin at hf
  split at hf
  · exact closed_ne l f hf
  · rename_i h
    simp at hf
    rcases hf with hf | hf
    · exact closed_ne l f hf
    · subst hf
      intro e
      rw [e] at h
      exact h rfl

/-! how far the fields are kept -/
theorem keep_le (fs : List (List UInt8)) : (keep fs).length ≤ fs.length := by
  unfold keep
  induction fs with
  | nil => simp
  | cons f t ih =>
    rw [List.takeWhile_cons]
    split
    · simp; omega
    · simp
theorem keep_take (fs : List (List UInt8)) : keep fs = fs.take (keep fs).length := by
  unfold keep
  induction fs with
  | nil => simp
  | cons f t ih =>
    rw [List.takeWhile_cons]
    split
    · simp only [List.length_cons, List.take_succ_cons]
      rw [← ih]
    · simp
theorem keep_lt (fs : List (List UInt8)) (n : Nat) (h : n < (keep fs).length) : ∃ f, fs[n]? = some f ∧ rem f = false := by
  unfold keep at h
  induction fs generalizing n with
  | nil => simp at h
  | cons f t ih =>
    rw [List.takeWhile_cons] at h
    split at h
    · rename_i hf
      cases n with
      | zero => exact ⟨f, by simp, by simpa using hf⟩
      | succ n =>
        obtain ⟨g, hg, hr⟩ := ih n (by simpa using h)
        exact ⟨g, by simpa using hg, hr⟩
    · simp at h
theorem keep_at (fs : List (List UInt8)) (h : (keep fs).length < fs.length) : ∃ f, fs[(keep fs).length]? = some f ∧ rem f = true := by
  unfold keep at h ⊢
  induction fs with
  | nil => simp at h
  | cons f t ih =>
    rw [List.takeWhile_cons] at h ⊢
    split
    · rename_i hf
      rw [if_pos hf] at h
      obtain ⟨g, hg, hr⟩ := ih (by simpa using h)
      exact ⟨g, by simpa using hg, hr⟩
    · rename_i hf
      exact ⟨f, by simp, by simpa using hf⟩
theorem keep_lt_of (fs : List (List UInt8)) (n : Nat) (hn : n ≤ (keep fs).length) (f : List UInt8) (hf : fs[n]? = some f) (hr : rem f = false) : n < (keep fs).length := by
  rcases Nat.lt_or_ge n (keep fs).length with h | h
  · exact h
  · have e : n = (keep fs).length := by omega
    subst e
    have hlt : (keep fs).length < fs.length := (List.getElem?_eq_some_iff.1 hf).1
    obtain ⟨g, hg, hr2⟩ := keep_at fs hlt
    rw [hf] at hg
    cases hg
    rw [hr] at hr2
    cases hr2
theorem keep_end (fs : List (List UInt8)) (n : Nat) (hn : n ≤ (keep fs).length) (f : List UInt8) (hf : fs[n]? = some f) (hr : rem f = true) : n = (keep fs).length := by
  rcases Nat.lt_or_ge n (keep fs).length with h | h
  · obtain ⟨g, hg, hr2⟩ := keep_lt fs n h
    rw [hf] at hg
    cases hg
    rw [hr] at hr2
    cases hr2
  · omega
theorem rem_head (f : List UInt8) (c : UInt8) (t : List UInt8) (h : f = c :: t) : rem f = decide (c = 35) := by
  subst h
  unfold rem Lib.hasPrefix
  simp only [List.isPrefixOf, Bool.and_true]
  by_cases hc : c = 35
  · simp [hc]
  · simp [hc, Ne.symm hc]
end Go.Proofs.YtlajdmjpobckhaaGreatDoor.Rw
/- Plain mathematics of words: no program is named here. -/
namespace Go.Proofs.YtlajdmjpobckhaaGreatDoor.Wd

def fit (b : UInt8) : Bool := decide (33 ≤ b.toNat) && decide (b.toNat ≠ 127)
def esc (b : UInt8) : Bool := (b.toNat == 92) || (b.toNat == 47) || (b.toNat == 35)
def str (l : List UInt8) : ByteArray := ⟨l.toArray⟩
theorem str_self (s : ByteArray) : str s.data.toList = s := rfl
theorem str_list (l : List UInt8) : (str l).data.toList = l := by simp [str]
theorem str_size (l : List UInt8) : (str l).size = l.length := by simp [str, ByteArray.size]
theorem str_inj {a b : List UInt8} : str a = str b ↔ a = b := by
  constructor
  · intro h
    have := congrArg (fun s : ByteArray => s.data.toList) h
    simpa [str] using this
  · rintro rfl; rfl
theorem drop_cons (s : ByteArray) (k : Nat) (h : k < s.size) : s.data.toList.drop k = s[k] :: s.data.toList.drop (k + 1) := by
  rw [List.drop_eq_getElem_cons (by simpa using h)]; rfl
theorem drop_end (s : ByteArray) (k : Nat) (h : s.size ≤ k) : s.data.toList.drop k = [] := List.drop_of_length_le (by simpa using h)
theorem extract_end (s : ByteArray) (k : Nat) : s.extract k s.size = str (s.data.toList.drop k) := by
  apply ByteArray.ext
  simp only [ByteArray.data_extract, str]
  apply Array.ext'
  simp
  have : s.size = s.data.toList.length := by simp
  rw [this, List.take_of_length_le (by simp)]
theorem byte_eq {a b : UInt8} (h : (a.toNat : Int) = b.toNat) : a = b := UInt8.toNat_inj.1 (by omega)

/-- reading from the left; none: a backslash with a wrong byte behind it, or none -/
def rd : List UInt8 → List UInt8 → Option (List UInt8 × List UInt8 × Bool)
  | acc, [] => some (acc, [], false)
  | acc, [c] => if c.toNat = 47 then some (acc, [], true) else if c.toNat = 92 then none else some (acc ++ [c], [], false)
  | acc, c :: d :: u => if c.toNat = 47 then some (acc, d :: u, true) else if c.toNat = 92 then (if esc d then rd (acc ++ [d]) u else none) else rd (acc ++ [c]) (d :: u)

theorem rd_cut_l (acc : List UInt8) (c : UInt8) (t : List UInt8) (h : c.toNat = 47) : rd acc (c :: t) = some (acc, t, true) := by
  cases t <;> simp [rd, h]
theorem rd_plain_l (acc : List UInt8) (c : UInt8) (t : List UInt8) (h : c.toNat ≠ 47) (h2 : c.toNat ≠ 92) : rd acc (c :: t) = rd (acc ++ [c]) t := by
  cases t <;> simp [rd, h, h2]
theorem rd_esc_l (acc : List UInt8) (c d : UInt8) (t : List UInt8) (h : c.toNat = 92) (h2 : esc d = true) : rd acc (c :: d :: t) = rd (acc ++ [d]) t := by
  simp [rd, h, h2]
theorem rd_bad_l (acc : List UInt8) (c d : UInt8) (t : List UInt8) (h : c.toNat = 92) (h2 : esc d = false) : rd acc (c :: d :: t) = none := by
  simp [rd, h, h2]
theorem rd_last_l (acc : List UInt8) (c : UInt8) (h : c.toNat = 92) : rd acc [c] = none := by simp [rd, h]

variable (s : ByteArray) (acc : List UInt8) (k : Nat)
theorem rd_end (h : s.size ≤ k) : rd acc (s.data.toList.drop k) = some (acc, [], false) := by rw [drop_end s k h]; rfl
theorem rd_cut (h : k < s.size) (hc : s[k].toNat = 47) : rd acc (s.data.toList.drop k) = some (acc, s.data.toList.drop (k + 1), true) := by
  rw [drop_cons s k h, rd_cut_l _ _ _ hc]
theorem rd_plain (h : k < s.size) (hc : s[k].toNat ≠ 47) (hc2 : s[k].toNat ≠ 92) : rd acc (s.data.toList.drop k) = rd (acc ++ [s[k]]) (s.data.toList.drop (k + 1)) := by
  rw [drop_cons s k h, rd_plain_l _ _ _ hc hc2]
theorem rd_last (h : k < s.size) (hc : s[k].toNat = 92) (h1 : s.size ≤ k + 1) : rd acc (s.data.toList.drop k) = none := by
  rw [drop_cons s k h, drop_end s _ h1, rd_last_l _ _ hc]
theorem rd_bad (h : k < s.size) (hc : s[k].toNat = 92) (h1 : k + 1 < s.size) (he : esc s[k + 1] = false) : rd acc (s.data.toList.drop k) = none := by
  rw [drop_cons s k h, drop_cons s _ h1, rd_bad_l _ _ _ _ hc he]
theorem rd_esc (h : k < s.size) (hc : s[k].toNat = 92) (h1 : k + 1 < s.size) (he : esc s[k + 1] = true) : rd acc (s.data.toList.drop k) = rd (acc ++ [s[k + 1]]) (s.data.toList.drop (k + 2)) := by
  rw [drop_cons s k h, drop_cons s _ h1, rd_esc_l _ _ _ _ hc he]
theorem rd_start : rd [] (s.data.toList.drop 0) = rd [] s.data.toList := by rw [List.drop_zero]

/-- how many bytes both begin with -/
def cm : List UInt8 → List UInt8 → Nat
  | a :: x, b :: y => if a = b then cm x y + 1 else 0
  | _, _ => 0
theorem cm_nil (x : List UInt8) : cm x [] = 0 := by cases x <;> rfl
theorem cm_step (a b : ByteArray) (k : Nat) (h1 : k < a.size) (h2 : k < b.size) (h : a[k] = b[k]) : cm (a.data.toList.drop k) (b.data.toList.drop k) = cm (a.data.toList.drop (k + 1)) (b.data.toList.drop (k + 1)) + 1 := by
  rw [drop_cons a k h1, drop_cons b k h2]; simp [cm, h]
theorem cm_part (a b : ByteArray) (k : Nat) (h1 : k < a.size) (h2 : k < b.size) (h : a[k] ≠ b[k]) : cm (a.data.toList.drop k) (b.data.toList.drop k) = 0 := by
  rw [drop_cons a k h1, drop_cons b k h2]; simp [cm, h]
theorem cm_end1 (a b : ByteArray) (k : Nat) (h1 : a.size ≤ k) : cm (a.data.toList.drop k) (b.data.toList.drop k) = 0 := by
  rw [drop_end a k h1]; rfl
theorem cm_end2 (a b : ByteArray) (k : Nat) (h1 : b.size ≤ k) : cm (a.data.toList.drop k) (b.data.toList.drop k) = 0 := by
  rw [drop_end b k h1]; exact cm_nil _

/-- a backslash where one is needed -/
def wt (l : List UInt8) : List UInt8 := l.flatMap fun c => if esc c then [92, c] else [c]
theorem wt_snoc (l : List UInt8) (c : UInt8) : wt (l ++ [c]) = wt l ++ (if esc c then [92, c] else [c]) := by simp [wt, List.flatMap_append]
theorem wt_len (l : List UInt8) : (wt l).length ≤ 2 * l.length := by
  induction l with
  | nil => simp [wt]
  | cons c t ih =>
    have e : wt (c :: t) = (if esc c then [92, c] else [c]) ++ wt t := by simp [wt]
    rw [e, List.length_append, List.length_cons]
    split <;> simp only [List.length_cons, List.length_nil] <;> omega
theorem take_snoc (h : k < s.size) : s.data.toList.take (k + 1) = s.data.toList.take k ++ [s[k]] := by
  rw [List.take_succ_eq_append_getElem (by simpa using h)]; rfl
theorem take_full (h : s.size ≤ k) : s.data.toList.take k = s.data.toList := List.take_of_length_le (by simpa using h)
theorem take_len (h : k ≤ s.size) : (s.data.toList.take k).length = k := by simp; omega
theorem wt_esc (h : k < s.size) (he : esc s[k] = true) : wt (s.data.toList.take (k + 1)) = wt (s.data.toList.take k) ++ [92] ++ [s[k]] := by
  rw [take_snoc s k h, wt_snoc, if_pos he, List.append_assoc]; rfl
theorem wt_plain (h : k < s.size) (he : esc s[k] = false) : wt (s.data.toList.take (k + 1)) = wt (s.data.toList.take k) ++ [s[k]] := by
  rw [take_snoc s k h, wt_snoc, if_neg (by simp [he])]
theorem esc_cases {c : UInt8} (h : esc c = true) : c.toNat = 92 ∨ c.toNat = 47 ∨ c.toNat = 35 := by simpa [esc, or_assoc] using h
theorem esc_none {c : UInt8} (h : esc c = false) : c.toNat ≠ 92 ∧ c.toNat ≠ 47 ∧ c.toNat ≠ 35 := by simpa [esc, and_assoc] using h

/-- what is written is read back -/
theorem back (w rest acc : List UInt8) : rd acc (wt w ++ rest) = rd (acc ++ w) rest := by
  induction w generalizing acc with
  | nil => simp [wt]
  | cons c t ih =>
    have e : wt (c :: t) = (if esc c then [92, c] else [c]) ++ wt t := by simp [wt]
    rw [e]
    cases he : esc c with
    | true =>
      simp only [if_true, List.cons_append, List.nil_append]
      rw [rd_esc_l _ _ _ _ (by decide) he, ih]; simp
    | false =>
      obtain ⟨h1, h2, h3⟩ := esc_none he
      simp only [Bool.false_eq_true, if_false, List.cons_append, List.nil_append]
      rw [rd_plain_l _ _ _ h2 h1, ih]; simp
theorem back_slash (w rest : List UInt8) : rd [] (wt w ++ 47 :: rest) = some (w, rest, true) := by
  rw [back, rd_cut_l _ _ _ (by decide)]; simp
theorem back_whole (w : List UInt8) : rd [] (wt w) = some (w, [], false) := by
  have := back w [] []
  simpa [rd] using this

/-- all are word bytes -/
theorem all_step (h : k < s.size) (h0 : (s.data.toList.take k).all fit = true) (h1 : fit s[k] = true) : (s.data.toList.take (k + 1)).all fit = true := by
  rw [take_snoc s k h, List.all_append, h0]; simp [h1]
theorem all_bad (h : k < s.size) (h1 : fit s[k] = false) : s.data.toList.all fit = false := by
  rw [List.all_eq_false]
  exact ⟨s[k], by rw [ByteArray.getElem_eq_getElem_data]; simp, by simp [h1]⟩
theorem fit_of {c : UInt8} (h1 : 32 < (c.toNat : Int)) (h2 : (c.toNat : Int) ≠ 127) : fit c = true := by simp [fit]; omega
theorem unfit_lo {c : UInt8} (h1 : (c.toNat : Int) ≤ 32) : fit c = false := by simp [fit]; omega
theorem unfit_del {c : UInt8} (h1 : (c.toNat : Int) = 127) : fit c = false := by simp [fit]; omega

/-- each once -/
def uq : List UInt8 → List UInt8 → List UInt8
  | acc, [] => acc
  | acc, c :: t => if acc.contains c then uq acc t else uq (acc ++ [c]) t
theorem uq_again (h : k < s.size) (hc : acc.contains s[k] = true) : uq acc (s.data.toList.drop k) = uq acc (s.data.toList.drop (k + 1)) := by
  rw [drop_cons s k h]; simp only [uq, hc, if_true]
theorem uq_new (h : k < s.size) (hc : acc.contains s[k] = false) : uq acc (s.data.toList.drop k) = uq (acc ++ [s[k]]) (s.data.toList.drop (k + 1)) := by
  rw [drop_cons s k h]; simp only [uq, hc]; rfl
theorem uq_end (h : s.size ≤ k) : uq acc (s.data.toList.drop k) = acc := by rw [drop_end s k h]; rfl
end Go.Proofs.YtlajdmjpobckhaaGreatDoor.Wd
/- Contracts: words.Valid and the document's Valid answer whether a text is a word, for every text; nothing in memory turns. -/
namespace Go.Proofs.YtlajdmjpobckhaaGreatDoor
open Go.RowKit
namespace VlW

theorem hide {p : Prop} (h : p) : Hid p := h
theorem unhide {p : Prop} (h : Hid p) : p := h

set_option maxHeartbeats 400000 in
theorem is_any (b : UInt8) (w : World) : Calls Tryz.prog 147 #[.int .u8 (b.toNat : Int)] w fun e w' => e = .returned (.bool (Wd.fit b)) ∧ w' = w := by
  by_cases h1 : 32 < (b.toNat : Int)
  · by_cases h2 : (b.toNat : Int) = 127
    · rw [Wd.unfit_del h2]
      have e2 : ((b.toNat : Int) != 127) = false := by rw [h2]; rfl
      clear h2
      go_enter Tryz.func147, Tryz.ntmps147
      go_wp2
      go_ret
      exact ⟨rfl, rfl⟩
    · rw [Wd.fit_of h1 h2]
      have e2 : ((b.toNat : Int) != 127) = true := by rw [bne_iff_ne]; exact h2
      clear h2
      go_enter Tryz.func147, Tryz.ntmps147
      go_wp2
      go_ret
      exact ⟨rfl, rfl⟩
  · rw [Wd.unfit_lo (by omega)]
    go_enter Tryz.func147, Tryz.ntmps147
    go_wp2
    go_ret
    exact ⟨rfl, rfl⟩

theorem retb {a b : Bool} (h : a = b) : Ending.returned (.bool a) = .returned (.bool b) := by rw [h]
/-- not empty, and all word bytes -/
def okB (l : List UInt8) : Bool := !l.isEmpty && l.all Wd.fit
theorem okB_bad {l : List UInt8} (h : l.all Wd.fit = false) : okB l = false := by unfold okB; rw [h, Bool.and_false]
theorem okB_all {s : ByteArray} (h : s.data.toList.all Wd.fit = true) : okB s.data.toList = !s.toList.isEmpty := by unfold okB; rw [h, Bool.and_true, Lib.toList_data]

set_option maxHeartbeats 1000000 in
theorem all_any (s : ByteArray) (w : World) (hs : s.size ≤ maxLen) :
    Calls Tryz.prog 125 #[.string s] w fun e w' => e = .returned (.bool (okB s.data.toList)) ∧ w' = w := by
  unfold maxLen at hs
  go_enter Tryz.func125, Tryz.ntmps125
  go_wp2
  go_loop [3] (fun i => ∃ k : Nat, k ≤ s.size ∧ i = .int .i64 k ∧ Hid ((s.data.toList.take k).all Wd.fit = true)) (fun i => s.size - (intOf i).toNat)
  case atStart => exact ⟨0, Nat.zero_le _, rfl, rfl⟩
  case round =>
    obtain ⟨k, hk, rfl, HD⟩ := hrel
    by_cases hlt : k < s.size
    · cases hf : Wd.fit s[k] with
      | true =>
        have HS := hide (Wd.all_step s k hlt (unhide HD) hf)
        have HN := hide (fun W => is_any s[k] W)
        rw [hf] at HN
        clear hf
        go_wp2_with (go_at_call 147; refine (unhide HN _).mono ?_; rintro e W1 ⟨rfl, rfl⟩)
        go_round
        case rel => exact ⟨k + 1, by omega, by go_num, HS⟩
        case measure => simp [intOf]; omega
      | false =>
        have HS := hide (okB_bad (Wd.all_bad s k hlt hf))
        have HN := hide (fun W => is_any s[k] W)
        rw [hf] at HN
        clear hf
        go_wp2_with (go_at_call 147; refine (unhide HN _).mono ?_; rintro e W1 ⟨rfl, rfl⟩)
        go_ret
        exact ⟨retb (unhide HS).symm, rfl⟩
    · have HA : Hid (s.data.toList.all Wd.fit = true) := by rw [Hid, ← Wd.take_full s k (by omega)]; exact unhide HD
      clear HD
      have HE := hide (okB_all (unhide HA))
      go_wp2
      go_ret
      exact ⟨retb (unhide HE).symm, rfl⟩

set_option maxHeartbeats 1000000 in
theorem bytes_any (s : ByteArray) (w : World) (hs : s.size ≤ maxLen) :
    Calls Tryz.prog 30 #[.string s] w fun e w' => e = .returned (.bool (s.data.toList.all Wd.fit)) ∧ w' = w := by
  unfold maxLen at hs
  obtain ⟨r, hr⟩ : ∃ r, r = s.data.toList.all Wd.fit := ⟨_, rfl⟩
  rw [← hr]
  have HR := hide hr
  clear hr
  go_enter Tryz.func30, Tryz.ntmps30
  go_wp2
  go_loop [3] (fun i => ∃ k : Nat, k ≤ s.size ∧ i = .int .i64 k ∧ Hid ((s.data.toList.take k).all Wd.fit = true)) (fun i => s.size - (intOf i).toNat)
  case atStart => exact ⟨0, Nat.zero_le _, rfl, rfl⟩
  case round =>
    obtain ⟨k, hk, rfl, HD⟩ := hrel
    by_cases hlt : k < s.size
    · by_cases h1 : (s[k].toNat : Int) < 33
      · have HS : Hid (r = false) := by rw [Hid, unhide HR]; exact Wd.all_bad s k hlt (Wd.unfit_lo (by omega))
        clear HR HD
        go_wp2
        go_ret
        exact ⟨retb (unhide HS).symm, rfl⟩
      · by_cases h2 : (s[k].toNat : Int) = 127
        · have HS : Hid (r = false) := by rw [Hid, unhide HR]; exact Wd.all_bad s k hlt (Wd.unfit_del h2)
          have e2 : ((s[k].toNat : Int) == 127) = true := by rw [beq_iff_eq]; exact h2
          clear HR HD h2
          go_wp2
          go_ret
          exact ⟨retb (unhide HS).symm, rfl⟩
        · have HS := hide (Wd.all_step s k hlt (unhide HD) (Wd.fit_of (by omega) h2))
          have e2 : ((s[k].toNat : Int) == 127) = false := by rw [beq_eq_false_iff_ne]; exact h2
          clear h2
          go_wp2
          go_round
          case rel => exact ⟨k + 1, by omega, by go_num, HS⟩
          case measure => simp [intOf]; omega
    · have HA : Hid (r = true) := by rw [Hid, unhide HR, ← Wd.take_full s k (by omega)]; exact unhide HD
      clear HD HR
      go_wp2
      go_ret
      exact ⟨retb (unhide HA).symm, rfl⟩

/-- a word -/
def isW (s : ByteArray) : Bool := decide (s.size ≤ 64) && okB s.data.toList
theorem isW_big {s : ByteArray} (h : ¬ s.size ≤ 64) : isW s = false := by simp [isW, h]
theorem isW_small {s : ByteArray} (h : s.size ≤ 64) : isW s = okB s.data.toList := by simp [isW, h]
theorem isW_empty {s : ByteArray} (h : s.size < 1) : isW s = false := by
  have hl : s.data.toList.length = s.size := by simp
  have : s.data.toList = [] := List.eq_nil_of_length_eq_zero (by omega)
  unfold isW okB
  rw [this]; simp
theorem isW_mid {s : ByteArray} (h : s.size ≤ 64) (h0 : ¬ s.size < 1) : isW s = s.data.toList.all Wd.fit := by
  rw [isW_small h]
  unfold okB
  cases he : s.data.toList with
  | nil => have : s.data.toList.length = s.size := by simp
           rw [he] at this; simp at this; omega
  | cons a t => simp

set_option maxHeartbeats 1000000 in
theorem ref_any (s : ByteArray) (w : World) (hs : s.size ≤ maxLen) :
    Calls Tryz.prog 10 #[.string s] w fun e w' => e = .returned (.bool (isW s)) ∧ w' = w := by
  by_cases h0 : s.size < 1
  · rw [isW_empty h0]
    have h1 : (s.size : Int) < 1 := by omega
    clear hs h0
    go_enter Tryz.func10, Tryz.ntmps10
    go_wp2
    go_ret
    exact ⟨rfl, rfl⟩
  · by_cases h : s.size ≤ 64
    · have HI := hide (fun W => bytes_any s W hs)
      rw [isW_mid h h0]
      generalize s.data.toList.all Wd.fit = r at *
      have h1 : ¬ (s.size : Int) < 1 := by omega
      have h2 : ¬ 64 < (s.size : Int) := by omega
      clear hs h0 h
      go_enter Tryz.func10, Tryz.ntmps10
      go_wp2_with (go_at_call 30; refine (unhide HI _).mono ?_; rintro e W1 ⟨rfl, rfl⟩)
      go_ret
      exact ⟨rfl, rfl⟩
    · rw [isW_big h]
      have h1 : ¬ (s.size : Int) < 1 := by omega
      have h2 : 64 < (s.size : Int) := by omega
      clear hs h0 h
      go_enter Tryz.func10, Tryz.ntmps10
      go_wp2
      go_ret
      exact ⟨rfl, rfl⟩
end VlW
end Go.Proofs.YtlajdmjpobckhaaGreatDoor
