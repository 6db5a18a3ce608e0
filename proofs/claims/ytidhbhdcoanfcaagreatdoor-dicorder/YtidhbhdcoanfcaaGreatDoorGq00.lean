import Derived.Lib.IndexMore
import Derived.Test.YtidhbhdcoanfcaaGreatDoorChecked
import Derived.WalkSpells
import Derived.WalkLawsBesides
import Derived.BigQuiet
import Derived.RangeFuncBox
set_option maxHeartbeats 8000000
set_option maxRecDepth 100000
namespace Go.Proofs.YtidhbhdcoanfcaaGreatDoor.Fld

def blank (c : UInt8) : Bool := (c.toNat == 32) || (c.toNat == 9)
def stp (p : List (List UInt8) × List UInt8) (c : UInt8) : List (List UInt8) × List UInt8 :=
 if blank c then (if p.2.isEmpty then p.1 else p.1 ++ [p.2], []) else (p.1, p.2 ++ [c])
def st (l : List UInt8) : List (List UInt8) × List UInt8 := l.foldl stp ([], [])
def fin (p : List (List UInt8) × List UInt8) : List (List UInt8) := if p.2.isEmpty then p.1 else p.1 ++ [p.2]
def fieldsOf (l : List UInt8) : List (List UInt8) := fin (st l)
def str (f : List UInt8) : ByteArray := ⟨f.toArray⟩
def op (l : List UInt8) : Nat := (st l).2.length
def closed (l : List UInt8) : List (List UInt8) := (st l).1

theorem snoc_ind {α : Type} {P : List α → Prop} (h0 : P []) (h1 : ∀ l c, P l → P (l ++ [c])) (l : List α) : P l := by
 rw [← List.reverse_reverse l]
 generalize l.reverse = r
 induction r with
 | nil => exact h0
 | cons c r ih => rw [List.reverse_cons]; exact h1 _ _ ih
theorem st_nil : st [] = ([], []) := rfl
theorem st_snoc (l : List UInt8) (c : UInt8) : st (l ++ [c]) = stp (st l) c := by simp [st, List.foldl_append]
theorem take_snoc (s : ByteArray) (k : Nat) (h : k < s.size) : s.data.toList.take (k + 1) = s.data.toList.take k ++ [s[k]] := by
 rw [List.take_succ_eq_append_getElem (by simpa using h)]; rfl
theorem full (s : ByteArray) (k : Nat) (h : s.size ≤ k) : s.data.toList.take k = s.data.toList := List.take_of_length_le (by simpa using h)
theorem op_pos {l : List UInt8} (h : ¬ (st l).2.isEmpty = true) : 0 < op l := by
 unfold op
 cases hh : (st l).2 with
 | nil => simp [hh] at h
 | cons _ _ => simp
theorem empty_of {l : List UInt8} (h : op l = 0) : (st l).2.isEmpty = true := by
 unfold op at h
 cases hh : (st l).2 with
 | nil => rfl
 | cons _ _ => simp [hh] at h
theorem some_of {l : List UInt8} (h : 0 < op l) : (st l).2.isEmpty = false := by
 unfold op at h
 cases hh : (st l).2 with
 | nil => simp [hh] at h
 | cons _ _ => rfl

theorem st_len (l : List UInt8) : (closed l).length + op l ≤ l.length := by
 refine snoc_ind (P := fun l => (closed l).length + op l ≤ l.length) (by simp [closed, op, st]) ?_ l
 intro l c ih
 unfold closed op at *
 rw [st_snoc]
 simp only [stp, List.length_append, List.length_singleton]
 split
 ·split
  ·simp; omega
  ·rename_i h
   have := op_pos h
   unfold op at this
   simp; omega
 ·simp; omega
theorem fieldsOf_len (l : List UInt8) : (fieldsOf l).length ≤ l.length := by
 have h := st_len l
 unfold closed op at h
 simp only [fieldsOf, fin]
 split
 ·omega
 ·rename_i h0
  have := op_pos h0
  unfold op at this
  simp; omega
theorem suffix (l : List UInt8) : (st l).2 = l.drop (l.length - op l) := by
 refine snoc_ind (P := fun l => (st l).2 = l.drop (l.length - op l)) (by simp [st]) ?_ l
 intro l c ih
 have hl := st_len l
 unfold op at *
 rw [st_snoc]
 simp only [stp, List.length_append, List.length_singleton]
 split
 ·simp
 ·simp only [List.length_append, List.length_singleton]
  have e : l.length + 1 - ((st l).2.length + 1) = l.length - (st l).2.length := by omega
  rw [e, List.drop_append_of_le_length (by omega), ← ih]

variable (s : ByteArray) (k : Nat)
abbrev pre : List UInt8 := s.data.toList.take k
theorem pre_len (h : k ≤ s.size) : (pre s k).length = k := by simp [pre]; omega
theorem op_le (h : k ≤ s.size) : op (pre s k) ≤ k := by have := st_len (pre s k); rw [pre_len s k h] at this; omega
theorem closed_le (h : k ≤ s.size) : (closed (pre s k)).length + op (pre s k) ≤ k := by have := st_len (pre s k); rwa [pre_len s k h] at this

theorem piece (h : k ≤ s.size) : s.extract (k - op (pre s k)) k = str (st (pre s k)).2 := by
 have e := suffix (pre s k)
 rw [pre_len s k h] at e
 generalize op (pre s k) = o at *
 rw [e]
 apply ByteArray.ext
 simp only [ByteArray.data_extract, str]
 apply Array.ext'
 simp [pre, List.take_drop]
 try (congr 1; omega)
theorem step_blank (h : k < s.size) (hb : blank s[k] = true) : closed (pre s (k + 1)) = fieldsOf (pre s k) ∧ op (pre s (k + 1)) = 0 := by
 unfold closed op pre
 rw [take_snoc s k h, st_snoc]
 simp [stp, hb, fieldsOf, fin]
theorem step_plain (h : k < s.size) (hb : blank s[k] = false) : closed (pre s (k + 1)) = closed (pre s k) ∧ op (pre s (k + 1)) = op (pre s k) + 1 := by
 unfold closed op pre
 rw [take_snoc s k h, st_snoc]
 simp [stp, hb]
theorem fields_zero (h : op (pre s k) = 0) : fieldsOf (pre s k) = closed (pre s k) := by
 simp [fieldsOf, fin, empty_of h, closed]
theorem fields_pos (h : 0 < op (pre s k)) : fieldsOf (pre s k) = closed (pre s k) ++ [(st (pre s k)).2] := by
 simp [fieldsOf, fin, some_of h, closed]
theorem fields_blank (h : k < s.size) (hb : blank s[k] = true) : fieldsOf (pre s (k + 1)) = fieldsOf (pre s k) := by
 obtain ⟨h1, h2⟩ := step_blank s k h hb
 rw [fields_zero s (k + 1) h2, h1]
theorem fields_full (h : s.size ≤ k) : fieldsOf (pre s k) = fieldsOf s.data.toList := by unfold pre; rw [full s k h]
end Go.Proofs.YtidhbhdcoanfcaaGreatDoor.Fld
namespace Go.Proofs.YtidhbhdcoanfcaaGreatDoor.Ln

def ended (l : List UInt8) : List UInt8 := if l.getLast? = some 13 then l.dropLast else l
def stp (p : List (List UInt8) × List UInt8) (c : UInt8) : List (List UInt8) × List UInt8 := if c = 10 then (p.1 ++ [ended p.2], []) else (p.1, p.2 ++ [c])
def fin (p : List (List UInt8) × List UInt8) : List (List UInt8) := if p.2.isEmpty then p.1 else p.1 ++ [ended p.2]
def ln (l : List UInt8) : List (List UInt8) := fin (l.foldl stp ([], []))
def mark : List UInt8 := [239, 187, 191]
def unmark (l : List UInt8) : List UInt8 := Lib.trimPrefix l mark
def linesOf (l : List UInt8) : List (List UInt8) := ln (unmark l)

def bef : List UInt8 → List UInt8
 | [] => []
 | c :: t => if c = 10 then [] else c :: bef t
def aft : List UInt8 → List UInt8
 | [] => []
 | c :: t => if c = 10 then t else aft t
theorem index_eq (l : List UInt8) : (0 ≤ Lib.index l [10] → l.take (Lib.index l [10]).toNat = bef l ∧ l.drop ((Lib.index l [10]).toNat + 1) = aft l) ∧ (¬ 0 ≤ Lib.index l [10] → l = bef l ∧ aft l = []) ∧ (-1 ≤ Lib.index l [10]) := by
 induction l with
 | nil => simp [Lib.index, bef, aft]
 | cons c t ih =>
  obtain ⟨ih1, ih2, ih3⟩ := ih
  by_cases hc : c = 10
  ·subst hc
   simp [Lib.index, bef, aft]
  ·have hp : ([10] : List UInt8).isPrefixOf (c :: t) = false := by
    simp only [List.isPrefixOf, Bool.and_true]
    simp [Ne.symm hc]
   simp only [Lib.index, hp, bef, aft, if_neg hc]
   by_cases h1 : Lib.index t [10] = -1
   ·have h2 := ih2 (by omega)
    simp only [h1]
    simp
    exact h2
   ·have h3 : 0 ≤ Lib.index t [10] := by omega
    have h4 := ih1 h3
    have hb : (Lib.index t [10] == -1) = false := by simp [h1]
    simp only [hb]
    refine ⟨fun _ => ?_, fun h => absurd (by simp; omega) h, by simp; omega⟩
    have e : (Lib.index t [10] + 1).toNat = (Lib.index t [10]).toNat + 1 := by omega
    simp only [Bool.false_eq_true, if_false, e, List.take_succ_cons, List.drop_succ_cons]
    exact ⟨by rw [h4.1], h4.2⟩
theorem cut_eq (l : List UInt8) : (Lib.cut l [10]).1 = bef l ∧ (Lib.cut l [10]).2.1 = aft l := by
 obtain ⟨h1, h2, _⟩ := index_eq l
 unfold Lib.cut
 split
 ·rename_i h
  exact h1 h
 ·rename_i h
  exact ⟨(h2 h).1, (h2 h).2.symm⟩
theorem ended_eq (l : List UInt8) : Lib.trimSuffix l [13] = ended l := by
 unfold Lib.trimSuffix Lib.hasSuffix ended
 rcases List.eq_nil_or_concat l with rfl | ⟨a, c, rfl⟩
 ·rfl
 ·rw [List.concat_eq_append, show (a ++ [c]).getLast? = some c from by simp, show (a ++ [c]).dropLast = a from by simp]
  have : ([13] : List UInt8).isSuffixOf (a ++ [c]) = decide (c = 13) := by
   simp only [List.isSuffixOf, List.reverse_append, List.reverse_cons, List.reverse_nil, List.nil_append, List.isPrefixOf, List.cons_append, Bool.and_true]
   by_cases h : c = 13
   ·simp [h]
   ·simp [h, Ne.symm h]
  rw [this]
  by_cases h : c = 13
  ·subst h; simp
  ·simp [h]
theorem fold_acc (l : List UInt8) : ∀ (d : List (List UInt8)) (cur : List UInt8), fin (l.foldl stp (d, cur)) = d ++ fin (l.foldl stp ([], cur)) := by
 induction l with
 | nil => intro d cur; cases cur <;> simp [fin]
 | cons c t ih =>
  intro d cur
  simp only [List.foldl_cons, stp]
  split
  ·rw [ih (d ++ [ended cur]), ih ([] ++ [ended cur])]; simp
  ·exact ih d (cur ++ [c])
theorem ln_from (l : List UInt8) : ∀ cur : List UInt8, (l ≠ [] ∨ cur ≠ []) → fin (l.foldl stp ([], cur)) = ended (cur ++ bef l) :: ln (aft l) := by
 induction l with
 | nil =>
  intro cur h
  have hc : cur ≠ [] := by rcases h with h | h; exact absurd rfl h; exact h
  have : cur.isEmpty = false := by cases cur with | nil => exact absurd rfl hc | cons _ _ => rfl
  simp [fin, bef, aft, ln, this]
 | cons c t ih =>
  intro cur _
  simp only [List.foldl_cons, stp, bef, aft]
  by_cases hc : c = 10
  ·rw [if_pos hc, if_pos hc, if_pos hc, fold_acc]
   simp [ln]
  ·rw [if_neg hc, if_neg hc, if_neg hc, ih (cur ++ [c]) (.inr (by simp))]
   simp
theorem ln_cons (l : List UInt8) (h : l ≠ []) : ln l = ended (bef l) :: ln (aft l) := by
 have := ln_from l [] (.inl h)
 simpa [ln] using this
theorem ln_nil : ln [] = [] := rfl
theorem aft_lt (l : List UInt8) (h : l ≠ []) : (aft l).length < l.length := by
 induction l with
 | nil => exact absurd rfl h
 | cons c t ih =>
  simp only [aft]
  split
  ·simp
  ·cases t with
   | nil => simp [aft]
   | cons d u => have := ih (by simp); simp at this ⊢; omega
theorem bef_le (l : List UInt8) : (bef l).length ≤ l.length := by
 induction l with
 | nil => simp [bef]
 | cons c t ih =>
  simp only [bef]
  split
  ·simp
  ·simp; omega
theorem ln_len : ∀ (n : Nat) (l : List UInt8), l.length ≤ n → (ln l).length ≤ l.length
 | 0, l, h => by have : l = [] := List.eq_nil_of_length_eq_zero (by omega); subst this; simp [ln_nil]
 | n + 1, l, h => by
  by_cases hl : l = []
  ·subst hl; simp [ln_nil]
  ·have h1 := aft_lt l hl
   have h2 := ln_len n (aft l) (by omega)
   rw [ln_cons l hl]
   simp
   omega
theorem unmark_le (l : List UInt8) : (unmark l).length ≤ l.length := by
 unfold unmark Lib.trimPrefix
 split
 ·simp
 ·exact Nat.le_refl _
theorem linesOf_len (l : List UInt8) : (linesOf l).length ≤ l.length := Nat.le_trans (ln_len _ _ (Nat.le_refl _)) (unmark_le l)

def num : Nat → List (List UInt8) → List (Nat × ByteArray)
 | _, [] => []
 | k, l :: t => (k, Fld.str l) :: num (k + 1) t
theorem num_length (L : List (List UInt8)) : ∀ k, (num k L).length = L.length := by
 induction L with
 | nil => intro k; rfl
 | cons l t ih => intro k; simp [num, ih]
theorem num_snd (L : List (List UInt8)) : ∀ k, (num k L).map (·.2) = L.map Fld.str := by
 induction L with
 | nil => intro k; rfl
 | cons l t ih => intro k; simp [num, ih]
theorem num_get (L : List (List UInt8)) : ∀ k j x, (num k L)[j]? = some x → x.1 = k + j ∧ ∃ l, L[j]? = some l ∧ x.2 = Fld.str l := by
 induction L with
 | nil => intro k j x h; simp [num] at h
 | cons l t ih =>
  intro k j x h
  cases j with
  | zero => simp [num] at h; subst h; simp
  | succ j =>
   simp [num] at h
   obtain ⟨h1, l', h2, h3⟩ := ih (k + 1) j x h
   exact ⟨by omega, l', by simpa using h2, h3⟩
def items (l : List UInt8) : List (Nat × ByteArray) := num 1 (linesOf l)
theorem items_length (l : List UInt8) : (items l).length = (linesOf l).length := num_length _ _

def at_ (T : ByteArray) (k : Nat) : List (List UInt8) × List UInt8 := (T.data.toList.take k).foldl stp ([], [])
theorem at_zero (T : ByteArray) : at_ T 0 = ([], []) := rfl
theorem at_succ (T : ByteArray) (k : Nat) (h : k < T.size) : at_ T (k + 1) = stp (at_ T k) T[k] := by
 unfold at_
 rw [Fld.take_snoc T k h, List.foldl_append]
 rfl
theorem at_full (T : ByteArray) (k : Nat) (h : T.size ≤ k) : ln T.data.toList = fin (at_ T k) := by
 unfold at_
 rw [Fld.full T k h]
 rfl
theorem at_len (T : ByteArray) : ∀ k, k ≤ T.size → (at_ T k).1.length + (at_ T k).2.length ≤ k
 | 0, _ => by simp [at_zero]
 | k + 1, h => by
  have ih := at_len T k (by omega)
  rw [at_succ T k (by omega)]
  unfold stp
  split
  ·simp; omega
  ·simp; omega
theorem feed_at (T : ByteArray) (k : Nat) (h : k < T.size) (hc : T[k] = 10) : at_ T (k + 1) = ((at_ T k).1 ++ [ended (at_ T k).2], []) := by
 rw [at_succ T k h]; unfold stp; rw [if_pos hc]
theorem plain_at (T : ByteArray) (k : Nat) (h : k < T.size) (hc : ¬ T[k] = 10) : at_ T (k + 1) = ((at_ T k).1, (at_ T k).2 ++ [T[k]]) := by
 rw [at_succ T k h]; unfold stp; rw [if_neg hc]
theorem ended_len (l : List UInt8) : (ended l).length ≤ l.length := by
 unfold ended
 split
 ·simp
 ·exact Nat.le_refl _
theorem ended_yes {l : List UInt8} {c : UInt8} {a : List UInt8} (h : l = a ++ [c]) (hc : c = 13) : ended l = a := by
 subst h; subst hc
 simp [ended]
theorem ended_no {l : List UInt8} {c : UInt8} {a : List UInt8} (h : l = a ++ [c]) (hc : ¬ c = 13) : ended l = l := by
 subst h
 simp [ended, hc]
theorem snoc_of {l : List UInt8} (h : 0 < l.length) : ∃ a c, l = a ++ [c] ∧ a.length = l.length - 1 ∧ l[l.length - 1]? = some c := by
 rcases List.eq_nil_or_concat l with rfl | ⟨a, c, rfl⟩
 ·simp at h
 ·exact ⟨a, c, List.concat_eq_append, by simp, by simp⟩

theorem ln_each : ∀ (n : Nat) (l : List UInt8), l.length ≤ n → ∀ x ∈ ln l, x.length ≤ l.length
 | 0, l, h => by have : l = [] := List.eq_nil_of_length_eq_zero (by omega); subst this; simp [ln_nil]
 | n + 1, l, h => by
  intro x hx
  by_cases hl : l = []
  ·subst hl; simp [ln_nil] at hx
  ·have h1 := aft_lt l hl
   rw [ln_cons l hl] at hx
   rcases List.mem_cons.1 hx with rfl | hx
   ·have := ended_len (bef l); have := bef_le l; omega
   ·have := ln_each n (aft l) (by omega) x hx; omega
theorem linesOf_each (l : List UInt8) (h : l.length ≤ 65536) : ∀ x ∈ linesOf l, x.length ≤ 65536 := by
 intro x hx
 have h1 := ln_each _ (unmark l) (Nat.le_refl _) x hx
 have h2 := unmark_le l
 omega

theorem mark_true (s : ByteArray) (h : Lib.hasPrefix s.data.toList mark = true) : ∃ h3 : 3 ≤ s.size, s[0] = 239 ∧ s[1] = 187 ∧ s[2] = 191 := by
 have hp : mark <+: s.data.toList := List.isPrefixOf_iff_prefix.1 h
 obtain ⟨t, ht⟩ := hp
 have hlen : 3 ≤ s.size := by
  have := congrArg List.length ht
  simp [mark] at this
  omega
 have g : ∀ (j : Nat) (hj : j < s.size), s.data.toList[j]? = some s[j] := fun j hj => List.getElem?_eq_getElem (by simpa using hj)
 refine ⟨hlen, ?_, ?_, ?_⟩
 ·have := g 0 (by omega); rw [← ht] at this; simpa [mark] using this.symm
 ·have := g 1 (by omega); rw [← ht] at this; simpa [mark] using this.symm
 ·have := g 2 (by omega); rw [← ht] at this; simpa [mark] using this.symm
theorem mark_of (s : ByteArray) (h3 : 3 ≤ s.size) (h0 : s[0] = 239) (h1 : s[1] = 187) (h2 : s[2] = 191) : Lib.hasPrefix s.data.toList mark = true := by
 apply List.isPrefixOf_iff_prefix.2
 refine ⟨s.data.toList.drop 3, ?_⟩
 apply List.ext_getElem?
 intro j
 have g : ∀ (j : Nat) (hj : j < s.size), s.data.toList[j]? = some s[j] := fun j hj => List.getElem?_eq_getElem (by simpa using hj)
 match j with
 | 0 => rw [g 0 (by omega), h0]; rfl
 | 1 => rw [g 1 (by omega), h1]; rfl
 | 2 => rw [g 2 (by omega), h2]; rfl
 | k + 3 => simp [mark, Nat.add_comm]
theorem mark_false (s : ByteArray) (h : Lib.hasPrefix s.data.toList mark = false) : s.size < 3 ∨ ∃ h3 : 3 ≤ s.size, ¬ s[0] = 239 ∨ (s[0] = 239 ∧ ¬ s[1] = 187) ∨ (s[0] = 239 ∧ s[1] = 187 ∧ ¬ s[2] = 191) := by
 by_cases h3 : 3 ≤ s.size
 ·right
  refine ⟨h3, ?_⟩
  by_cases h0 : s[0] = 239
  ·by_cases h1 : s[1] = 187
   ·by_cases h2 : s[2] = 191
    ·rw [mark_of s h3 h0 h1 h2] at h; cases h
    ·exact .inr (.inr ⟨h0, h1, h2⟩)
   ·exact .inr (.inl ⟨h0, h1⟩)
  ·exact .inl h0
 ·left; omega
theorem unmark_yes (s : ByteArray) (h : Lib.hasPrefix s.data.toList mark = true) : unmark s.data.toList = (s.extract 3 s.size).data.toList := by
 unfold unmark Lib.trimPrefix
 rw [if_pos h, Lib.extract_data]
 rw [List.take_of_length_le (by simp)]
 rfl
theorem unmark_no (s : ByteArray) (h : Lib.hasPrefix s.data.toList mark = false) : unmark s.data.toList = s.data.toList := by
 unfold unmark Lib.trimPrefix
 rw [h]
 rfl
theorem byte_eq (c d : UInt8) (h : c = d) : ((c.toNat : Int) == (d.toNat : Int)) = true := by rw [h]; simp
theorem byte_ne (c d : UInt8) (h : ¬ c = d) : ((c.toNat : Int) == (d.toNat : Int)) = false := by
 rw [beq_eq_false_iff_ne]
 intro e
 apply h
 apply UInt8.toNat_inj.1
 omega
end Go.Proofs.YtidhbhdcoanfcaaGreatDoor.Ln
namespace Go.Proofs.YtidhbhdcoanfcaaGreatDoor.Rw

def rem (f : List UInt8) : Bool := Lib.hasPrefix f [35]
def keep (fs : List (List UInt8)) : List (List UInt8) := fs.takeWhile fun f => !rem f
def rowOf (k : Nat) (l : List UInt8) : List (Nat × List (List UInt8)) := if (keep (Fld.fieldsOf l)).isEmpty then [] else [(k, keep (Fld.fieldsOf l))]
def rowsP (P : List (Nat × ByteArray)) : List (Nat × List (List UInt8)) := P.flatMap fun x => rowOf x.1 x.2.data.toList
def rowsOf (l : List UInt8) : List (Nat × List (List UInt8)) := rowsP (Ln.items l)
theorem rowsP_snoc (P : List (Nat × ByteArray)) (x : Nat × ByteArray) : rowsP (P ++ [x]) = rowsP P ++ rowOf x.1 x.2.data.toList := by simp [rowsP]
theorem rowOf_len (k : Nat) (l : List UInt8) : (rowOf k l).length ≤ 1 := by unfold rowOf; split <;> simp
theorem rowsP_len (P : List (Nat × ByteArray)) : (rowsP P).length ≤ P.length := by
 refine Fld.snoc_ind (P := fun P => (rowsP P).length ≤ P.length) (by simp [rowsP]) ?_ P
 intro P x ih
 rw [rowsP_snoc]
 have := rowOf_len x.1 x.2.data.toList
 simp
 omega
theorem str_data (l : List UInt8) : (Fld.str l).data.toList = l := by simp [Fld.str]

theorem closed_ne (l : List UInt8) : ∀ f ∈ (Fld.st l).1, f ≠ [] := by
 refine Fld.snoc_ind (P := fun l => ∀ f ∈ (Fld.st l).1, f ≠ []) (by simp [Fld.st]) ?_ l
 intro l c ih f hf
 rw [Fld.st_snoc] at hf
 unfold Fld.stp at hf
 split at hf
 ·split at hf
  ·exact ih f hf
  ·rename_i h
   simp at hf
   rcases hf with hf | hf
   ·exact ih f hf
   ·subst hf
    intro e
    rw [e] at h
    exact h rfl
 ·exact ih f hf
theorem fields_ne (l : List UInt8) : ∀ f ∈ Fld.fieldsOf l, f ≠ [] := by
 intro f hf
 unfold Fld.fieldsOf Fld.fin at hf
 split at hf
 ·exact closed_ne l f hf
 ·rename_i h
  simp at hf
  rcases hf with hf | hf
  ·exact closed_ne l f hf
  ·subst hf
   intro e
   rw [e] at h
   exact h rfl

theorem keep_le (fs : List (List UInt8)) : (keep fs).length ≤ fs.length := by
 unfold keep
 induction fs with
 | nil => simp
 | cons f t ih =>
  rw [List.takeWhile_cons]
  split
  ·simp; omega
  ·simp
theorem keep_take (fs : List (List UInt8)) : keep fs = fs.take (keep fs).length := by
 unfold keep
 induction fs with
 | nil => simp
 | cons f t ih =>
  rw [List.takeWhile_cons]
  split
  ·simp only [List.length_cons, List.take_succ_cons]
   rw [← ih]
  ·simp
theorem keep_lt (fs : List (List UInt8)) (n : Nat) (h : n < (keep fs).length) : ∃ f, fs[n]? = some f ∧ rem f = false := by
 unfold keep at h
 induction fs generalizing n with
 | nil => simp at h
 | cons f t ih =>
  rw [List.takeWhile_cons] at h
  split at h
  ·rename_i hf
   cases n with
   | zero => exact ⟨f, by simp, by simpa using hf⟩
   | succ n =>
    obtain ⟨g, hg, hr⟩ := ih n (by simpa using h)
    exact ⟨g, by simpa using hg, hr⟩
  ·simp at h
theorem keep_at (fs : List (List UInt8)) (h : (keep fs).length < fs.length) : ∃ f, fs[(keep fs).length]? = some f ∧ rem f = true := by
 unfold keep at h ⊢
 induction fs with
 | nil => simp at h
 | cons f t ih =>
  rw [List.takeWhile_cons] at h ⊢
  split
  ·rename_i hf
   rw [if_pos hf] at h
   obtain ⟨g, hg, hr⟩ := ih (by simpa using h)
   exact ⟨g, by simpa using hg, hr⟩
  ·rename_i hf
   exact ⟨f, by simp, by simpa using hf⟩
theorem keep_lt_of (fs : List (List UInt8)) (n : Nat) (hn : n ≤ (keep fs).length) (f : List UInt8) (hf : fs[n]? = some f) (hr : rem f = false) : n < (keep fs).length := by
 rcases Nat.lt_or_ge n (keep fs).length with h | h
 ·exact h
 ·have e : n = (keep fs).length := by omega
  subst e
  have hlt : (keep fs).length < fs.length := (List.getElem?_eq_some_iff.1 hf).1
  obtain ⟨g, hg, hr2⟩ := keep_at fs hlt
  rw [hf] at hg
  cases hg
  rw [hr] at hr2
  cases hr2
theorem keep_end (fs : List (List UInt8)) (n : Nat) (hn : n ≤ (keep fs).length) (f : List UInt8) (hf : fs[n]? = some f) (hr : rem f = true) : n = (keep fs).length := by
 rcases Nat.lt_or_ge n (keep fs).length with h | h
 ·obtain ⟨g, hg, hr2⟩ := keep_lt fs n h
  rw [hf] at hg
  cases hg
  rw [hr] at hr2
  cases hr2
 ·omega
theorem rem_head (f : List UInt8) (c : UInt8) (t : List UInt8) (h : f = c :: t) : rem f = decide (c = 35) := by
 subst h
 unfold rem Lib.hasPrefix
 simp only [List.isPrefixOf, Bool.and_true]
 by_cases hc : c = 35
 ·simp [hc]
 ·simp [hc, Ne.symm hc]
end Go.Proofs.YtidhbhdcoanfcaaGreatDoor.Rw
namespace Go.Proofs.YtidhbhdcoanfcaaGreatDoor
open Go.RowKit
namespace FldW

theorem hide {p : Prop} (h : p) : Hid p := h
theorem unhide {p : Prop} (h : Hid p) : p := h
def vals (L : List (List UInt8)) : List Value := L.map (fun f => Value.string (Fld.str f))
theorem vals_snoc (L : List (List UInt8)) (f : List UInt8) : vals (L ++ [f]) = vals L ++ [.string (Fld.str f)] := by simp [vals]
theorem info9 : (Tryz.prog.info? 9).map (fun i => (i.zero, i.size, i.bytes)) = some (some (.string ByteArray.empty), 1, 16) := by kernel_rfl

theorem below_push {w wr w1 : World} {e : TypeId} {v : Value} {n : Nat} {xs : List Value} {o : Obj} (hown : wr.ownsRow w.heap.size e 1 v n xs) (hB : Below w.heap.size w wr) (hg : (wr.alloc o).grownBy w1 v.ownBlock) : Below w.heap.size w w1 :=
 (hB.alloc hB.size o).grown hg (by have := hB.size; simp; omega) (fun k e => (hown.lt k e).1)

theorem blank_cases (c : UInt8) (h : Fld.blank c = true) : (((c.toNat : Int) != 32) = false) ∨ (((c.toNat : Int) != 32) = true ∧ ((c.toNat : Int) != 9) = false) := by
 simp only [Fld.blank, Bool.or_eq_true, beq_iff_eq] at h
 rcases h with h | h
 ·left; rw [h]; rfl
 ·right; rw [h]; exact ⟨rfl, rfl⟩
theorem plain_of (c : UInt8) (h : Fld.blank c = false) : ((c.toNat : Int) != 32) = true ∧ ((c.toNat : Int) != 9) = true := by
 simp only [Fld.blank, Bool.or_eq_false_iff, beq_eq_false_iff_ne] at h
 constructor <;> (rw [bne_iff_ne]; omega)

theorem fields_any (s : ByteArray) (w : World) (hs : s.size * 16 ≤ 140737488355328) :
  Calls Tryz.prog 89 #[.string s] w fun e w' => ∃ v, e = .returned v ∧ w'.ownsRow w.heap.size 9 1 v (Fld.fieldsOf s.data.toList).length (vals (Fld.fieldsOf s.data.toList)) ∧ Below w.heap.size w w' := by
 obtain ⟨i0, hi, hz0, hz1, hz2⟩ := info_parts info9
 go_enter Tryz.func89, Tryz.ntmps89
 go_wp2
 go_loopw [3, 4, 5] (fun v a i wr => ∃ k : Nat, k ≤ s.size ∧ i = .int .i64 k ∧ a = .int .i64 ((k - Fld.op (Fld.pre s k) : Nat) : Int) ∧ wr.ownsRow w.heap.size 9 1 v (Fld.closed (Fld.pre s k)).length (vals (Fld.closed (Fld.pre s k))) ∧ Below w.heap.size w wr) (fun _ _ i _ => s.size - (intOf i).toNat)
 case atStart => exact ⟨0, Nat.zero_le _, rfl, rfl, World.ownsRow_nil _ _ _ _, Below.refl _ _⟩
 case round =>
  obtain ⟨k, hk, rfl, rfl, hown, hB⟩ := hrel
  have hol := Fld.closed_le s k hk
  have HP := hide (Fld.piece s k hk)
  by_cases hlt : k < s.size
  ·cases hb : Fld.blank s[k] with
   | false =>
    have HST := hide (Fld.step_plain s k hlt hb)
    obtain ⟨h32, h9⟩ := plain_of _ hb
    generalize hkk : k - Fld.op (Fld.pre s k) = a at *
    have hE : k + 1 - Fld.op (Fld.pre s (k + 1)) = a := by rw [(unhide HST).2, ← hkk]; omega
    have HE := hide hE
    clear hkk hb hE
    go_wp2
    go_roundw
    case rel => exact ⟨k + 1, by omega, by go_num, by rw [unhide HE], by rw [(unhide HST).1]; exact hown, hB⟩
    case measure => simp [intOf]; omega
   | true =>
    have HST := hide (Fld.step_blank s k hlt hb)
    have HZ := hide (Fld.fields_zero s k)
    have HQ := hide (Fld.fields_pos s k)
    have hop : Fld.op (Fld.pre s k) ≤ k := Fld.op_le s k hk
    generalize hoo : Fld.op (Fld.pre s k) = o at *
    have HOO := hide hoo
    clear hoo
    have hbc := blank_cases _ hb
    clear hb
    by_cases ho : o = 0
    ·have HZ2 := hide (unhide HZ ho)
     clear HZ HQ
     subst ho
     have e0 : k - 0 = k := rfl
     rw [e0]
     clear e0
     rcases hbc with h32 | ⟨h32, h9⟩
     all_goals
      go_wp2
      go_roundw
      case rel => exact ⟨k + 1, by omega, by go_num, by rw [(unhide HST).2]; go_num, by rw [(unhide HST).1, unhide HZ2]; exact hown, hB⟩
      case measure => simp [intOf]; omega
    ·generalize hkk : k - o = a at *
     have hak : (a : Int) < (k : Int) := by omega
     have hak2 : a ≤ k := by omega
     have hop2 : 0 < o := by omega
     have HC : Hid (Fld.closed (Fld.pre s (k + 1)) = Fld.closed (Fld.pre s k) ++ [(Fld.st (Fld.pre s k)).2]) := by
      show Fld.closed (Fld.pre s (k + 1)) = Fld.closed (Fld.pre s k) ++ [(Fld.st (Fld.pre s k)).2]
      rw [(unhide HST).1, unhide HQ hop2]
     clear hkk ho HQ HZ
     rcases hbc with h32 | ⟨h32, h9⟩
     all_goals
      go_wp2_with (at_builtin; refine wpList_append_own _ rfl _ _ 23 rfl w.heap.size 9 i0 (.string ByteArray.empty) 1 16 Tryz.underlying23 hi hz0 hz1 hz2 rfl (by decide) _ _ _ rfl (hown.alloc _) ⟨wr.heap.size, 0, none⟩ 1 1 [.string (s.extract a k)] rfl rfl (cell_one_new _ _ _) (fun x hx => by simp at hx; subst hx; rfl) (by unfold maxLen; omega) (by omega) (by have := hB.size; simp; omega) ?_; intro v' w1 hown' hgrow _)
      have HB1 := hide (below_push hown hB hgrow)
      have HO1 : Hid (w1.ownsRow w.heap.size 9 1 v' (Fld.closed (Fld.pre s (k + 1))).length (vals (Fld.closed (Fld.pre s (k + 1))))) := by
       show w1.ownsRow w.heap.size 9 1 v' (Fld.closed (Fld.pre s (k + 1))).length (vals (Fld.closed (Fld.pre s (k + 1))))
       rw [unhide HC, vals_snoc, List.length_append, ← unhide HP]
       exact hown'
      clear hown' hgrow hown hB
      go_wp2
      go_roundw
      case rel => exact ⟨k + 1, by omega, by go_num, by rw [(unhide HST).2]; go_num, unhide HO1, unhide HB1⟩
      case measure => simp [intOf]; omega
  ·have hkz : k = s.size := by omega
   have HF := hide (Fld.fields_full s k (by omega))
   have HZ := hide (Fld.fields_zero s k)
   have HQ := hide (Fld.fields_pos s k)
   have hop : Fld.op (Fld.pre s k) ≤ k := Fld.op_le s k hk
   generalize hoo : Fld.op (Fld.pre s k) = o at *
   clear hoo
   by_cases ho : o = 0
   ·have HZ2 := hide (unhide HZ ho)
    clear HZ HQ
    subst ho
    have e0 : k - 0 = k := rfl
    rw [e0]
    clear e0 hkz
    have hge : ¬ ((k : Int) < (s.size : Int)) := by omega
    go_wp2
    go_ret
    exact ⟨_, rfl, by rw [← unhide HF, unhide HZ2]; exact hown, hB⟩
   ·generalize hkk : k - o = a at *
    have hak : (a : Int) < (s.size : Int) := by omega
    have hop2 : 0 < o := by omega
    have hak2 : a ≤ s.size := by omega
    subst hkz
    clear hkk ho HZ
    go_wp2_with (at_builtin; refine wpList_append_own _ rfl _ _ 23 rfl w.heap.size 9 i0 (.string ByteArray.empty) 1 16 Tryz.underlying23 hi hz0 hz1 hz2 rfl (by decide) _ _ _ rfl (hown.alloc _) ⟨wr.heap.size, 0, none⟩ 1 1 [.string (s.extract a s.size)] rfl rfl (cell_one_new _ _ _) (fun x hx => by simp at hx; subst hx; rfl) (by unfold maxLen; omega) (by omega) (by have := hB.size; simp; omega) ?_; intro v' w1 hown' hgrow _)
    have HB1 := hide (below_push hown hB hgrow)
    have HO1 : Hid (w1.ownsRow w.heap.size 9 1 v' (Fld.fieldsOf s.data.toList).length (vals (Fld.fieldsOf s.data.toList))) := by
     show w1.ownsRow w.heap.size 9 1 v' (Fld.fieldsOf s.data.toList).length (vals (Fld.fieldsOf s.data.toList))
     rw [← unhide HF, unhide HQ hop2, vals_snoc, List.length_append, ← unhide HP]
     exact hown'
    clear hown' hgrow hown hB
    go_wp2
    go_ret
    exact ⟨_, rfl, unhide HO1, unhide HB1⟩
end FldW
namespace Same
open FldW

def IsStrs (w : World) (v : Value) (L : List ByteArray) : Prop :=
 ∃ ao cap, v = .slice ao L.length cap ∧ L.length ≤ maxLen ∧ (L = [] ∨ ∃ g off, ao = some ⟨g, off, none⟩ ∧ ∀ j x, L[j]? = some x → w.cell? ⟨g, off + j, none⟩ = some (.string x))
theorem owns_below {w w' : World} {base : Nat} {e : TypeId} {size : Nat} {v : Value} {n : Nat} {xs : List Value} (h : w.ownsRow base e size v n xs) (hB : Below w.heap.size w w') : w'.ownsRow base e size v n xs := by
 obtain ⟨hl, h | ⟨g, cap, cur, rfl, hg, hh, hr⟩⟩ := h
 ·exact ⟨hl, .inl h⟩
 ·refine ⟨hl, .inr ⟨g, cap, cur, rfl, hg, ?_, hr⟩⟩
  rw [hB.block g (Array.getElem?_eq_some_iff.1 hh).1]
  exact hh

end Same
namespace RowB
open FldW

def StrRow (n₀ : Nat) (W : World) (v : Value) (L : List ByteArray) : Prop :=
 ∃ g cap cur, v = .slice (some ⟨g, 0, none⟩) L.length cap ∧ n₀ ≤ g ∧ W.heap[g]? = some (.cells cur 9 (0, 0)) ∧ L.length ≤ cap ∧ cap ≤ maxLen ∧ cap ≤ cur.size ∧ cur.toList.take L.length = L.map Value.string
def Keep9 (W W' : World) : Prop := ∀ (g : Nat) (cur : Array Value), W.heap[g]? = some (.cells cur 9 (0, 0)) → W'.heap[g]? = some (.cells cur 9 (0, 0))
theorem StrRow.kept {n₀ : Nat} {W W' : World} {v : Value} {L : List ByteArray} (h : StrRow n₀ W v L) (k : Keep9 W W') : StrRow n₀ W' v L := by
 obtain ⟨g, cap, cur, e, hg, hh, r⟩ := h
 exact ⟨g, cap, cur, e, hg, k g cur hh, r⟩
theorem StrRow.mono {n₀ n₁ : Nat} {W : World} {v : Value} {L : List ByteArray} (h : StrRow n₀ W v L) (k : n₁ ≤ n₀) : StrRow n₁ W v L := by
 obtain ⟨g, cap, cur, e, hg, r⟩ := h
 exact ⟨g, cap, cur, e, Nat.le_trans k hg, r⟩
theorem Keep9.refl (W : World) : Keep9 W W := fun _ _ h => h
theorem Keep9.trans {A B C : World} (h : Keep9 A B) (k : Keep9 B C) : Keep9 A C := fun g cur x => k g cur (h g cur x)
theorem Keep9.below {W W' : World} (h : Below W.heap.size W W') : Keep9 W W' := fun g _ x => (h.block g (Array.getElem?_eq_some_iff.1 x).1).trans x
theorem Keep9.alloc (W : World) (o : Obj) : Keep9 W (W.alloc o) := Keep9.below ((Below.refl _ _).alloc (Nat.le_refl _) _)
theorem Keep9.drewN (W : World) (n : Nat) : Keep9 W (W.drewN n) := fun _ _ h => h
theorem Keep9.grown {W W' : World} {row : Option Nat} (hg : W.grownBy W' row) (hr : ∀ r, row = some r → ∀ cur, W.heap[r]? ≠ some (.cells cur 9 (0, 0))) : Keep9 W W' := fun g cur x =>
 (hg.block g (Array.getElem?_eq_some_iff.1 x).1 (fun e => hr g e.symm cur x)).trans x
theorem Keep9.grown_own {W W' : World} {n₀ : Nat} {e : TypeId} {z : Nat} {v : Value} {n : Nat} {xs : List Value} (h : W.ownsRow n₀ e z v n xs) (he : e ≠ 9) (hg : W.grownBy W' v.ownBlock) : Keep9 W W' := by
 refine Keep9.grown hg ?_
 intro r hr cur hx
 obtain ⟨_, ⟨rfl, _⟩ | ⟨g, cap, c, rfl, _, hh, _⟩⟩ := h
 ·cases hr
 ·obtain rfl : g = r := by simpa [Value.ownBlock] using hr
  rw [hh] at hx
  have := Option.some.inj hx
  injection this with _ h2 _
  exact he h2
theorem Keep9.box {W : World} {B : Nat} {t : TypeId} {v : Value} (h : Boxed W B t v) (ht : t ≠ 9) (u : Value) : Keep9 W (W.setCell ⟨B, 0, none⟩ u) := by
 refine Keep9.grown (grownBy_setCell' W B u) ?_
 intro r hr cur hx
 obtain rfl : B = r := by simpa using hr
 rw [show W.heap[B]? = _ from h] at hx
 have := Option.some.inj hx
 injection this with _ h2 _
 exact ht h2
theorem strRow_of_owns {W : World} {n₀ : Nat} {v : Value} {L : List (List UInt8)} (h : W.ownsRow n₀ 9 1 v L.length (vals L)) (h0 : L ≠ []) : StrRow n₀ W v (L.map Fld.str) := by
 obtain ⟨hl, ⟨rfl, h1⟩ | ⟨g, cap, cur, rfl, hg, hh, hc1, hm, hsz, htk⟩⟩ := h
 ·exact absurd (List.eq_nil_of_length_eq_zero h1) h0
 ·refine ⟨g, cap, cur, by simp, hg, hh, by simpa using hc1, hm, by omega, ?_⟩
  rw [List.length_map, List.map_map]
  rw [Nat.mul_one] at htk
  exact htk
theorem isStrs_of_row {W : World} {n₀ : Nat} {v : Value} {L : List ByteArray} (h : StrRow n₀ W v L) : Same.IsStrs W v L := by
 obtain ⟨g, cap, cur, rfl, hg, hh, hc, hm, hz, ht⟩ := h
 refine ⟨_, cap, rfl, by omega, .inr ⟨g, 0, rfl, fun j x hj => ?_⟩⟩
 have h1 : (cur.toList.take L.length)[j]? = some (.string x) := by rw [ht]; simp [hj]
 have hjl : j < L.length := (List.getElem?_eq_some_iff.1 hj).1
 rw [List.getElem?_take, if_pos hjl] at h1
 simp only [World.cell?, hh, Nat.zero_add]
 simpa using h1

def Fits (n₀ : Nat) (W : World) : List (Nat × Value) → List (Nat × List (List UInt8)) → Prop
 | [], [] => True
 | e :: E, r :: R => (e.1 = r.1 ∧ StrRow n₀ W e.2 (r.2.map Fld.str)) ∧ Fits n₀ W E R
 | _, _ => False
theorem Fits.kept {n₀ : Nat} {W W' : World} (k : Keep9 W W') : ∀ {E : List (Nat × Value)} {R : List (Nat × List (List UInt8))}, Fits n₀ W E R → Fits n₀ W' E R
 | [], [], _ => trivial
 | _ :: _, _ :: _, ⟨⟨h1, h2⟩, h3⟩ => ⟨⟨h1, h2.kept k⟩, Fits.kept k h3⟩
theorem Fits.snoc {n₀ : Nat} {W : World} {e : Nat × Value} {r : Nat × List (List UInt8)} (h1 : e.1 = r.1) (h2 : StrRow n₀ W e.2 (r.2.map Fld.str)) : ∀ {E : List (Nat × Value)} {R : List (Nat × List (List UInt8))}, Fits n₀ W E R → Fits n₀ W (E ++ [e]) (R ++ [r])
 | [], [], _ => ⟨⟨h1, h2⟩, trivial⟩
 | _ :: _, _ :: _, ⟨h3, h4⟩ => ⟨h3, Fits.snoc h1 h2 h4⟩
theorem Fits.length {n₀ : Nat} {W : World} : ∀ {E : List (Nat × Value)} {R : List (Nat × List (List UInt8))}, Fits n₀ W E R → E.length = R.length
 | [], [], _ => rfl
 | _ :: _, _ :: _, ⟨_, h4⟩ => by simp [Fits.length h4]
theorem Fits.get {n₀ : Nat} {W : World} : ∀ {E : List (Nat × Value)} {R : List (Nat × List (List UInt8))}, Fits n₀ W E R → ∀ (j : Nat) e, E[j]? = some e → ∃ r, R[j]? = some r ∧ e.1 = r.1 ∧ StrRow n₀ W e.2 (r.2.map Fld.str)
 | [], [], _, j, e, h => by simp at h
 | _ :: _, r :: _, ⟨h3, h4⟩, j, e, h => by
  cases j with
  | zero => simp at h; subst h; exact ⟨r, by simp, h3⟩
  | succ j => simpa using Fits.get h4 j e (by simpa using h)
theorem Fits.blocks {n₀ : Nat} {W : World} {E : List (Nat × Value)} {R : List (Nat × List (List UInt8))} (h : Fits n₀ W E R) : ∀ b ∈ E.map (fun e => e.2.ownBlock), ∃ g, b = some g ∧ n₀ ≤ g ∧ g < W.heap.size := by
 intro b hb
 obtain ⟨e, he, rfl⟩ := List.mem_map.1 hb
 obtain ⟨j, hj, hje⟩ := List.getElem_of_mem he
 obtain ⟨r, _, _, g, cap, cur, e2, hg, hh, _⟩ := h.get j e (by rw [List.getElem?_eq_getElem hj, hje])
 rw [e2]
 exact ⟨g, rfl, hg, (Array.getElem?_eq_some_iff.1 hh).1⟩
theorem Fits.low {n₀ n₁ : Nat} {W : World} (k : n₁ ≤ n₀) : ∀ {E : List (Nat × Value)} {R : List (Nat × List (List UInt8))}, Fits n₀ W E R → Fits n₁ W E R
 | [], [], _ => trivial
 | _ :: _, _ :: _, ⟨⟨h1, h2⟩, h3⟩ => ⟨⟨h1, h2.mono k⟩, Fits.low k h3⟩
theorem owns_low {w : World} {n₀ n₁ : Nat} {e : TypeId} {size : Nat} {v : Value} {n : Nat} {xs : List Value} (h : w.ownsRow n₀ e size v n xs) (k : n₁ ≤ n₀) : w.ownsRow n₁ e size v n xs := by
 obtain ⟨hl, h | ⟨g, cap, cur, rfl, hg, r⟩⟩ := h
 ·exact ⟨hl, .inl h⟩
 ·exact ⟨hl, .inr ⟨g, cap, cur, rfl, Nat.le_trans k hg, r⟩⟩
def cellsE (E : List (Nat × Value)) : List Value := E.flatMap fun p => [.int .i64 (p.1 : Int), p.2]
theorem cellsE_snoc (E : List (Nat × Value)) (e : Nat × Value) : cellsE (E ++ [e]) = cellsE E ++ [.int .i64 (e.1 : Int), e.2] := by simp [cellsE]
theorem cellsE_get (E : List (Nat × Value)) : ∀ (j : Nat) e, E[j]? = some e → (cellsE E)[2 * j]? = some (.int .i64 (e.1 : Int)) ∧ (cellsE E)[2 * j + 1]? = some e.2 := by
 induction E with
 | nil => intro j e h; simp at h
 | cons x E ih =>
  intro j e h
  have ec : cellsE (x :: E) = .int .i64 (x.1 : Int) :: x.2 :: cellsE E := rfl
  rw [ec]
  cases j with
  | zero => simp at h; subst h; exact ⟨rfl, rfl⟩
  | succ j =>
   have := ih j e (by simpa using h)
   rw [show 2 * (j + 1) = 2 * j + 1 + 1 from by omega]
   simpa using this

def Exact (eR : TypeId) (E : List (Nat × Value)) : Prop := eR = 135 → ∀ e ∈ E, ∃ g n, e.2 = .slice (some ⟨g, 0, none⟩) n n
theorem Exact.nil (eR : TypeId) : Exact eR [] := fun _ e h => by cases h
theorem Exact.snoc {eR : TypeId} {E : List (Nat × Value)} {e : Nat × Value} (h : Exact eR E) (k : eR = 135 → ∃ g n, e.2 = .slice (some ⟨g, 0, none⟩) n n) : Exact eR (E ++ [e]) := fun he x hx => by
 rcases List.mem_append.1 hx with hx | hx
 ·exact h he x hx
 ·simp at hx; subst hx; exact k he
def RowsAre (n₀ : Nat) (eR : TypeId) (W : World) (v : Value) (R : List (Nat × List (List UInt8))) : Prop :=
 ∃ E : List (Nat × Value), Fits n₀ W E R ∧ W.ownsRow n₀ eR 2 v E.length (cellsE E) ∧ (E.map fun e => e.2.ownBlock).Nodup ∧ Exact eR E
theorem RowsAre.below {n₀ : Nat} {eR : TypeId} {W W' : World} {v : Value} {R : List (Nat × List (List UInt8))} (h : RowsAre n₀ eR W v R) (hB : Below W.heap.size W W') : RowsAre n₀ eR W' v R := by
 obtain ⟨E, h1, h2, h3⟩ := h
 exact ⟨E, h1.kept (Keep9.below hB), Same.owns_below h2 hB, h3⟩
theorem nodup_snoc {α : Type} {l : List α} {a : α} (h : l.Nodup) (ha : a ∉ l) : (l ++ [a]).Nodup := by
 rw [List.nodup_append]
 exact ⟨h, by simp, fun x hx y hy e => by simp at hy; subst hy; subst e; exact ha hx⟩
end RowB
namespace Byt
open FldW

def bytes (l : List UInt8) : List Value := l.map fun b => Value.int .u8 (b.toNat : Int)
theorem bytes_snoc (l : List UInt8) (c : UInt8) : bytes (l ++ [c]) = bytes l ++ [.int .u8 (c.toNat : Int)] := by simp [bytes]
theorem info5 : (Tryz.prog.info? 5).map (fun i => (i.zero, i.size, i.bytes)) = some (some (.int .u8 0), 1, 1) := by kernel_rfl

theorem add_zero_off (g j : Nat) : (⟨g, 0, none⟩ : Addr).add j = ⟨g, j, none⟩ := by
 unfold Addr.add
 split
 ·rename_i h; subst h; rfl
 ·simp
theorem owns_cells {w : World} {B : Nat} {v : Value} {L : List UInt8} (h : w.ownsRow B 5 1 v L.length (bytes L)) (h0 : 0 < L.length) :
  ∃ g cap, v = .slice (some ⟨g, 0, none⟩) L.length cap ∧ g < w.heap.size ∧ ∀ j x, L[j]? = some x → w.cell? ⟨g, j, none⟩ = some (.int .u8 (x.toNat : Int)) := by
 have hc := h
 obtain ⟨hl, ⟨rfl, h1⟩ | ⟨g, cap, cur, rfl, hg, hh, hc1, hm, hsz, htk⟩⟩ := h
 ·omega
 ·refine ⟨g, cap, rfl, (Array.getElem?_eq_some_iff.1 hh).1, fun j x hj => ?_⟩
  have := hc.cells (g := g) rfl j (.int .u8 (x.toNat : Int)) (by simp [bytes, hj])
  rwa [add_zero_off] at this
theorem conv_owns {w : World} {B : Nat} {v : Value} {L : List UInt8} (h : w.ownsRow B 5 1 v L.length (bytes L)) :
  (convert 104 9 v).run Tryz.prog w = .ok (.string ⟨L.toArray⟩) w := by
 by_cases h0 : 0 < L.length
 ·obtain ⟨g, cap, rfl, _, hcell⟩ := owns_cells h h0
  exact run_convert_bytes_back w 104 9 5 ⟨g, 0, none⟩ cap L Tryz.underlying104 Tryz.underlying5 Tryz.underlying9 (fun j hj => by rw [add_zero_off]; exact hcell j _ (List.getElem?_eq_getElem hj))
 ·have : L = [] := List.eq_nil_of_length_eq_zero (by omega)
  subst this
  obtain ⟨hl, ⟨rfl, h1⟩ | ⟨g, cap, cur, rfl, hg, hh, hc1, hm, hsz, htk⟩⟩ := h
  ·exact run_convert_bytes_nil w 104 5 Tryz.underlying104 Tryz.underlying5 0 0 9 Tryz.underlying9
  ·exact run_convert_bytes_back w 104 9 5 ⟨g, 0, none⟩ cap [] Tryz.underlying104 Tryz.underlying5 Tryz.underlying9 (fun j hj => absurd hj (by simp))

theorem owns_ne {w : World} {B1 B2 : Nat} {e1 e2 : TypeId} {z1 z2 : Nat} {v1 v2 : Value} {n1 n2 : Nat} {x1 x2 : List Value} (h1 : w.ownsRow B1 e1 z1 v1 n1 x1) (h2 : w.ownsRow B2 e2 z2 v2 n2 x2) (he : e1 ≠ e2) : v1.ownBlock = none ∨ v1.ownBlock ≠ v2.ownBlock := by
 obtain ⟨_, ⟨rfl, _⟩ | ⟨g, cap, cur, rfl, hg, hh, _⟩⟩ := h1
 ·exact .inl rfl
 ·right
  obtain ⟨_, ⟨rfl, _⟩ | ⟨g', cap', cur', rfl, hg', hh', _⟩⟩ := h2
  ·intro e; cases e
  ·intro e
   obtain rfl : g = g' := by simpa [Value.ownBlock] using e
   rw [hh] at hh'
   have := Option.some.inj hh'
   injection this with _ h2 _
   exact he h2
end Byt
namespace LnR
open FldW Byt

theorem marked_any (s : ByteArray) (w : World) (hs : s.size ≤ maxLen) : Calls Tryz.prog 10 #[.string s] w fun e w' => e = .returned (.bool (Lib.hasPrefix s.data.toList Ln.mark)) ∧ w' = w := by
 unfold maxLen at hs
 cases hp : Lib.hasPrefix s.data.toList Ln.mark with
 | true =>
  obtain ⟨h3, h0, h1, h2⟩ := Ln.mark_true s hp
  have g0 : ((s[0].toNat : Int) == 239) = true := Ln.byte_eq _ 239 h0
  have g1 : ((s[1].toNat : Int) == 187) = true := Ln.byte_eq _ 187 h1
  have g2 : ((s[2].toNat : Int) == 191) = true := Ln.byte_eq _ 191 h2
  have h4 : (3 : Int) ≤ (s.size : Int) := by omega
  clear hp h0 h1 h2
  go_enter Tryz.func10, Tryz.ntmps10
  go_wp2
  go_ret
  exact ⟨rfl, rfl⟩
 | false =>
  rcases Ln.mark_false s hp with h3 | ⟨h3, h0 | ⟨h0, h1⟩ | ⟨h0, h1, h2⟩⟩
  ·have h4 : ¬ (3 : Int) ≤ (s.size : Int) := by omega
   clear hp
   go_enter Tryz.func10, Tryz.ntmps10
   go_wp2
   go_ret
   exact ⟨rfl, rfl⟩
  ·have g0 : ((s[0].toNat : Int) == 239) = false := Ln.byte_ne _ 239 h0
   have h4 : (3 : Int) ≤ (s.size : Int) := by omega
   clear hp h0
   go_enter Tryz.func10, Tryz.ntmps10
   go_wp2
   go_ret
   exact ⟨rfl, rfl⟩
  ·have g0 : ((s[0].toNat : Int) == 239) = true := Ln.byte_eq _ 239 h0
   have g1 : ((s[1].toNat : Int) == 187) = false := Ln.byte_ne _ 187 h1
   have h4 : (3 : Int) ≤ (s.size : Int) := by omega
   clear hp h0 h1
   go_enter Tryz.func10, Tryz.ntmps10
   go_wp2
   go_ret
   exact ⟨rfl, rfl⟩
  ·have g0 : ((s[0].toNat : Int) == 239) = true := Ln.byte_eq _ 239 h0
   have g1 : ((s[1].toNat : Int) == 187) = true := Ln.byte_eq _ 187 h1
   have g2 : ((s[2].toNat : Int) == 191) = false := Ln.byte_ne _ 191 h2
   have h4 : (3 : Int) ≤ (s.size : Int) := by omega
   clear hp h0 h1 h2
   go_enter Tryz.func10, Tryz.ntmps10
   go_wp2
   go_ret
   exact ⟨rfl, rfl⟩

theorem ended_any (L : List UInt8) (B : Nat) (v : Value) (w : World) (hl : L.length ≤ 65536) (h : w.ownsRow B 5 1 v L.length (Byt.bytes L)) :
  Calls Tryz.prog 55 #[v] w fun e w' => e = .returned (.string (Fld.str (Ln.ended L))) ∧ w' = w := by
 by_cases h0 : 0 < L.length
 ·obtain ⟨a, c, hL, ha, hlast⟩ := Ln.snoc_of h0
  obtain ⟨g, cap, rfl, hg, hcell⟩ := owns_cells h h0
  have hcv := conv_owns h
  have hcl := hcell _ _ hlast
  have hcap : L.length ≤ cap := by
   obtain ⟨_, ⟨e, _⟩ | ⟨g', cap', cur, e, _, _, hc1, _⟩⟩ := h
   ·cases e
   ·injection e with _ _ e3
    omega
  obtain ⟨m, hm⟩ : ∃ m, L.length = m + 1 := ⟨L.length - 1, by omega⟩
  have ham : a.length = m := by omega
  rw [hm] at hcv hcap
  rw [show L.length - 1 = m from by omega] at hcl
  rw [hm] at hl ⊢
  have hcv2 : (convert 104 9 (.slice (some ⟨g, 0, none⟩) m cap)).run Tryz.prog w = .ok (.string ⟨a.toArray⟩) w := by
   have := run_convert_bytes_back w 104 9 5 ⟨g, 0, none⟩ cap a Tryz.underlying104 Tryz.underlying5 Tryz.underlying9 (fun j hj => by
     rw [add_zero_off]
     exact hcell j _ (by rw [hL, List.getElem?_append_left hj]; exact List.getElem?_eq_getElem hj))
   rwa [ham] at this
  by_cases hc : c = 13
  ·rw [Ln.ended_yes hL hc]
   have hcb : ((c.toNat : Int) == 13) = true := Ln.byte_eq _ 13 hc
   clear hcell h hL hlast hc ha ham hm h0 hcv
   go_enter Tryz.func55, Tryz.ntmps55
   go_wp2
   go_ret
   exact ⟨rfl, rfl⟩
  ·rw [Ln.ended_no hL hc]
   have hcb : ((c.toNat : Int) == 13) = false := Ln.byte_ne _ 13 hc
   clear hcell h hL hlast hc ha ham hm h0 hcv2
   go_enter Tryz.func55, Tryz.ntmps55
   go_wp2
   go_ret
   exact ⟨rfl, rfl⟩
 ·have hL : L = [] := List.eq_nil_of_length_eq_zero (by omega)
  subst hL
  have hcv := conv_owns h
  clear h0 hl
  rw [List.length_nil] at h
  obtain ⟨_, ⟨rfl, _⟩ | ⟨g', cap', cur, rfl, _, hh, hc1, hc2⟩⟩ := h
  ·go_enter Tryz.func55, Tryz.ntmps55
   go_wp2
   go_ret
   exact ⟨rfl, rfl⟩
  clear hh hc1 hc2
  all_goals
   go_enter Tryz.func55, Tryz.ntmps55
   go_wp2
   go_ret
   exact ⟨rfl, rfl⟩

theorem lines_any (s : ByteArray) (hs : s.size ≤ 65536) (w : World) :
  Calls Tryz.prog 32 #[.string s] w fun e w' => ∃ v, e = .returned v ∧ w'.ownsRow w.heap.size 9 1 v (Ln.linesOf s.data.toList).length (vals (Ln.linesOf s.data.toList)) ∧ Below w.heap.size w w' := by
 obtain ⟨i5, hi5, hz50, hz51, hz52⟩ := info_parts info5
 obtain ⟨i9, hi9, hz90, hz91, hz92⟩ := info_parts info9
 have hmk := marked_any s w (by unfold maxLen; omega)
 have HMK := hide hmk
 clear hmk
 have HU : Hid (∃ T : ByteArray, T.size ≤ 65536 ∧ Ln.linesOf s.data.toList = Ln.ln T.data.toList ∧ (Lib.hasPrefix s.data.toList Ln.mark = true → 3 ≤ s.size ∧ s.extract 3 s.size = T) ∧ (Lib.hasPrefix s.data.toList Ln.mark = false → s = T)) := by
  cases hp : Lib.hasPrefix s.data.toList Ln.mark with
  | true => exact ⟨s.extract 3 s.size, by simp; omega, by unfold Ln.linesOf; rw [Ln.unmark_yes s hp], fun _ => ⟨(Ln.mark_true s hp).1, rfl⟩, fun h => by cases h⟩
  | false => exact ⟨s, hs, by unfold Ln.linesOf; rw [Ln.unmark_no s hp], fun h => (by cases h), fun _ => rfl⟩
 obtain ⟨T, hT, hLT, hT1, hT2⟩ := unhide HU
 clear HU
 rw [hLT]
 clear hLT
 generalize hp : Lib.hasPrefix s.data.toList Ln.mark = p at *
 clear hp
 cases p
 all_goals
  first
  | (obtain rfl := (hT2 rfl).symm; clear hT1 hT2)
  | (obtain ⟨h3, hTe⟩ := hT1 rfl; clear hT1 hT2)
  go_enter Tryz.func32, Tryz.ntmps32
  go_wp2_with (go_at_call 10; refine (unhide HMK).mono ?_; rintro e w' ⟨rfl, hw⟩; obtain rfl := hw.symm)
  go_loopw [3, 4, 5, 6] (fun out line opn i wr => ∃ k : Nat, k ≤ T.size ∧ i = .int .i64 k ∧ opn = .bool (!(Ln.at_ T k).2.isEmpty) ∧ wr.ownsRow w.heap.size 9 1 out (Ln.at_ T k).1.length (vals (Ln.at_ T k).1) ∧ wr.ownsRow w.heap.size 5 1 line (Ln.at_ T k).2.length (Byt.bytes (Ln.at_ T k).2) ∧ Below w.heap.size w wr) (fun _ _ _ i _ => T.size - (intOf i).toNat)
  case atStart => exact ⟨0, Nat.zero_le _, rfl, rfl, World.ownsRow_nil _ _ _ _, World.ownsRow_made w #[] 0 (Nat.le_refl _) (by simp) rfl, (Below.refl _ _).alloc (Nat.le_refl _) _⟩
  case round =>
   obtain ⟨k, hk, rfl, rfl, hO, hC, hB⟩ := hrel
   have hlen := Ln.at_len T k hk
   have HFE := hide (Ln.feed_at T k)
   have HPL := hide (Ln.plain_at T k)
   have HFU := hide (Ln.at_full T k)
   generalize hD : (Ln.at_ T k).1 = D at *
   generalize hCC : (Ln.at_ T k).2 = C at *
   have HDC : Hid (Ln.at_ T k = (D, C)) := by show Ln.at_ T k = (D, C); rw [← hD, ← hCC]
   clear hD hCC
   by_cases hlt : k < T.size
   ·by_cases hc : T[k] = 10
    ·have hcb : ((T[k].toNat : Int) != 10) = false := by rw [bne, show ((T[k].toNat : Int) == 10) = true from Ln.byte_eq _ 10 hc]; rfl
     have HN := hide (unhide HFE hlt hc)
     have hend := fun wq hq => ended_any C w.heap.size u4 wq (by omega) hq
     have HEN := hide hend
     clear hend hc HFE HPL HFU
     go_wp2_with (first | (go_at_call 55; refine (unhide HEN _ hC).mono ?_; rintro e w' ⟨rfl, hw⟩; obtain rfl := hw.symm) | (at_builtin; refine wpList_append_own _ rfl _ _ 23 rfl w.heap.size 9 i9 (.string ByteArray.empty) 1 16 Tryz.underlying23 hi9 hz90 hz91 hz92 rfl (by decide) _ _ _ rfl (hO.alloc _) ⟨wr.heap.size, 0, none⟩ 1 1 [.string (Fld.str (Ln.ended C))] rfl rfl (cell_one_new _ _ _) (fun x hx => by simp at hx; subst hx; rfl) (by unfold maxLen; omega) (by omega) (by have := hB.size; simp; omega) ?_; intro v' w1 hown' hgrow hnil; clear hnil))
     have HB1 := hide (below_push hO hB hgrow)
     have HO1 : Hid (w1.ownsRow w.heap.size 9 1 v' (Ln.at_ T (k + 1)).1.length (vals (Ln.at_ T (k + 1)).1)) := by
      show w1.ownsRow w.heap.size 9 1 v' (Ln.at_ T (k + 1)).1.length (vals (Ln.at_ T (k + 1)).1)
      rw [unhide HN, vals_snoc, List.length_append]
      exact hown'
     have HE1 : Hid ((Ln.at_ T (k + 1)).2 = []) := by show (Ln.at_ T (k + 1)).2 = []; rw [unhide HN]
     clear hown' hgrow hO hC hB HEN
     go_wp2
     go_roundw
     case rel => exact ⟨k + 1, by omega, by go_num, by rw [unhide HE1]; rfl, (unhide HO1).alloc _, by rw [unhide HE1]; exact World.ownsRow_made w1 #[] 0 (unhide HB1).size (by simp) rfl, (unhide HB1).alloc (unhide HB1).size _⟩
     case measure => simp [intOf]; omega
    ·have hcb : ((T[k].toNat : Int) != 10) = true := by rw [bne, show ((T[k].toNat : Int) == 10) = false from Ln.byte_ne _ 10 hc]; rfl
     have HN := hide (unhide HPL hlt hc)
     clear hc HFE HPL HFU
     go_wp2_with (at_builtin; refine wpList_append_own _ rfl _ _ 104 rfl w.heap.size 5 i5 (.int .u8 0) 1 1 Tryz.underlying104 hi5 hz50 hz51 hz52 rfl (by decide) _ _ _ rfl (hC.alloc _) ⟨wr.heap.size, 0, none⟩ 1 1 [.int .u8 (T[k].toNat : Int)] rfl rfl (cell_one_new _ _ _) (fun x hx => by simp at hx; subst hx; rfl) (by unfold maxLen; omega) (by omega) (by have := hB.size; simp; omega) ?_; intro v' w1 hown' hgrow hnil; clear hnil)
     have HB1 := hide (below_push hC hB hgrow)
     have HO1 : Hid (w1.ownsRow w.heap.size 9 1 u3 (Ln.at_ T (k + 1)).1.length (vals (Ln.at_ T (k + 1)).1)) := by
      show w1.ownsRow w.heap.size 9 1 u3 (Ln.at_ T (k + 1)).1.length (vals (Ln.at_ T (k + 1)).1)
      rw [unhide HN]
      exact (hO.alloc _).kept hgrow (owns_ne hO hC (by decide))
     have HC1 : Hid (w1.ownsRow w.heap.size 5 1 v' (Ln.at_ T (k + 1)).2.length (Byt.bytes (Ln.at_ T (k + 1)).2)) := by
      show w1.ownsRow w.heap.size 5 1 v' (Ln.at_ T (k + 1)).2.length (Byt.bytes (Ln.at_ T (k + 1)).2)
      rw [unhide HN, bytes_snoc, List.length_append]
      exact hown'
     have HE1 : Hid ((!(Ln.at_ T (k + 1)).2.isEmpty) = true) := by show (!(Ln.at_ T (k + 1)).2.isEmpty) = true; rw [unhide HN]; simp
     clear hown' hgrow hO hC hB
     go_wp2
     go_roundw
     case rel => exact ⟨k + 1, by omega, by go_num, by rw [unhide HE1], unhide HO1, unhide HC1, unhide HB1⟩
     case measure => simp [intOf]; omega
   ·have HF := hide (unhide HFU (by omega))
    have hnl : ¬ ((k : Int) < (T.size : Int)) := by omega
    clear HFU HFE HPL
    cases hCe : C.isEmpty with
    | true =>
     have HFI : Hid (Ln.ln T.data.toList = D) := by
      show Ln.ln T.data.toList = D
      rw [unhide HF, unhide HDC]
      unfold Ln.fin
      rw [if_pos hCe]
     clear HF HDC
     go_wp2
     go_ret
     exact ⟨_, rfl, by rw [unhide HFI]; exact hO, hB⟩
    | false =>
     have HFI : Hid (Ln.ln T.data.toList = D ++ [Ln.ended C]) := by
      show Ln.ln T.data.toList = D ++ [Ln.ended C]
      rw [unhide HF, unhide HDC]
      unfold Ln.fin
      simp only [hCe]
      rfl
     have hend := fun wq hq => ended_any C w.heap.size u4 wq (by omega) hq
     have HEN := hide hend
     clear hend HF HDC
     go_wp2_with (first | (go_at_call 55; refine (unhide HEN _ hC).mono ?_; rintro e w' ⟨rfl, hw⟩; obtain rfl := hw.symm) | (at_builtin; refine wpList_append_own _ rfl _ _ 23 rfl w.heap.size 9 i9 (.string ByteArray.empty) 1 16 Tryz.underlying23 hi9 hz90 hz91 hz92 rfl (by decide) _ _ _ rfl (hO.alloc _) ⟨wr.heap.size, 0, none⟩ 1 1 [.string (Fld.str (Ln.ended C))] rfl rfl (cell_one_new _ _ _) (fun x hx => by simp at hx; subst hx; rfl) (by unfold maxLen; omega) (by omega) (by have := hB.size; simp; omega) ?_; intro v' w1 hown' hgrow hnil; clear hnil))
     have HB1 := hide (below_push hO hB hgrow)
     have HO1 : Hid (w1.ownsRow w.heap.size 9 1 v' (Ln.ln T.data.toList).length (vals (Ln.ln T.data.toList))) := by
      show w1.ownsRow w.heap.size 9 1 v' (Ln.ln T.data.toList).length (vals (Ln.ln T.data.toList))
      rw [unhide HFI, vals_snoc, List.length_append]
      exact hown'
     clear hown' hgrow hO hC hB HEN
     go_wp2
     go_ret
     exact ⟨_, rfl, unhide HO1, unhide HB1⟩


end LnR
namespace Mkd
open FldW

theorem marked_any (s : ByteArray) (w : World) (hs : s.size ≤ maxLen) : Calls Tryz.prog 10 #[.string s] w fun e w' => e = .returned (.bool (Lib.hasPrefix s.data.toList Ln.mark)) ∧ w' = w := by
 unfold maxLen at hs
 cases hp : Lib.hasPrefix s.data.toList Ln.mark with
 | true =>
  obtain ⟨h3, h0, h1, h2⟩ := Ln.mark_true s hp
  have g0 : ((s[0].toNat : Int) == 239) = true := Ln.byte_eq _ 239 h0
  have g1 : ((s[1].toNat : Int) == 187) = true := Ln.byte_eq _ 187 h1
  have g2 : ((s[2].toNat : Int) == 191) = true := Ln.byte_eq _ 191 h2
  have h4 : (3 : Int) ≤ (s.size : Int) := by omega
  clear hp h0 h1 h2
  go_enter Tryz.func10, Tryz.ntmps10
  go_wp2
  go_ret
  exact ⟨rfl, rfl⟩
 | false =>
  rcases Ln.mark_false s hp with h3 | ⟨h3, h0 | ⟨h0, h1⟩ | ⟨h0, h1, h2⟩⟩
  ·have h4 : ¬ (3 : Int) ≤ (s.size : Int) := by omega
   clear hp
   go_enter Tryz.func10, Tryz.ntmps10
   go_wp2
   go_ret
   exact ⟨rfl, rfl⟩
  ·have g0 : ((s[0].toNat : Int) == 239) = false := Ln.byte_ne _ 239 h0
   have h4 : (3 : Int) ≤ (s.size : Int) := by omega
   clear hp h0
   go_enter Tryz.func10, Tryz.ntmps10
   go_wp2
   go_ret
   exact ⟨rfl, rfl⟩
  ·have g0 : ((s[0].toNat : Int) == 239) = true := Ln.byte_eq _ 239 h0
   have g1 : ((s[1].toNat : Int) == 187) = false := Ln.byte_ne _ 187 h1
   have h4 : (3 : Int) ≤ (s.size : Int) := by omega
   clear hp h0 h1
   go_enter Tryz.func10, Tryz.ntmps10
   go_wp2
   go_ret
   exact ⟨rfl, rfl⟩
  ·have g0 : ((s[0].toNat : Int) == 239) = true := Ln.byte_eq _ 239 h0
   have g1 : ((s[1].toNat : Int) == 187) = true := Ln.byte_eq _ 187 h1
   have g2 : ((s[2].toNat : Int) == 191) = false := Ln.byte_ne _ 191 h2
   have h4 : (3 : Int) ≤ (s.size : Int) := by omega
   clear hp h0 h1 h2
   go_enter Tryz.func10, Tryz.ntmps10
   go_wp2
   go_ret
   exact ⟨rfl, rfl⟩

end Mkd
end Go.Proofs.YtidhbhdcoanfcaaGreatDoor
