/- Plain mathematics: the lines of a text as a walk from the left makes them; no program is named here. -/
import Derived.Test.YtaaonaaciomijabDoorLn
namespace Go.Proofs.YtaaonaaciomijabDoor.Ln

def at_ (T : ByteArray) (k : Nat) : List (List UInt8) × List UInt8 := (T.data.toList.take k).foldl stp ([], [])
theorem at_zero (T : ByteArray) : at_ T 0 = ([], []) := rfl
theorem at_succ (T : ByteArray) (k : Nat) (h : k < T.size) : at_ T (k + 1) = stp (at_ T k) T[k] := by
  unfold at_
  rw [Fld.take_snoc T k h, List.foldl_append]
  rfl
theorem at_full (T : ByteArray) (k : Nat) (h : T.size ≤ k) : ln T.data.toList = fin (at_ T k) := by
  unfold at_
  rw [Fld.full T k h]
  rfl
theorem at_len (T : ByteArray) : ∀ k, k ≤ T.size → (at_ T k).1.length + (at_ T k).2.length ≤ k
  | 0, _ => by simp [at_zero]
  | k + 1, h => by
    have ih := at_len T k (by omega)
    rw [at_succ T k (by omega)]
    unfold stp
    split
    · simp; omega
    · simp; omega
theorem feed_at (T : ByteArray) (k : Nat) (h : k < T.size) (hc : T[k] = 10) : at_ T (k + 1) = ((at_ T k).1 ++ [ended (at_ T k).2], []) := by
  rw [at_succ T k h]; unfold stp; rw [if_pos hc]
theorem plain_at (T : ByteArray) (k : Nat) (h : k < T.size) (hc : ¬ T[k] = 10) : at_ T (k + 1) = ((at_ T k).1, (at_ T k).2 ++ [T[k]]) := by
  rw [at_succ T k h]; unfold stp; rw [if_neg hc]
theorem ended_len (l : List UInt8) : (ended l).length ≤ l.length := by
  unfold ended
  split
  · simp
  · exact Nat.le_refl _
theorem ended_yes {l : List UInt8} {c : UInt8} {a : List UInt8} (h : l = a ++ [c]) (hc : c = 13) : ended l = a := by
  subst h; subst hc
  simp [ended]
theorem ended_no {l : List UInt8} {c : UInt8} {a : List UInt8} (h : l = a ++ [c]) (hc : ¬ c = 13) : ended l = l := by
  subst h
  simp [ended, hc]
theorem snoc_of {l : List UInt8} (h : 0 < l.length) : ∃ a c, l = a ++ [c] ∧ a.length = l.length - 1 ∧ l[l.length - 1]? = some c := by
  rcases List.eq_nil_or_concat l with rfl | ⟨a, c, rfl⟩
  · simp at h
  · exact ⟨a, c, List.concat_eq_append, by simp, by simp⟩

theorem ln_each : ∀ (n : Nat) (l : List UInt8), l.length ≤ n → ∀ x ∈ ln l, x.length ≤ l.length
  | 0, l, h => by have : l = [] := List.eq_nil_of_length_eq_zero (by omega); subst this; simp [ln_nil]
  | n + 1, l, h => by
    intro x hx
    by_cases hl : l = []
    · subst hl; simp [ln_nil] at hx
    · have h1 := aft_lt l hl
      rw [ln_cons l hl] at hx
      rcases List.mem_cons.1 hx with rfl | hx
      · have := ended_len (bef l); have := bef_le l; omega
      · have := ln_each n (aft l) (by omega) x hx; omega
theorem linesOf_each (l : List UInt8) (h : l.length ≤ 65536) : ∀ x ∈ linesOf l, x.length ≤ 65536 := by
  intro x hx
  have h1 := ln_each _ (unmark l) (Nat.le_refl _) x hx
  have h2 := unmark_le l
  omega

/-! the mark -/
theorem mark_true (s : ByteArray) (h : Lib.hasPrefix s.data.toList mark = true) : ∃ h3 : 3 ≤ s.size, s[0] = 239 ∧ s[1] = 187 ∧ s[2] = 191 := by
  have hp : mark <+: s.data.toList := List.isPrefixOf_iff_prefix.1 h
  obtain ⟨t, ht⟩ := hp
  have hlen : 3 ≤ s.size := by
    have := congrArg List.length ht
    simp [mark] at this
    omega
  have g : ∀ (j : Nat) (hj : j < s.size), s.data.toList[j]? = some s[j] := fun j hj => List.getElem?_eq_getElem (by simpa using hj)
  refine ⟨hlen, ?_, ?_, ?_⟩
  · have := g 0 (by omega); rw [← ht] at this; simpa [mark] using this.symm
  · have := g 1 (by omega); rw [← ht] at this; simpa [mark] using this.symm
  · have := g 2 (by omega); rw [← ht] at this; simpa [mark] using this.symm
theorem mark_of (s : ByteArray) (h3 : 3 ≤ s.size) (h0 : s[0] = 239) (h1 : s[1] = 187) (h2 : s[2] = 191) : Lib.hasPrefix s.data.toList mark = true := by
  apply List.isPrefixOf_iff_prefix.2
  refine ⟨s.data.toList.drop 3, ?_⟩
  apply List.ext_getElem?
  intro j
  have g : ∀ (j : Nat) (hj : j < s.size), s.data.toList[j]? = some s[j] := fun j hj => List.getElem?_eq_getElem (by simpa using hj)
  match j with
  | 0 => rw [g 0 (by omega), h0]; rfl
  | 1 => rw [g 1 (by omega), h1]; rfl
  | 2 => rw [g 2 (by omega), h2]; rfl
  | k + 3 => simp [mark, Nat.add_comm]
theorem mark_false (s : ByteArray) (h : Lib.hasPrefix s.data.toList mark = false) : s.size < 3 ∨ ∃ h3 : 3 ≤ s.size, ¬ s[0] = 239 ∨ (s[0] = 239 ∧ ¬ s[1] = 187) ∨ (s[0] = 239 ∧ s[1] = 187 ∧ ¬ s[2] = 191) := by
  by_cases h3 : 3 ≤ s.size
  · right
    refine ⟨h3, ?_⟩
    by_cases h0 : s[0] = 239
    · by_cases h1 : s[1] = 187
      · by_cases h2 : s[2] = 191
        · rw [mark_of s h3 h0 h1 h2] at h; cases h
        · exact .inr (.inr ⟨h0, h1, h2⟩)
      · exact .inr (.inl ⟨h0, h1⟩)
    · exact .inl h0
  · left; omega
theorem unmark_yes (s : ByteArray) (h : Lib.hasPrefix s.data.toList mark = true) : unmark s.data.toList = (s.extract 3 s.size).data.toList := by
  unfold unmark Lib.trimPrefix
  rw [if_pos h, Lib.extract_data]
  rw [List.take_of_length_le (by simp)]
  rfl
theorem unmark_no (s : ByteArray) (h : Lib.hasPrefix s.data.toList mark = false) : unmark s.data.toList = s.data.toList := by
  unfold unmark Lib.trimPrefix
  rw [h]
  rfl
theorem byte_eq (c d : UInt8) (h : c = d) : ((c.toNat : Int) == (d.toNat : Int)) = true := by rw [h]; simp
theorem byte_ne (c d : UInt8) (h : ¬ c = d) : ((c.toNat : Int) == (d.toNat : Int)) = false := by
  rw [beq_eq_false_iff_ne]
  intro e
  apply h
  apply UInt8.toNat_inj.1
  omega
end Go.Proofs.YtaaonaaciomijabDoor.Ln
