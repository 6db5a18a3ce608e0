/- Layer 10, the plain part: the merges of MergeAgain. No walk. -/
import Derived.Test.YtohfhkdhccpoaaaGreatDoorMq0
namespace Go.Proofs.YtohfhkdhccpoaaaGreatDoor
open Go.RowKit Go.Shelf
namespace Rs
open Sm (Tx ofS)
def st3 (a : Nat) (A : List Tx) (b : Nat) (B C : List Tx) (k : Nat) : List Tx := if k = a then A else if k = b then B else C
theorem Bk.lts {m : Sto} {L : List (Nat × List Tx)} (h : Bk m L) : (L.map (·.1)).Pairwise (· < ·) := by
  have q := h.ok.sorted
  rw [h.runs, List.pairwise_map] at q
  rw [List.pairwise_map]
  exact q
theorem Bk.three {m : Sto} {a b c : Nat} {A B C : List Tx} (h : Bk m [(a, A), (b, B), (c, C)]) (hm : m.made < 16777216) (hc : fz A ≤ 1048832 ∧ fz B ≤ 1048832 ∧ fz C ≤ 1048832) :
    ∃ m' n, mrg 3 m (st3 a A b B C) [a, b, c] = (0, m', n) ∧ Qs m (st3 a A b B C) [a, b, c] ∧ m'.made = m.made + 1 ∧ Bk m' [(n, ofS (A ++ (B ++ C)))] := by
  have hl := h.lts
  simp at hl
  obtain ⟨⟨l1, l2⟩, l3⟩ := hl
  have e1 : st3 a A b B C a = A := if_pos rfl
  have e2 : st3 a A b B C b = B := by unfold st3; rw [if_neg (by omega), if_pos rfl]
  have e3 : st3 a A b B C c = C := by unfold st3; rw [if_neg (by omega), if_neg (by omega)]
  have ef : (([a, b, c] : List Nat).map (st3 a A b B C)).flatten = A ++ (B ++ C) := by simp [e1, e2, e3]
  obtain ⟨m', q1, q2, q3, q4⟩ := h.merge (fan := 3) (st := st3 a A b B C) (ks := [a, b, c]) (by simp) (by simp) (by simp [e1, e2, e3]) (by simp; omega) hm (by rw [ef]; simp [fz_app]; omega)
  rw [ef] at q4
  refine ⟨m', m.made + 1, q1, q2, q3, ?_⟩
  have e : ([(a, A), (b, B), (c, C)].filter fun p => !(([a, b, c] : List Nat).contains p.1)) = [] := by simp
  rw [e] at q4
  exact q4
theorem Bk.back {m : Sto} {a b c : Nat} {A B C : List Tx} (h : Bk m [(a, A), (b, B), (c, C)]) (hm : m.made < 16777216) (hc : fz A ≤ 1048832 ∧ fz B ≤ 1048832 ∧ fz C ≤ 1048832) :
    ∃ m' n, mrg 2 m (st3 a A b B C) [c, b] = (0, m', n) ∧ Qs m (st3 a A b B C) [c, b] ∧ m'.made = m.made + 1 ∧ Bk m' [(a, A), (n, ofS (C ++ B))] := by
  have hl := h.lts
  simp at hl
  obtain ⟨⟨l1, l2⟩, l3⟩ := hl
  have e2 : st3 a A b B C b = B := by unfold st3; rw [if_neg (by omega), if_pos rfl]
  have e3 : st3 a A b B C c = C := by unfold st3; rw [if_neg (by omega), if_neg (by omega)]
  have ef : (([c, b] : List Nat).map (st3 a A b B C)).flatten = C ++ B := by simp [e2, e3]
  obtain ⟨m', q1, q2, q3, q4⟩ := h.merge (fan := 2) (st := st3 a A b B C) (ks := [c, b]) (by simp) (by simp) (by simp [e2, e3]) (by simp; omega) hm (by rw [ef]; simp [fz_app]; omega)
  rw [ef] at q4
  refine ⟨m', m.made + 1, q1, q2, q3, ?_⟩
  have e : ([(a, A), (b, B), (c, C)].filter fun p => !(([c, b] : List Nat).contains p.1)) = [(a, A)] := by
    have n1 : ¬ a = c := by omega
    have n2 : ¬ a = b := by omega
    simp [n1, n2]
  rw [e] at q4
  exact q4
theorem Bk.pair {m : Sto} {a b : Nat} {A B : List Tx} (h : Bk m [(a, A), (b, B)]) (hm : m.made < 16777216) (hc : fz A ≤ 1048832 ∧ fz B ≤ 2097664) :
    ∃ m' n, mrg 2 m (st3 a A b B []) [b, a] = (0, m', n) ∧ Qs m (st3 a A b B []) [b, a] ∧ m'.made = m.made + 1 ∧ Bk m' [(n, ofS (B ++ A))] := by
  have hl := h.lts
  simp at hl
  have e1 : st3 a A b B [] a = A := if_pos rfl
  have e2 : st3 a A b B [] b = B := by unfold st3; rw [if_neg (by omega), if_pos rfl]
  have ef : (([b, a] : List Nat).map (st3 a A b B [])).flatten = B ++ A := by simp [e1, e2]
  obtain ⟨m', q1, q2, q3, q4⟩ := h.merge (fan := 2) (st := st3 a A b B []) (ks := [b, a]) (by simp) (by simp) (by simp [e1, e2]) (by simp; omega) hm (by rw [ef]; simp [fz_app]; omega)
  rw [ef] at q4
  refine ⟨m', m.made + 1, q1, q2, q3, ?_⟩
  have e : ([(a, A), (b, B)].filter fun p => !(([b, a] : List Nat).contains p.1)) = [] := by simp
  rw [e] at q4
  exact q4
theorem ofS_again (A B C : List Tx) : ofS (ofS (ofS C ++ ofS B) ++ ofS A) = ofS (ofS A ++ (ofS B ++ ofS C)) := Sm.rs_ext (Sm.ofS_rs _) (Sm.ofS_rs _) fun x => by
  simp only [Sm.ofS_mem, List.mem_append]
  constructor
  · rintro ((h | h) | h)
    · exact .inr (.inr h)
    · exact .inr (.inl h)
    · exact .inl h
  · rintro (h | h | h)
    · exact .inr h
    · exact .inl (.inr h)
    · exact .inl (.inl h)
end Rs
end Go.Proofs.YtohfhkdhccpoaaaGreatDoor
