/- Contracts: the document's Read, listed, Admits. -/
import Derived.Test.YtjcchogilbekoabRfS
namespace Go.Proofs.Ytjcchogilbekoab
open Go.RowKit
namespace Pt
open Cd

theorem con_step (s : ByteArray) (k : Nat) (b : UInt8) (h : k < s.size) : (s.data.toList.drop k).contains b = ((s[k] == b) || (s.data.toList.drop (k + 1)).contains b) := by
  rw [drop_cons s k h, Bool.eq_iff_iff, con_iff, List.mem_cons, Bool.or_eq_true, beq_iff_eq, con_iff]
  exact ⟨fun e => e.imp Eq.symm id, fun e => e.imp Eq.symm id⟩
theorem con_end (s : ByteArray) (k : Nat) (b : UInt8) (h : s.size ≤ k) : (s.data.toList.drop k).contains b = false := by
  rw [List.drop_of_length_le (by simpa using h)]
  rfl

theorem ext_mid (p q r : List UInt8) : (str (p ++ q ++ r)).extract p.length ((str (p ++ q ++ r)).size - r.length) = str q := by
  rw [extract_str, str_list, str_size, List.append_assoc, List.drop_left]
  congr 1
  have : (p ++ (q ++ r)).length - r.length - p.length = q.length := by simp; omega
  rw [this, List.take_left]
/-- a piece of a text that is read -/
def Pcs (p : List UInt8) : Prop := Pc p ∧ p.length ≤ 512
theorem flat_mem {P : List (List UInt8)} {p : List UInt8} (h : p ∈ P) : p.length ≤ P.flatten.length := by
  induction P with
  | nil => simp at h
  | cons q t ih =>
    rw [List.flatten_cons, List.length_append]
    rcases List.mem_cons.1 h with rfl | h
    · omega
    · have := ih h; omega
theorem rd_pcs (l : List UInt8) : ∀ p ∈ (rd l).1, Pcs p := by
  intro p hp
  refine ⟨rd_pc l p hp, ?_⟩
  rcases rd_cases l with e | ⟨_, h2, _, h4, _, _⟩
  · rw [e] at hp; simp at hp
  · have := flat_mem hp
    rw [(pcs_pcs h4).2] at this
    omega
/-- pieces in memory -/
def TextsAt (W : World) (v : Value) (P : List (List UInt8)) : Prop :=
  (v = .slice none 0 0 ∧ P = []) ∨ ∃ g cap, v = .slice (some ⟨g, 0, none⟩) P.length cap ∧ g < W.heap.size ∧ ∀ j p, P[j]? = some p → W.cell? ⟨g, j, none⟩ = some (.string (str p))
theorem TextsAt.below {W W' : World} {v : Value} {P : List (List UInt8)} (h : TextsAt W v P) (hb : Below W.heap.size W W') : TextsAt W' v P := by
  rcases h with h | ⟨g, cap, h1, h2, h3⟩
  · exact .inl h
  · exact .inr ⟨g, cap, h1, Nat.lt_of_lt_of_le h2 hb.size, fun j u hu => (hb.cell (p := ⟨g, j, none⟩) h2).trans (h3 j u hu)⟩
end Pt
end Go.Proofs.Ytjcchogilbekoab
