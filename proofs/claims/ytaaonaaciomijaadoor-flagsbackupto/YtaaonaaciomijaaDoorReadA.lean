/- Contracts: flags.Read and the document's Read at every kind and text. -/
import Derived.Test.YtaaonaaciomijaaDoorRefR
namespace Go.Proofs.YtaaonaaciomijaaDoor
open Go.Sort Go.RowKit
namespace So
open Cut
/-- the error and the set of a text -/
def rE (kind : Int) (l : List UInt8) : Int := if One.isK kind then readE (vals kind l) else 30
def rS (kind : Int) (l : List UInt8) : List Int := if rE kind l = 0 then setOf (vals kind l) else []
theorem rS_bounds (kind : Int) (l : List UInt8) : ∀ x ∈ rS kind l, 0 ≤ x ∧ x ≤ 65535 := by
  unfold rS
  split
  · exact set_bounds (vals_bounds kind l)
  · intro x hx; cases hx
theorem val_nil (kind : Int) (hk : One.isK kind = true) : One.val kind [] = 0 := by
  have h3 : kind = 1 ∨ kind = 2 ∨ kind = 3 := by unfold One.isK at hk; simp at hk; omega
  rcases h3 with rfl | rfl | rfl <;> rfl
theorem vals_nil (kind : Int) (hk : One.isK kind = true) : vals kind [] = [0] := by
  have h3 : kind = 1 ∨ kind = 2 ∨ kind = 3 := by unfold One.isK at hk; simp at hk; omega
  rcases h3 with rfl | rfl | rfl <;> rfl
theorem nil_farg (W : World) : FArg W (.slice none 0 0) [] := ⟨none, 0, rfl, Nat.le_refl _, Nat.zero_le _, fun _ => rfl, fun h => absurd h (by simp)⟩
theorem readAll (kind : Int) (s : ByteArray) (w : World) (hM : MaxIs w) (hs : s.size ≤ 1048576) :
    Calls Tryd.prog 11 #[.int .i64 kind, .string s] w fun e w' => ∃ u, e = .returned (.tuple #[u, .int .i64 (rE kind (dl s))]) ∧ FArg w' u (rS kind (dl s)) ∧ Go.RowKit.Below w.heap.size w w' := by
  unfold rS
  cases hk : One.isK kind
  · refine (read_bad kind s w hk).mono ?_
    rintro e w' ⟨rfl, rfl⟩
    have e1 : rE kind (dl s) = 30 := by unfold rE; rw [hk]; rfl
    rw [e1]
    exact ⟨_, rfl, nil_farg _, Go.RowKit.Below.refl _ _⟩
  · refine (read_any kind s w hk hM hs).mono ?_
    rintro e w' ⟨u, rfl, hB, h1, h2⟩
    have e1 : rE kind (dl s) = readE (vals kind (dl s)) := by unfold rE; rw [hk]; rfl
    rw [e1]
    by_cases h0 : readE (vals kind (dl s)) = 0
    · rw [if_pos h0]
      exact ⟨u, rfl, (h1 h0).arg, hB⟩
    · rw [if_neg h0]
      have := h2 h0
      subst this
      exact ⟨_, rfl, nil_farg _, hB⟩
theorem refReadAll (kind : Int) (s : ByteArray) (w : World) (hs : s.size ≤ 1048576) :
    Calls Tryd.prog 12 #[.int .i64 kind, .string s] w fun e w' => ∃ u, e = .returned (.tuple #[u, .int .i64 (rE kind (dl s))]) ∧ IRow 0 w' u (rS kind (dl s)) ∧ Go.RowKit.Below w.heap.size w w' := by
  unfold rS
  cases hk : One.isK kind
  · refine (refRead_bad kind s w hk).mono ?_
    rintro e w' ⟨rfl, rfl⟩
    have e1 : rE kind (dl s) = 30 := by unfold rE; rw [hk]; rfl
    rw [e1]
    exact ⟨_, rfl, IRow.nil _ _, Go.RowKit.Below.refl _ _⟩
  · have e1 : rE kind (dl s) = readE (vals kind (dl s)) := by unfold rE; rw [hk]; rfl
    by_cases h0 : s.size = 0
    · have e2 : dl s = [] := List.eq_nil_of_length_eq_zero (by rw [dl_len]; exact h0)
      refine (refRead_empty kind s w hk h0).mono ?_
      rintro e w' ⟨rfl, rfl⟩
      have e3 : readE [0] = 31 := by decide
      rw [e1, e2, vals_nil kind hk, e3]
      exact ⟨_, rfl, IRow.nil _ _, Go.RowKit.Below.refl _ _⟩
    · refine (refRead_any kind s w hk (by omega) hs).mono ?_
      rintro e w' ⟨u, rfl, hB, h1, h2⟩
      rw [e1]
      by_cases h0 : readE (vals kind (dl s)) = 0
      · rw [if_pos h0]
        exact ⟨u, rfl, h1 h0, hB⟩
      · rw [if_neg h0]
        have := h2 h0
        subst this
        exact ⟨_, rfl, IRow.nil _ _, hB⟩
end So
end Go.Proofs.YtaaonaaciomijaaDoor
