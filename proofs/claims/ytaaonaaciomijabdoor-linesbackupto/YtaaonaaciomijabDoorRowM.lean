/- Plain mathematics of the rows of a text: no program is named here. -/
import Derived.Test.YtaaonaaciomijabDoorLnM
namespace Go.Proofs.YtaaonaaciomijabDoor.Rw

def rem (f : List UInt8) : Bool := Lib.hasPrefix f [35]
def keep (fs : List (List UInt8)) : List (List UInt8) := fs.takeWhile fun f => !rem f
def rowOf (k : Nat) (l : List UInt8) : List (Nat × List (List UInt8)) := if (keep (Fld.fieldsOf l)).isEmpty then [] else [(k, keep (Fld.fieldsOf l))]
def rowsP (P : List (Nat × ByteArray)) : List (Nat × List (List UInt8)) := P.flatMap fun x => rowOf x.1 x.2.data.toList
def rowsOf (l : List UInt8) : List (Nat × List (List UInt8)) := rowsP (Ln.items l)
theorem rowsP_snoc (P : List (Nat × ByteArray)) (x : Nat × ByteArray) : rowsP (P ++ [x]) = rowsP P ++ rowOf x.1 x.2.data.toList := by simp [rowsP]
theorem rowOf_len (k : Nat) (l : List UInt8) : (rowOf k l).length ≤ 1 := by unfold rowOf; split <;> simp
theorem rowsP_len (P : List (Nat × ByteArray)) : (rowsP P).length ≤ P.length := by
  refine Fld.snoc_ind (P := fun P => (rowsP P).length ≤ P.length) (by simp [rowsP]) ?_ P
  intro P x ih
  rw [rowsP_snoc]
  have := rowOf_len x.1 x.2.data.toList
  simp
  omega
theorem str_data (l : List UInt8) : (Fld.str l).data.toList = l := by simp [Fld.str]

/-! the fields of a line are not empty -/
theorem closed_ne (l : List UInt8) : ∀ f ∈ (Fld.st l).1, f ≠ [] := by
  refine Fld.snoc_ind (P := fun l => ∀ f ∈ (Fld.st l).1, f ≠ []) (by simp [Fld.st]) ?_ l
  intro l c ih f hf
  rw [Fld.st_snoc] at hf
  unfold Fld.stp at hf
  split at hf
  · split at hf
    · exact ih f hf
    · rename_i h
      simp at hf
      rcases hf with hf | hf
      · exact ih f hf
      · subst hf
        intro e
        rw [e] at h
        exact h rfl
  · exact ih f hf
theorem fields_ne (l : List UInt8) : ∀ f ∈ Fld.fieldsOf l, f ≠ [] := by
  intro f hf
  unfold Fld.fieldsOf Fld.fin at hf
  split at hf
  · exact closed_ne l f hf
  · rename_i h
    simp at hf
    rcases hf with hf | hf
    · exact closed_ne l f hf
    · subst hf
      intro e
      rw [e] at h
      exact h rfl

/-! how far the fields are kept -/
theorem keep_le (fs : List (List UInt8)) : (keep fs).length ≤ fs.length := by
  unfold keep
  induction fs with
  | nil => simp
  | cons f t ih =>
    rw [List.takeWhile_cons]
    split
    · simp; omega
    · simp
theorem keep_take (fs : List (List UInt8)) : keep fs = fs.take (keep fs).length := by
  unfold keep
  induction fs with
  | nil => simp
  | cons f t ih =>
    rw [List.takeWhile_cons]
    split
    · simp only [List.length_cons, List.take_succ_cons]
      rw [← ih]
    · simp
theorem keep_lt (fs : List (List UInt8)) (n : Nat) (h : n < (keep fs).length) : ∃ f, fs[n]? = some f ∧ rem f = false := by
  unfold keep at h
  induction fs generalizing n with
  | nil => simp at h
  | cons f t ih =>
    rw [List.takeWhile_cons] at h
    split at h
    · rename_i hf
      cases n with
      | zero => exact ⟨f, by simp, by simpa using hf⟩
      | succ n =>
        obtain ⟨g, hg, hr⟩ := ih n (by simpa using h)
        exact ⟨g, by simpa using hg, hr⟩
    · simp at h
theorem keep_at (fs : List (List UInt8)) (h : (keep fs).length < fs.length) : ∃ f, fs[(keep fs).length]? = some f ∧ rem f = true := by
  unfold keep at h ⊢
  induction fs with
  | nil => simp at h
  | cons f t ih =>
    rw [List.takeWhile_cons] at h ⊢
    split
    · rename_i hf
      rw [if_pos hf] at h
      obtain ⟨g, hg, hr⟩ := ih (by simpa using h)
      exact ⟨g, by simpa using hg, hr⟩
    · rename_i hf
      exact ⟨f, by simp, by simpa using hf⟩
theorem keep_lt_of (fs : List (List UInt8)) (n : Nat) (hn : n ≤ (keep fs).length) (f : List UInt8) (hf : fs[n]? = some f) (hr : rem f = false) : n < (keep fs).length := by
  rcases Nat.lt_or_ge n (keep fs).length with h | h
  · exact h
  · have e : n = (keep fs).length := by omega
    subst e
    have hlt : (keep fs).length < fs.length := (List.getElem?_eq_some_iff.1 hf).1
    obtain ⟨g, hg, hr2⟩ := keep_at fs hlt
    rw [hf] at hg
    cases hg
    rw [hr] at hr2
    cases hr2
theorem keep_end (fs : List (List UInt8)) (n : Nat) (hn : n ≤ (keep fs).length) (f : List UInt8) (hf : fs[n]? = some f) (hr : rem f = true) : n = (keep fs).length := by
  rcases Nat.lt_or_ge n (keep fs).length with h | h
  · obtain ⟨g, hg, hr2⟩ := keep_lt fs n h
    rw [hf] at hg
    cases hg
    rw [hr] at hr2
    cases hr2
  · omega
theorem rem_head (f : List UInt8) (c : UInt8) (t : List UInt8) (h : f = c :: t) : rem f = decide (c = 35) := by
  subst h
  unfold rem Lib.hasPrefix
  simp only [List.isPrefixOf, Bool.and_true]
  by_cases hc : c = 35
  · simp [hc]
  · simp [hc, Ne.symm hc]
end Go.Proofs.YtaaonaaciomijabDoor.Rw
