/- Plain mathematics of letters: each once, where it stands first. No program is named here. -/
import Derived.Test.YtmioplahlbapdabWd
namespace Go.Proofs.Ytmioplahlbapdab.Wd

theorem uq_app (l1 l2 acc : List UInt8) : uq acc (l1 ++ l2) = uq (uq acc l1) l2 := by
  induction l1 generalizing acc with
  | nil => rfl
  | cons c t ih =>
    simp only [List.cons_append, uq]
    split
    · exact ih acc
    · exact ih _
theorem uq_pre (l acc : List UInt8) : acc <+: uq acc l := by
  induction l generalizing acc with
  | nil => exact List.prefix_refl _
  | cons c t ih =>
    simp only [uq]
    split
    · exact ih acc
    · exact (List.prefix_append acc [c]).trans (ih _)
theorem uq_mem (l acc : List UInt8) (x : UInt8) : x ∈ uq acc l ↔ x ∈ acc ∨ x ∈ l := by
  induction l generalizing acc with
  | nil => simp [uq]
  | cons c t ih =>
    simp only [uq]
    split
    · rename_i h
      rw [List.contains_eq_mem, decide_eq_true_eq] at h
      rw [ih, List.mem_cons]
      constructor
      · rintro (h1 | h1)
        · exact .inl h1
        · exact .inr (.inr h1)
      · rintro (h1 | rfl | h1)
        · exact .inl h1
        · exact .inl h
        · exact .inr h1
    · rw [ih, List.mem_append, List.mem_singleton, List.mem_cons, or_assoc]
theorem uq_nodup (l acc : List UInt8) (h : acc.Nodup) : (uq acc l).Nodup := by
  induction l generalizing acc with
  | nil => exact h
  | cons c t ih =>
    simp only [uq]
    split
    · exact ih acc h
    · rename_i hc
      rw [List.contains_eq_mem, decide_eq_true_eq] at hc
      refine ih _ (List.nodup_append.2 ⟨h, by simp, ?_⟩)
      intro a ha b hb e
      simp at hb
      subst hb
      subst e
      exact hc ha
theorem uq_self (l acc : List UInt8) (h : (acc ++ l).Nodup) : uq acc l = acc ++ l := by
  induction l generalizing acc with
  | nil => simp [uq]
  | cons c t ih =>
    have hc : acc.contains c = false := by
      rw [List.contains_eq_mem, decide_eq_false_iff_not]
      intro hm
      have := (List.nodup_append.1 h).2.2 c hm c (by simp)
      exact this rfl
    simp only [uq, hc]
    rw [if_neg (by simp), ih]
    · simp
    · simpa using h
/-- letters of letters are themselves -/
theorem uq_uq (l : List UInt8) : uq [] (uq [] l) = uq [] l := by
  rw [uq_self]
  · rfl
  · exact uq_nodup l [] List.nodup_nil
/-- the beginning's letters, a byte on -/
theorem uq_snoc (l : List UInt8) (c : UInt8) : uq [] (l ++ [c]) = if (uq [] l).contains c then uq [] l else uq [] l ++ [c] := by
  rw [uq_app]; rfl
theorem uq_take_pre (l : List UInt8) (k : Nat) : uq [] (l.take k) <+: uq [] l := by
  have h := uq_pre (l.drop k) (uq [] (l.take k))
  rwa [← uq_app, List.take_append_drop] at h
variable {S T : ByteArray} {k : Nat}
theorem un_take (h : uq [] S.data.toList = T.data.toList) : T.data.toList.take (uq [] (S.data.toList.take k)).length = uq [] (S.data.toList.take k) := by
  have := uq_take_pre S.data.toList k
  rw [h] at this
  exact (List.prefix_iff_eq_take.1 this).symm
theorem un_len (h : uq [] S.data.toList = T.data.toList) : (uq [] (S.data.toList.take k)).length ≤ T.size := by
  have := (uq_take_pre S.data.toList k).length_le
  rw [h] at this
  simpa using this
theorem un_again (hk : k < S.size) (hc : (uq [] (S.data.toList.take k)).contains S[k] = true) : uq [] (S.data.toList.take (k + 1)) = uq [] (S.data.toList.take k) := by
  rw [take_snoc S k hk, uq_snoc, if_pos hc]
theorem un_new (hk : k < S.size) (hc : (uq [] (S.data.toList.take k)).contains S[k] = false) : uq [] (S.data.toList.take (k + 1)) = uq [] (S.data.toList.take k) ++ [S[k]] := by
  rw [take_snoc S k hk, uq_snoc, if_neg (by simp only [hc]; simp)]
theorem un_at (h : uq [] S.data.toList = T.data.toList) (hk : k < S.size) (hc : (uq [] (S.data.toList.take k)).contains S[k] = false) : ∃ ht : (uq [] (S.data.toList.take k)).length < T.size, T[(uq [] (S.data.toList.take k)).length]'ht = S[k] := by
  have h1 := uq_take_pre S.data.toList (k + 1)
  rw [un_new hk hc, h] at h1
  have hl := h1.length_le
  simp only [List.length_append, List.length_singleton] at hl
  have hT : T.data.toList.length = T.size := by simp
  refine ⟨by omega, ?_⟩
  obtain ⟨r, hr⟩ := h1
  have h2 : T.data.toList[(uq [] (S.data.toList.take k)).length]? = some S[k] := by
    rw [← hr, List.append_assoc, List.getElem?_append_right (Nat.le_refl _)]
    simp
  rw [List.getElem?_eq_getElem (by omega)] at h2
  exact Option.some.inj h2
theorem un_end (h : uq [] S.data.toList = T.data.toList) (hk : S.size ≤ k) : (uq [] (S.data.toList.take k)).length = T.size := by
  rw [take_full S k hk, h]; simp
theorem con_step (T : ByteArray) (m : Nat) (c : UInt8) (hm : m < T.size) : (T.data.toList.take (m + 1)).contains c = ((T.data.toList.take m).contains c || ((T[m].toNat : Int) == (c.toNat : Int))) := by
  rw [take_snoc T m hm]
  simp only [List.contains_eq_mem]
  by_cases hc : T[m] = c
  · rw [hc]; simp
  · have h3 : ((T[m].toNat : Int) == (c.toNat : Int)) = false := by rw [beq_eq_false_iff_ne]; exact fun h => hc (byte_eq h)
    rw [h3]
    have h4 : ¬ c = T[m] := fun h => hc h.symm
    simp [h4]
/-- the fit bytes -/
theorem fl_yes (s : ByteArray) (h : k < s.size) (hf : fit s[k] = true) : str ((s.data.toList.take (k + 1)).filter fit) = str ((s.data.toList.take k).filter fit) ++ s.extract k (k + 1) := by
  rw [take_snoc s k h, List.filter_append]
  have e : [s[k]].filter fit = [s[k]] := by simp [hf]
  rw [e]
  apply ByteArray.ext
  apply Array.ext'
  simp only [str, ByteArray.data_append, ByteArray.data_extract]
  simp
  have h2 : s.data.toList.drop k = s[k] :: s.data.toList.drop (k + 1) := drop_cons s k h
  rw [h2]
  simp
theorem fl_no (s : ByteArray) (h : k < s.size) (hf : fit s[k] = false) : (s.data.toList.take (k + 1)).filter fit = (s.data.toList.take k).filter fit := by
  rw [take_snoc s k h, List.filter_append]
  simp [hf]
theorem fl_len (l : List UInt8) : (l.filter fit).length ≤ l.length := List.length_filter_le _ _
theorem fit_all (l : List UInt8) : (111 :: l.filter fit).all fit = true := by
  rw [List.all_cons, Bool.and_eq_true]
  refine ⟨by decide, ?_⟩
  rw [List.all_eq_true]
  intro x hx
  exact (List.mem_filter.1 hx).2
theorem uq_all (l : List UInt8) (h : l.all fit = true) : (uq [] l).all fit = true := by
  rw [List.all_eq_true] at *
  intro x hx
  exact h x (((uq_mem l [] x).1 hx).resolve_left (by simp))
theorem uq_some (c : UInt8) (l : List UInt8) : (uq [] (c :: l)).isEmpty = false := by
  have : c ∈ uq [] (c :: l) := (uq_mem _ _ _).2 (.inr (by simp))
  cases h : uq [] (c :: l) with
  | nil => rw [h] at this; simp at this
  | cons _ _ => rfl
end Go.Proofs.Ytmioplahlbapdab.Wd
