/- Plain mathematics of texts without line feeds and without carriage returns at their end: no program is named here. -/
import Derived.Test.YtgmakjpicdgmgabDoorLnM
namespace Go.Proofs.YtgmakjpicdgmgabDoor.Pl

def strip (l : List UInt8) : List UInt8 := (l.reverse.dropWhile fun c => c == 13).reverse
def flt (l : List UInt8) : List UInt8 := l.filter fun c => !(c == 10)
def pl (l : List UInt8) : List UInt8 := strip (flt l)
theorem strip_nil : strip [] = [] := rfl
theorem strip_cr (a : List UInt8) : strip (a ++ [13]) = strip a := by simp [strip]
theorem strip_other (a : List UInt8) (c : UInt8) (h : ¬ c = 13) : strip (a ++ [c]) = a ++ [c] := by simp [strip, h]
theorem flt_snoc (l : List UInt8) (c : UInt8) : flt (l ++ [c]) = flt l ++ (if c = 10 then [] else [c]) := by
  unfold flt
  rw [List.filter_append]
  by_cases h : c = 10
  · simp [h]
  · simp [h]
theorem flt_le (l : List UInt8) : (flt l).length ≤ l.length := List.length_filter_le _ _
theorem strip_le (l : List UInt8) : (strip l).length ≤ l.length := by
  refine Fld.snoc_ind (P := fun l => (strip l).length ≤ l.length) (by simp [strip]) ?_ l
  intro l c ih
  by_cases h : c = 13
  · subst h; rw [strip_cr]; simp; omega
  · rw [strip_other l c h]; exact Nat.le_refl _
theorem pl_le (l : List UInt8) : (pl l).length ≤ l.length := Nat.le_trans (strip_le _) (flt_le l)
theorem strip_sub (l : List UInt8) : ∀ x ∈ strip l, x ∈ l := by
  intro x hx
  unfold strip at hx
  rw [List.mem_reverse] at hx
  exact List.mem_reverse.1 (List.dropWhile_sublist _ |>.subset hx)
theorem pl_no10 (l : List UInt8) : ∀ x ∈ pl l, ¬ x = 10 := by
  intro x hx
  have := strip_sub _ x hx
  unfold flt at this
  have := (List.mem_filter.1 this).2
  simpa using this
theorem strip_end (l : List UInt8) : Ln.ended (strip l) = strip l := by
  refine Fld.snoc_ind (P := fun l => Ln.ended (strip l) = strip l) rfl ?_ l
  intro l c ih
  by_cases h : c = 13
  · subst h; rw [strip_cr]; exact ih
  · rw [strip_other l c h]; exact Ln.ended_no rfl h
theorem pl_end (l : List UInt8) : Ln.ended (pl l) = pl l := strip_end _
theorem bef_app (a b : List UInt8) (h : ∀ x ∈ a, ¬ x = 10) : Ln.bef (a ++ 10 :: b) = a ∧ Ln.aft (a ++ 10 :: b) = b := by
  induction a with
  | nil => simp [Ln.bef, Ln.aft]
  | cons c t ih =>
    have hc := h c (by simp)
    have := ih (fun x hx => h x (by simp [hx]))
    simp [Ln.bef, Ln.aft, hc, this]
def row (p : List UInt8) (r : Bool) : List UInt8 := p ++ (if r then [13, 10] else [10])
theorem ln_row (p : List UInt8) (r : Bool) (h : ∀ x ∈ p, ¬ x = 10) (he : Ln.ended p = p) (rest : List UInt8) : Ln.ln (row p r ++ rest) = p :: Ln.ln rest := by
  cases r with
  | false =>
    have e : row p false ++ rest = p ++ 10 :: rest := by simp [row]
    rw [e, Ln.ln_cons _ (by simp), (bef_app p rest h).1, (bef_app p rest h).2, he]
  | true =>
    have e : row p true ++ rest = (p ++ [13]) ++ 10 :: rest := by simp [row]
    have h2 : ∀ x ∈ p ++ [13], ¬ x = 10 := by
      intro x hx
      rcases List.mem_append.1 hx with hx | hx
      · exact h x hx
      · simp at hx; subst hx; decide
    rw [e, Ln.ln_cons _ (by simp), (bef_app _ rest h2).1, (bef_app _ rest h2).2, Ln.ended_yes rfl rfl]
/-- the text that is made of so many lines -/
def txt : List (List UInt8 × Bool) → List UInt8
  | [] => []
  | (p, r) :: t => row p r ++ txt t
theorem txt_snoc (A : List (List UInt8 × Bool)) (p : List UInt8) (r : Bool) : txt (A ++ [(p, r)]) = txt A ++ row p r := by
  induction A with
  | nil => simp [txt]
  | cons x t ih => obtain ⟨a, b⟩ := x; simp [txt, ih]
theorem ln_txt (A : List (List UInt8 × Bool)) (h : ∀ x ∈ A, (∀ c ∈ x.1, ¬ c = 10) ∧ Ln.ended x.1 = x.1) : Ln.ln (txt A) = A.map fun x => x.1 := by
  induction A with
  | nil => rfl
  | cons x t ih =>
    obtain ⟨p, r⟩ := x
    have h1 := h (p, r) (by simp)
    rw [txt, ln_row p r h1.1 h1.2, ih (fun x hx => h x (by simp [hx]))]
    rfl
theorem mark_row (p : List UInt8) (r : Bool) (rest : List UInt8) (h : Lib.hasPrefix p Ln.mark = false) : Lib.hasPrefix (row p r ++ rest) Ln.mark = false := by
  have e : ∃ c t, (if r then [13, 10] else [10]) ++ rest = c :: t ∧ (c = 13 ∨ c = 10) := by
    cases r
    · exact ⟨10, rest, by simp, .inr rfl⟩
    · exact ⟨13, 10 :: rest, by simp, .inl rfl⟩
  obtain ⟨c, t, e, hc⟩ := e
  unfold row
  rw [List.append_assoc, e]
  have n1 : ((239 : UInt8) == c) = false := by rcases hc with rfl | rfl <;> decide
  have n2 : ((187 : UInt8) == c) = false := by rcases hc with rfl | rfl <;> decide
  have n3 : ((191 : UInt8) == c) = false := by rcases hc with rfl | rfl <;> decide
  unfold Lib.hasPrefix Ln.mark at h ⊢
  match p, h with
  | [], _ => simp [List.isPrefixOf, n1]
  | [a], _ => simp [List.isPrefixOf, n2]
  | [a, b], _ => simp [List.isPrefixOf, n3]
  | a :: b :: d :: u, h =>
    simp only [List.isPrefixOf, List.cons_append, Bool.and_true] at h ⊢
    exact h
theorem lines_txt (A : List (List UInt8 × Bool)) (h : ∀ x ∈ A, (∀ c ∈ x.1, ¬ c = 10) ∧ Ln.ended x.1 = x.1) (h0 : ∀ p r t, A = (p, r) :: t → Lib.hasPrefix p Ln.mark = false) : Ln.linesOf (txt A) = A.map fun x => x.1 := by
  unfold Ln.linesOf Ln.unmark Lib.trimPrefix
  have : Lib.hasPrefix (txt A) Ln.mark = false := by
    cases A with
    | nil => rfl
    | cons x t =>
      obtain ⟨p, r⟩ := x
      rw [txt]
      exact mark_row p r _ (h0 p r t rfl)
  rw [this]
  exact ln_txt A h
theorem lines_marked (A : List (List UInt8 × Bool)) (h : ∀ x ∈ A, (∀ c ∈ x.1, ¬ c = 10) ∧ Ln.ended x.1 = x.1) : Ln.linesOf (Ln.mark ++ txt A) = A.map fun x => x.1 := by
  unfold Ln.linesOf Ln.unmark Lib.trimPrefix
  have : Lib.hasPrefix (Ln.mark ++ txt A) Ln.mark = true := List.isPrefixOf_iff_prefix.2 ⟨txt A, rfl⟩
  rw [if_pos this, List.drop_left]
  exact ln_txt A h
theorem row_len (p : List UInt8) (r : Bool) : p.length + 1 ≤ (row p r).length ∧ (row p r).length ≤ p.length + 2 := by cases r <;> simp [row]
theorem txt_len (A : List (List UInt8 × Bool)) : A.length ≤ (txt A).length := by
  induction A with
  | nil => simp [txt]
  | cons x t ih => obtain ⟨p, r⟩ := x; have := row_len p r; simp [txt]; omega
/-! the lines that are made of what came in -/
def ents : List ByteArray → List Bool → List (List UInt8 × Bool)
  | [], _ => []
  | x :: t, B => (pl x.data.toList, B.headD false) :: ents t B.tail
theorem ents_get (L : List ByteArray) : ∀ (B : List Bool) (k : Nat) x, L[k]? = some x → (ents L B)[k]? = some (pl x.data.toList, B[k]?.getD false) := by
  induction L with
  | nil => intro B k x h; simp at h
  | cons y t ih =>
    intro B k x h
    cases k with
    | zero =>
      simp at h
      subst h
      cases B <;> simp [ents]
    | succ k =>
      have := ih B.tail k x (by simpa using h)
      cases B with
      | nil => simpa [ents] using this
      | cons b B => simpa [ents] using this
theorem ents_length (L : List ByteArray) : ∀ B : List Bool, (ents L B).length = L.length := by
  induction L with
  | nil => intro B; rfl
  | cons y t ih => intro B; simp [ents, ih]
theorem ents_take (L : List ByteArray) (B : List Bool) (k : Nat) (x : ByteArray) (h : L[k]? = some x) : (ents L B).take (k + 1) = (ents L B).take k ++ [(pl x.data.toList, B[k]?.getD false)] := by
  have hg := ents_get L B k x h
  have hk : k < (ents L B).length := (List.getElem?_eq_some_iff.1 hg).1
  rw [List.take_succ_eq_append_getElem hk]
  rw [List.getElem?_eq_getElem hk] at hg
  rw [Option.some.inj hg]
theorem ents_ok (L : List ByteArray) : ∀ B : List Bool, ∀ x ∈ ents L B, (∀ c ∈ x.1, ¬ c = 10) ∧ Ln.ended x.1 = x.1 := by
  induction L with
  | nil => intro B x hx; simp [ents] at hx
  | cons y t ih =>
    intro B x hx
    rcases List.mem_cons.1 hx with rfl | hx
    · exact ⟨pl_no10 _, pl_end _⟩
    · exact ih _ x hx
theorem ents_ok_take (L : List ByteArray) (B : List Bool) (k : Nat) : ∀ x ∈ (ents L B).take k, (∀ c ∈ x.1, ¬ c = 10) ∧ Ln.ended x.1 = x.1 := fun x hx => ents_ok L B x (List.mem_of_mem_take hx)
end Go.Proofs.YtgmakjpicdgmgabDoor.Pl
