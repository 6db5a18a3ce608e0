/- Plain mathematics of the pieces of a text of flags: no walk. -/
import Derived.Test.YtaaonaaciomijaaDoorArgS
import Derived.Lib.SplitLaws
namespace Go.Proofs.YtaaonaaciomijaaDoor
namespace Cut
def dl (p : ByteArray) : List UInt8 := p.data.toList
def mk (l : List UInt8) : ByteArray := ⟨l.toArray⟩
theorem mk_dl (p : ByteArray) : mk (dl p) = p := by obtain ⟨⟨l⟩⟩ := p; rfl
theorem dl_mk (l : List UInt8) : dl (mk l) = l := by simp [dl, mk]
theorem undl {P : List ByteArray} {D : List (List UInt8)} (h : P.map dl = D) : P = D.map mk := by
  rw [← h, List.map_map]
  have : (mk ∘ dl) = id := by funext p; exact mk_dl p
  rw [this]
  simp
theorem dl_len (p : ByteArray) : (dl p).length = p.size := by obtain ⟨⟨l⟩⟩ := p; rfl
theorem dl_extract (s : ByteArray) (a b : Nat) : dl (s.extract a b) = ((dl s).drop a).take (b - a) := Lib.extract_data s a b

/-! side by side -/
def cutL (w : Nat) : Nat → List UInt8 → List (List UInt8)
  | 0, l => [l]
  | n + 1, l => if l.length ≤ w then [l] else l.take w :: cutL w n (l.drop w)
def cuts (w : Nat) (l : List UInt8) : List (List UInt8) := cutL w l.length l
theorem cutL_fuel {w : Nat} (hw : 0 < w) : ∀ (n m : Nat) (l : List UInt8), l.length ≤ n → l.length ≤ m → cutL w n l = cutL w m l
  | 0, m, l, h, h2 => by
    have : l = [] := List.eq_nil_of_length_eq_zero (by omega)
    subst this
    cases m <;> simp [cutL]
  | n + 1, 0, l, h, h2 => by
    have : l = [] := List.eq_nil_of_length_eq_zero (by omega)
    subst this
    simp [cutL]
  | n + 1, m + 1, l, h, h2 => by
    unfold cutL
    split
    · rfl
    · rw [cutL_fuel hw n m (l.drop w) (by simp; omega) (by simp; omega)]
theorem cuts_short {w : Nat} {l : List UInt8} (h : l.length ≤ w) : cuts w l = [l] := by
  unfold cuts
  cases hn : l.length with
  | zero => rfl
  | succ n => unfold cutL; rw [if_pos h]
theorem cuts_long {w : Nat} {l : List UInt8} (hw : 0 < w) (h : w < l.length) : cuts w l = l.take w :: cuts w (l.drop w) := by
  unfold cuts
  cases hn : l.length with
  | zero => omega
  | succ n =>
    rw [cutL, if_neg (by omega), cutL_fuel hw n (l.drop w).length (l.drop w) (by simp; omega) (Nat.le_refl _)]
theorem cutL_mem {w : Nat} : ∀ (n : Nat) (l : List UInt8), ∀ p ∈ cutL w n l, p.length ≤ l.length
  | 0, l, p, h => by simp [cutL] at h; subst h; exact Nat.le_refl _
  | n + 1, l, p, h => by
    unfold cutL at h
    split at h
    · simp at h; subst h; exact Nat.le_refl _
    · rcases List.mem_cons.1 h with h | h
      · subst h; simp; omega
      · have := cutL_mem n _ p h
        simp at this
        omega
theorem cutL_count {w : Nat} (hw : 0 < w) : ∀ (n : Nat) (l : List UInt8), (cutL w n l).length ≤ l.length + 1
  | 0, l => by simp [cutL]
  | n + 1, l => by
    unfold cutL
    split
    · simp
    · have := cutL_count hw n (l.drop w)
      simp at this ⊢
      omega
/-- one piece of the document's loop -/
theorem cuts_step {w i n : Nat} {l : List UInt8} {Q C : List (List UInt8)} (hw : 0 < w) (hn : l.length = n) (hi : i < n) (h : Q ++ cuts w (l.drop i) = C) :
    (i + w < n → (Q ++ [(l.drop i).take w]) ++ cuts w (l.drop (i + w)) = C) ∧ (n ≤ i + w → Q ++ [(l.drop i).take (n - i)] = C) := by
  constructor
  · intro hlt
    rw [cuts_long hw (by simp; omega), List.drop_drop] at h
    rw [← h]
    simp
  · intro hle
    rw [cuts_short (by simp; omega)] at h
    rw [← h, List.take_of_length_le (by simp; omega)]

/-! with commas between -/
def splitC : List UInt8 → List (List UInt8)
  | [] => [[]]
  | c :: t => if c = 44 then [] :: splitC t else match splitC t with | [] => [[c]] | p :: q => (c :: p) :: q
theorem splitC_none : ∀ {l : List UInt8}, 44 ∉ l → splitC l = [l]
  | [], _ => rfl
  | c :: t, h => by
    have h1 : c ≠ 44 := fun e => h (by simp [e])
    have h2 : 44 ∉ t := fun e => h (by simp [e])
    rw [splitC, if_neg h1, splitC_none h2]
theorem splitC_hit : ∀ {p t : List UInt8}, 44 ∉ p → splitC (p ++ 44 :: t) = p :: splitC t
  | [], t, _ => by simp [splitC]
  | c :: p, t, h => by
    have h1 : c ≠ 44 := fun e => h (by simp [e])
    have h2 : 44 ∉ p := fun e => h (by simp [e])
    rw [List.cons_append, splitC, if_neg h1, splitC_hit h2]
theorem splitC_mem : ∀ (l : List UInt8), ∀ p ∈ splitC l, p.length ≤ l.length
  | [], p, h => by simp [splitC] at h; subst h; exact Nat.le_refl _
  | c :: t, p, h => by
    have ih := splitC_mem t
    unfold splitC at h
    split at h
    · rcases List.mem_cons.1 h with h | h
      · subst h; simp
      · have := ih p h; simp; omega
    · split at h
      · simp at h; subst h; simp
      · rename_i q r e
        rcases List.mem_cons.1 h with h | h
        · subst h
          have := ih q (by rw [e]; simp)
          simp; omega
        · have := ih p (by rw [e]; simp [h])
          simp; omega
theorem splitC_count : ∀ (l : List UInt8), (splitC l).length ≤ l.length + 1
  | [] => by simp [splitC]
  | c :: t => by
    have ih := splitC_count t
    unfold splitC
    split
    · simp; omega
    · split
      · simp
      · rename_i q r e
        rw [e] at ih
        simp at ih ⊢
        omega
theorem splitK_C : ∀ (l : List UInt8), Lib.splitK [44] 0 (Lib.count l [44]) l = splitC l
  | [] => by rw [Lib.count_one]; rfl
  | b :: t => by
    have ih := splitK_C t
    by_cases h : b = 44
    · subst h
      have hix : Lib.index (44 :: t) [44] = 0 := by rw [Lib.index]; simp [List.isPrefixOf]
      rw [Lib.count_cons_eq, Nat.add_comm, Lib.splitK, hix]
      simp [splitC, ih]
    · rw [Lib.count_cons_ne b 44 t h]
      have hp : ([44] : List UInt8).isPrefixOf (b :: t) = false := by simp [List.isPrefixOf]; exact fun e => h e.symm
      have hix : Lib.index (b :: t) [44] = if Lib.index t [44] == -1 then -1 else Lib.index t [44] + 1 := by rw [Lib.index, hp]; simp
      rw [splitC, if_neg h, ← ih]
      cases hc : Lib.count t [44] with
      | zero => rfl
      | succ k =>
        have hm : Lib.index t [44] ≠ -1 := fun e => by rw [Lib.count_miss e] at hc; cases hc
        have hge := Lib.index_ge t [44]
        obtain ⟨j, hj⟩ : ∃ j : Nat, Lib.index t [44] = j := ⟨(Lib.index t [44]).toNat, by omega⟩
        have hm2 : (Lib.index t [44] == -1) = false := by rw [beq_eq_false_iff_ne]; exact hm
        have hm3 : ((Lib.index t [44] + 1) == -1) = false := by rw [beq_eq_false_iff_ne]; omega
        rw [Lib.splitK, Lib.splitK, hix, hm2]
        simp only [Bool.false_eq_true, if_false, hm3]
        have e1 : (Lib.index t [44] + 1).toNat + 0 = j + 1 := by omega
        have e2 : (Lib.index t [44]).toNat + 0 = j := by omega
        have e3 : (Lib.index t [44] + 1).toNat + ([44] : List UInt8).length = j + 1 + 1 := by simp; omega
        have e4 : (Lib.index t [44]).toNat + ([44] : List UInt8).length = j + 1 := by simp; omega
        rw [e1, e2, e3, e4]
        simp
theorem splitB_C (s : ByteArray) : (Lib.splitB ⟨#[44]⟩ 0 (Lib.countB s ⟨#[44]⟩) s).map dl = splitC (dl s) := by
  have h := Lib.splitB_data ⟨#[44]⟩ 0 (Lib.countB s ⟨#[44]⟩) s
  have e : Lib.countB s ⟨#[44]⟩ = Lib.count (dl s) [44] := rfl
  rw [e] at h ⊢
  exact h.trans (splitK_C (dl s))
theorem comma_hit {i b n : Nat} {l : List UInt8} {Q C : List (List UInt8)} (hn : l.length = n) (hb : b ≤ i) (hi : i < n) (hc : l[i]? = some 44) (h : Q ++ splitC (l.drop b) = C) (hno : 44 ∉ (l.drop b).take (i - b)) :
    (Q ++ [(l.drop b).take (i - b)]) ++ splitC (l.drop (i + 1)) = C := by
  have e : l.drop b = (l.drop b).take (i - b) ++ 44 :: l.drop (i + 1) := by
    have h1 : l.drop i = 44 :: l.drop (i + 1) := by
      have := List.drop_eq_getElem_cons (l := l) (i := i) (by omega)
      rw [this, (List.getElem?_eq_some_iff.1 hc).2]
    have h2 : (l.drop b).drop (i - b) = l.drop i := by rw [List.drop_drop]; congr 1; omega
    rw [← h1, ← h2, List.take_append_drop]
  rw [e, splitC_hit hno] at h
  rw [← h]
  simp
theorem comma_miss {i b n : Nat} {l : List UInt8} (hn : l.length = n) (hb : b ≤ i) (hi : i < n) (hc : l[i]? ≠ some 44) (hno : 44 ∉ (l.drop b).take (i - b)) : 44 ∉ (l.drop b).take (i + 1 - b) := by
  intro h
  have e : i + 1 - b = (i - b) + 1 := by omega
  have hl : i - b < (l.drop b).length := by simp; omega
  rw [e, List.take_succ_eq_append_getElem hl] at h
  rcases List.mem_append.1 h with h | h
  · exact hno h
  · simp at h
    have e2 : b + (i - b) = i := by omega
    apply hc
    rw [List.getElem?_eq_getElem (by omega)]
    congr 1
    rw [h]
    congr 1
    omega
theorem comma_end {b n : Nat} {l : List UInt8} {Q C : List (List UInt8)} (hn : l.length = n) (h : Q ++ splitC (l.drop b) = C) (hno : 44 ∉ (l.drop b).take (n - b)) : Q ++ [(l.drop b).take (n - b)] = C := by
  have e : (l.drop b).take (n - b) = l.drop b := List.take_of_length_le (by simp; omega)
  rw [e] at hno ⊢
  rw [splitC_none hno] at h
  exact h
end Cut
end Go.Proofs.YtaaonaaciomijaaDoor
