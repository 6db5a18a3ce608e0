/- Plain mathematics of patterns: how a text is cut into pieces, what a piece admits, sets of bytes as four numbers. No program is named here. -/
namespace Go.Proofs.Ytjcchogilbekoab.Cd

/-- what a piece of text admits -/
def adm : List UInt8 → UInt8 → Bool
  | [], _ => false
  | [c], b => c == 46 || c == b
  | _ :: 94 :: r, b => !(r.dropLast.contains b)
  | _ :: c :: r, b => (c :: r).dropLast.contains b
theorem adm_dot (b : UInt8) : adm [46] b = true := by simp [adm]
theorem adm_one {c : UInt8} (h : c ≠ 46) (b : UInt8) : adm [c] b = (c == b) := by simp [adm, h]
theorem adm_out (x : UInt8) (l : List UInt8) (b : UInt8) : adm (x :: 94 :: (l ++ [93])) b = !(l.contains b) := by
  cases l with
  | nil => simp [adm]
  | cons a t =>
    show (!((a :: t ++ [93]).dropLast.contains b)) = _
    rw [List.dropLast_concat]
theorem adm_in {x c : UInt8} (hc : c ≠ 94) (l : List UInt8) (b : UInt8) : adm (x :: c :: (l ++ [93])) b = (c :: l).contains b := by
  unfold adm
  split
  · simp_all
  · simp_all
  · simp_all
  · rename_i h
    simp only [List.cons.injEq] at h
    obtain ⟨rfl, rfl, rfl⟩ := h
    rw [← List.cons_append, List.dropLast_concat]

/-- the first piece of a text, and what stands behind it; none: a bracket at fault -/
def cut1 : List UInt8 → Option (List UInt8 × List UInt8)
  | [] => none
  | c :: r => if c = 91 then (match r.dropWhile (· != 93) with
      | [] => none
      | _ :: rest => if r.takeWhile (· != 93) = [] ∨ r.takeWhile (· != 93) = [94] then none else some (91 :: (r.takeWhile (· != 93) ++ [93]), rest))
    else some ([c], r)
theorem cut1_len {l p r : List UInt8} (h : cut1 l = some (p, r)) : l = p ++ r ∧ 0 < p.length := by
  cases l with
  | nil => simp [cut1] at h
  | cons c t =>
    simp only [cut1] at h
    split at h
    · rename_i hc
      subst hc
      split at h
      · simp at h
      · rename_i x rest hd
        split at h
        · simp at h
        · simp only [Option.some.injEq, Prod.mk.injEq] at h
          obtain ⟨rfl, rfl⟩ := h
          refine ⟨?_, by simp⟩
          have h1 := List.takeWhile_append_dropWhile (p := fun x : UInt8 => x != 93) (l := t)
          have h2 : x = 93 := by
            have := List.head?_dropWhile_not (fun x : UInt8 => x != 93) t
            rw [hd] at this
            simpa using this
          subst h2
          rw [hd] at h1
          simp [h1]
    · simp only [Option.some.injEq, Prod.mk.injEq] at h
      obtain ⟨rfl, rfl⟩ := h
      exact ⟨rfl, by simp⟩
/-- the pieces of a text -/
def pcsF : Nat → List UInt8 → Option (List (List UInt8))
  | _, [] => some []
  | 0, _ :: _ => none
  | n + 1, c :: t => match cut1 (c :: t) with
    | none => none
    | some (p, r) => (pcsF n r).map (p :: ·)
def pcs (l : List UInt8) : Option (List (List UInt8)) := pcsF l.length l
theorem pcsF_eq (n m : Nat) (l : List UInt8) (hn : l.length ≤ n) (hm : l.length ≤ m) : pcsF n l = pcsF m l := by
  induction n generalizing l m with
  | zero =>
    have : l = [] := List.eq_nil_of_length_eq_zero (by omega)
    subst this
    simp [pcsF]
  | succ n ih =>
    cases l with
    | nil => simp [pcsF]
    | cons c t =>
      cases m with
      | zero => simp at hm
      | succ m =>
        simp only [pcsF]
        cases hc : cut1 (c :: t) with
        | none => rfl
        | some q =>
          obtain ⟨p, r⟩ := q
          obtain ⟨h1, h2⟩ := cut1_len hc
          have h3 := congrArg List.length h1
          simp only [List.length_append, List.length_cons] at h3 hn hm
          simp only
          rw [ih m r (by omega) (by omega)]
theorem pcs_nil : pcs [] = some [] := rfl
theorem pcs_bad {l : List UInt8} (h0 : l ≠ []) (h : cut1 l = none) : pcs l = none := by
  cases l with
  | nil => exact absurd rfl h0
  | cons c t => simp [pcs, pcsF, h]
theorem pcs_cut {l p r : List UInt8} (h : cut1 l = some (p, r)) : pcs l = (pcs r).map (p :: ·) := by
  cases l with
  | nil => simp [cut1] at h
  | cons c t =>
    obtain ⟨h1, h2⟩ := cut1_len h
    have h3 := congrArg List.length h1
    simp only [List.length_append, List.length_cons] at h3
    simp only [pcs, pcsF, List.length_cons, h]
    rw [pcsF_eq _ r.length r (by omega) (Nat.le_refl _)]
/-- a fit piece -/
def Pc (p : List UInt8) : Prop := (∃ c, c ≠ 91 ∧ p = [c]) ∨ ∃ l, l ≠ [] ∧ l ≠ [94] ∧ 93 ∉ l ∧ p = 91 :: (l ++ [93])
theorem tw_not (t : List UInt8) : 93 ∉ t.takeWhile (· != 93) := by
  induction t with
  | nil => simp
  | cons a t ih =>
    rw [List.takeWhile_cons]
    split
    · rename_i ha
      simp only [List.mem_cons, not_or]
      exact ⟨fun e => by simp [← e] at ha, ih⟩
    · simp
theorem cut1_pc {l p r : List UInt8} (h : cut1 l = some (p, r)) : Pc p := by
  cases l with
  | nil => simp [cut1] at h
  | cons c t =>
    simp only [cut1] at h
    split at h
    · split at h
      · simp at h
      · split at h
        · simp at h
        · rename_i h2
          simp only [Option.some.injEq, Prod.mk.injEq] at h
          obtain ⟨rfl, rfl⟩ := h
          exact .inr ⟨_, fun e => h2 (.inl e), fun e => h2 (.inr e), tw_not t, rfl⟩
    · rename_i hc
      simp only [Option.some.injEq, Prod.mk.injEq] at h
      obtain ⟨rfl, rfl⟩ := h
      exact .inl ⟨c, hc, rfl⟩
theorem tw_app (l r : List UInt8) (h : 93 ∉ l) : (l ++ 93 :: r).takeWhile (· != 93) = l ∧ (l ++ 93 :: r).dropWhile (· != 93) = 93 :: r := by
  induction l with
  | nil => simp
  | cons a t ih =>
    simp only [List.mem_cons, not_or] at h
    have ha : (a != 93) = true := by simp; exact fun e => h.1 e.symm
    obtain ⟨i1, i2⟩ := ih h.2
    exact ⟨by rw [List.cons_append, List.takeWhile_cons, if_pos ha, i1], by rw [List.cons_append, List.dropWhile_cons, if_pos ha, i2]⟩
theorem pc_cut {p : List UInt8} (h : Pc p) (r : List UInt8) : cut1 (p ++ r) = some (p, r) := by
  rcases h with ⟨c, hc, rfl⟩ | ⟨l, h1, h2, h3, rfl⟩
  · simp [cut1, hc]
  · obtain ⟨t1, t2⟩ := tw_app l r h3
    have e : 91 :: (l ++ [93]) ++ r = 91 :: (l ++ 93 :: r) := by simp
    rw [e]
    simp [cut1, t1, t2, h1, h2]
theorem pcs_pcs {l : List UInt8} {P : List (List UInt8)} (h : pcs l = some P) : (∀ p ∈ P, Pc p) ∧ P.flatten = l := by
  have key : ∀ n (l : List UInt8) P, l.length ≤ n → pcs l = some P → (∀ p ∈ P, Pc p) ∧ P.flatten = l := by
    intro n
    induction n with
    | zero =>
      intro l P hl h
      have : l = [] := List.eq_nil_of_length_eq_zero (by omega)
      subst this
      rw [pcs_nil] at h
      cases h
      simp
    | succ n ih =>
      intro l P hl h
      cases hl0 : l with
      | nil => subst hl0; rw [pcs_nil] at h; cases h; simp
      | cons c t =>
        cases hc : cut1 l with
        | none => rw [pcs_bad (by simp [hl0]) hc] at h; cases h
        | some q =>
          obtain ⟨p, r⟩ := q
          rw [pcs_cut hc] at h
          obtain ⟨h1, h2⟩ := cut1_len hc
          have h3 := congrArg List.length h1
          simp only [List.length_append] at h3
          cases hr : pcs r with
          | none => rw [hr] at h; simp at h
          | some R =>
            rw [hr] at h
            simp only [Option.map_some, Option.some.injEq] at h
            subst h
            obtain ⟨i1, i2⟩ := ih r R (by omega) hr
            refine ⟨fun x hx => ?_, ?_⟩
            · rcases List.mem_cons.1 hx with rfl | hx
              · exact cut1_pc hc
              · exact i1 x hx
            · rw [List.flatten_cons, i2, ← hl0, h1]
  exact key l.length l P (Nat.le_refl _) h
theorem pcs_of (P : List (List UInt8)) (h : ∀ p ∈ P, Pc p) : pcs P.flatten = some P := by
  induction P with
  | nil => rfl
  | cons p t ih =>
    rw [List.flatten_cons, pcs_cut (pc_cut (h p (by simp)) _), ih (fun x hx => h x (by simp [hx]))]
    rfl
/-- what Read answers: the pieces, and the error -/
def rd (l : List UInt8) : List (List UInt8) × Nat :=
  if l = [] ∨ 512 < l.length then ([], 40) else if l = [46] then ([], 0) else match pcs l with
    | none => ([], 41)
    | some P => if 16 < P.length then ([], 42) else (P, 0)
theorem rd_pc (l : List UInt8) : ∀ p ∈ (rd l).1, Pc p := by
  unfold rd
  split
  · simp
  · split
    · simp
    · split
      · simp
      · rename_i P hP
        split
        · simp
        · exact (pcs_pcs hP).1
theorem rd_len (l : List UInt8) : (rd l).1.length ≤ 16 := by
  unfold rd
  split
  · simp
  · split
    · simp
    · split
      · simp
      · split
        · simp
        · simp; omega

/-- the byte of a number -/
def bt (n : Nat) : UInt8 := UInt8.ofNat n
theorem bt_toNat (n : Nat) : (bt n).toNat = n % 256 := by simp [bt]
/-- a set of bytes as numbers of n bits -/
def wdn (f : UInt8 → Bool) (k : Nat) : Nat → Nat
  | 0 => 0
  | n + 1 => wdn f k n + if f (bt (64 * k + n)) then 2 ^ n else 0
def wd (f : UInt8 → Bool) (k : Nat) : Nat := wdn f k 64
theorem wdn_lt (f : UInt8 → Bool) (k n : Nat) : wdn f k n < 2 ^ n := by
  induction n with
  | zero => simp [wdn]
  | succ n ih => unfold wdn; rw [Nat.pow_succ]; split <;> omega
theorem wdn_bit (f : UInt8 → Bool) (k n j : Nat) : (wdn f k n).testBit j = (decide (j < n) && f (bt (64 * k + j))) := by
  induction n with
  | zero => simp [wdn]
  | succ n ih =>
    unfold wdn
    have hlt := wdn_lt f k n
    by_cases hf : f (bt (64 * k + n)) = true
    · rw [if_pos hf, Nat.add_comm]
      by_cases hj : j = n
      · subst hj
        rw [Nat.testBit_two_pow_add_eq, Nat.testBit_lt_two_pow hlt]
        simp [hf]
      · by_cases hj2 : j < n
        · rw [Nat.testBit_two_pow_add_gt hj2, ih]
          have : j < n + 1 := by omega
          simp [hj2, this]
        · have h1 : 2 ^ n + wdn f k n < 2 ^ j := by
            have : 2 ^ (n + 1) ≤ 2 ^ j := Nat.pow_le_pow_right (by omega) (by omega)
            rw [Nat.pow_succ] at this
            omega
          rw [Nat.testBit_lt_two_pow h1]
          have : ¬ j < n + 1 := by omega
          simp [this]
    · rw [if_neg hf, Nat.add_zero, ih]
      by_cases hj : j = n
      · subst hj
        simp at hf
        simp [hf]
      · by_cases hj2 : j < n
        · have : j < n + 1 := by omega
          simp [hj2, this]
        · have : ¬ j < n + 1 := by omega
          simp [hj2, this]
theorem wdn_not (f : UInt8 → Bool) (k n : Nat) : wdn (fun b => !f b) k n + wdn f k n + 1 = 2 ^ n := by
  induction n with
  | zero => simp [wdn]
  | succ n ih =>
    unfold wdn
    rw [Nat.pow_succ]
    cases f (bt (64 * k + n)) <;> simp <;> omega
theorem wd_lt (f : UInt8 → Bool) (k : Nat) : wd f k < 18446744073709551616 := wdn_lt f k 64
theorem wd_not (f : UInt8 → Bool) (k : Nat) : wd (fun b => !f b) k = 18446744073709551615 - wd f k := by
  have := wdn_not f k 64
  have e : 2 ^ 64 = 18446744073709551616 := by decide
  unfold wd
  omega
theorem wd_bit (f : UInt8 → Bool) (k j : Nat) : (wd f k).testBit j = (decide (j < 64) && f (bt (64 * k + j))) := wdn_bit f k 64 j
theorem byte_split (b : UInt8) : bt (64 * (b.toNat / 64) + b.toNat % 64) = b := by
  rw [Nat.div_add_mod, bt]; simp
theorem wd_has (f : UInt8 → Bool) (b : UInt8) : (wd f (b.toNat / 64)).testBit (b.toNat % 64) = f b := by
  rw [wd_bit, byte_split]
  have : b.toNat % 64 < 64 := Nat.mod_lt _ (by decide)
  simp [this]
theorem wd_ext {f g : UInt8 → Bool} (h : ∀ k, k < 4 → wd f k = wd g k) : f = g := by
  funext b
  rw [← wd_has f b, ← wd_has g b, h]
  have := b.toNat_lt
  omega
theorem wd_none (k : Nat) : wd (fun _ => false) k = 0 := by
  apply Nat.eq_of_testBit_eq
  intro j
  rw [wd_bit]
  simp
theorem wd_put (f : UInt8 → Bool) (b : UInt8) (k : Nat) (hk : k < 4) : wd (fun c => f c || c == b) k = if k = b.toNat / 64 then wd f k ||| 2 ^ (b.toNat % 64) else wd f k := by
  have hb := b.toNat_lt
  apply Nat.eq_of_testBit_eq
  intro j
  split
  · rename_i e
    subst e
    rw [Nat.testBit_or, wd_bit, wd_bit, Nat.testBit_two_pow]
    by_cases hj : j < 64
    · simp only [hj, decide_true, Bool.true_and]
      congr 1
      rw [Bool.eq_iff_iff, beq_iff_eq, decide_eq_true_eq]
      constructor
      · intro e
        have := congrArg UInt8.toNat e
        rw [bt_toNat] at this
        omega
      · intro e
        rw [← e]
        exact byte_split b
    · have : ¬ b.toNat % 64 = j := by have : b.toNat % 64 < 64 := Nat.mod_lt _ (by decide); omega
      simp [hj, this]
  · rename_i e
    rw [wd_bit, wd_bit]
    by_cases hj : j < 64
    · have : (bt (64 * k + j) == b) = false := by
        rw [beq_eq_false_iff_ne]
        intro e2
        have := congrArg UInt8.toNat e2
        rw [bt_toNat] at this
        omega
      simp [this]
    · simp [hj]
end Go.Proofs.Ytjcchogilbekoab.Cd
