/- Plain mathematics of one rule: which word it fits, what it makes of it, of what it made a word; rules one after the other. No program is named here. -/
import Derived.Lib.Strings
namespace Go.Proofs.Ytjcchogilbekoab.Ta

/-- a rule; adm: its pattern is one and holds at the word's side -/
structure Ru where
  kind : Int
  strip : List UInt8
  add : List UInt8
  adm : List UInt8 → Bool
def cut (k : Int) (w p : List UInt8) : Option (List UInt8) :=
  if k = 1 then (if Lib.hasPrefix w p = true then some (Lib.trimPrefix w p) else none)
  else if k = 2 then (if Lib.hasSuffix w p = true then some (Lib.trimSuffix w p) else none) else none
def put (k : Int) (st p : List UInt8) : List UInt8 := if k = 1 then p ++ st else st ++ p
def stem (r : Ru) (w : List UInt8) : Option (List UInt8) := (cut r.kind w r.strip).bind fun st => if st = [] ∨ r.adm w = false then none else some st
def fits (r : Ru) (w : List UInt8) : Bool := (stem r w).isSome
def app (r : Ru) (w : List UInt8) : Option (List UInt8) := (stem r w).map fun st => put r.kind st r.add
def und (r : Ru) (w : List UInt8) : Option (List UInt8) := (cut r.kind w r.add).bind fun st => if fits r (put r.kind st r.strip) = true then some (put r.kind st r.strip) else none
def chain : List UInt8 → List Ru → Option (List UInt8)
  | w, [] => some w
  | w, r :: R => (app r w).bind fun m => chain m R
def peelR : List UInt8 → List Ru → Option (List UInt8)
  | w, [] => some w
  | w, r :: R => (und r w).bind fun m => peelR m R
def peel (w : List UInt8) (R : List Ru) : Option (List UInt8) := peelR w R.reverse

theorem cut_some {k : Int} {w p st : List UInt8} : cut k w p = some st ↔ (k = 1 ∨ k = 2) ∧ w = put k st p := by
  unfold cut put Lib.trimPrefix Lib.trimSuffix Lib.hasPrefix Lib.hasSuffix
  by_cases h1 : k = 1
  · simp only [h1, if_true]
    by_cases hp : p.isPrefixOf w = true
    · simp only [hp, if_true, Option.some.injEq, true_or, true_and]
      obtain ⟨t, ht⟩ := List.isPrefixOf_iff_prefix.1 hp
      subst ht
      simp [eq_comm]
    · simp only [hp, true_or, true_and]
      refine ⟨fun h => by simp at h, fun h => ?_⟩
      exact absurd (List.isPrefixOf_iff_prefix.2 ⟨st, h.symm⟩) hp
  · simp only [h1, if_false, false_or]
    by_cases h2 : k = 2
    · simp only [h2, if_true, true_and]
      by_cases hp : p.isSuffixOf w = true
      · simp only [hp, if_true, Option.some.injEq]
        obtain ⟨t, ht⟩ := List.isSuffixOf_iff_suffix.1 hp
        subst ht
        simp [eq_comm]
      · simp only [hp]
        refine ⟨fun h => by simp at h, fun h => ?_⟩
        exact absurd (List.isSuffixOf_iff_suffix.2 ⟨st, h.symm⟩) hp
    · simp [h2]
theorem stem_some {r : Ru} {w st : List UInt8} : stem r w = some st ↔ (r.kind = 1 ∨ r.kind = 2) ∧ w = put r.kind st r.strip ∧ st ≠ [] ∧ r.adm w = true := by
  unfold stem
  rw [Option.bind_eq_some_iff]
  constructor
  · rintro ⟨a, ha, h⟩
    obtain ⟨hk, hw⟩ := cut_some.1 ha
    split at h
    · simp at h
    · rename_i hn
      simp only [Option.some.injEq] at h
      subst h
      simp only [not_or, Bool.not_eq_false] at hn
      exact ⟨hk, hw, hn.1, hn.2⟩
  · rintro ⟨hk, hw, hn, ha⟩
    refine ⟨st, cut_some.2 ⟨hk, hw⟩, ?_⟩
    rw [if_neg]
    simp [hn, ha]
theorem fits_iff {r : Ru} {w : List UInt8} : fits r w = true ↔ ∃ st, stem r w = some st := by
  unfold fits
  rw [Option.isSome_iff_exists]
theorem app_some {r : Ru} {w m : List UInt8} : app r w = some m ↔ ∃ st, stem r w = some st ∧ m = put r.kind st r.add := by
  unfold app
  rw [Option.map_eq_some_iff]
  exact ⟨fun ⟨a, h, e⟩ => ⟨a, h, e.symm⟩, fun ⟨a, h, e⟩ => ⟨a, h, e.symm⟩⟩
theorem app_fits (r : Ru) (w : List UInt8) : (app r w).isSome = fits r w := by
  unfold app fits
  rw [Option.isSome_map]
theorem put_inj {k : Int} {a b p : List UInt8} (h : put k a p = put k b p) : a = b := by
  unfold put at h
  split at h
  · exact List.append_cancel_left h
  · exact List.append_cancel_right h
theorem put_len (k : Int) (a p : List UInt8) : (put k a p).length = a.length + p.length := by
  unfold put
  split
  · rw [List.length_append]; omega
  · rw [List.length_append]
theorem und_some {r : Ru} {w m : List UInt8} : und r m = some w ↔ app r w = some m := by
  unfold und
  rw [Option.bind_eq_some_iff, app_some]
  constructor
  · rintro ⟨st, hc, h⟩
    obtain ⟨hk, hm⟩ := cut_some.1 hc
    split at h
    · rename_i hf
      simp only [Option.some.injEq] at h
      obtain ⟨s2, hs⟩ := fits_iff.1 hf
      obtain ⟨_, e, _, _⟩ := stem_some.1 hs
      obtain rfl := put_inj e
      exact ⟨st, h ▸ hs, hm⟩
    · simp at h
  · rintro ⟨st, hs, hm⟩
    obtain ⟨hk, hw, _, _⟩ := stem_some.1 hs
    refine ⟨st, cut_some.2 ⟨hk, hm⟩, ?_⟩
    rw [← hw, if_pos (fits_iff.2 ⟨st, hs⟩)]
theorem app_len {r : Ru} {w m : List UInt8} (h : app r w = some m) : m.length + r.strip.length = w.length + r.add.length := by
  obtain ⟨st, hs, rfl⟩ := app_some.1 h
  obtain ⟨_, hw, _, _⟩ := stem_some.1 hs
  have := congrArg List.length hw
  rw [put_len] at this ⊢
  omega
theorem chain_append (w : List UInt8) (A B : List Ru) : chain w (A ++ B) = (chain w A).bind fun v => chain v B := by
  induction A generalizing w with
  | nil => rfl
  | cons r R ih =>
    show (app r w).bind (fun m => chain m (R ++ B)) = ((app r w).bind fun m => chain m R).bind _
    cases app r w with
    | none => rfl
    | some m => exact ih m
theorem peelR_append (w : List UInt8) (A B : List Ru) : peelR w (A ++ B) = (peelR w A).bind fun v => peelR v B := by
  induction A generalizing w with
  | nil => rfl
  | cons r R ih =>
    show (und r w).bind (fun m => peelR m (R ++ B)) = ((und r w).bind fun m => peelR m R).bind _
    cases und r w with
    | none => rfl
    | some m => exact ih m
theorem peel_append (w : List UInt8) (A B : List Ru) : peel w (A ++ B) = (peel w B).bind fun v => peel v A := by
  unfold peel
  rw [List.reverse_append, peelR_append]
theorem peel_cons (w : List UInt8) (r : Ru) (R : List Ru) : peel w (r :: R) = (peel w R).bind (und r) := by
  unfold peel
  rw [List.reverse_cons, peelR_append]
  congr 1
  funext v
  show (und r v).bind (fun m => some m) = und r v
  cases und r v <;> rfl
theorem peel_some {R : List Ru} {w m : List UInt8} : peel m R = some w ↔ chain w R = some m := by
  induction R generalizing w with
  | nil => exact ⟨fun h => by rw [show peel m [] = some m from rfl] at h; rw [show chain w [] = some w from rfl]; exact h.symm, fun h => by rw [show chain w [] = some w from rfl] at h; rw [show peel m [] = some m from rfl]; exact h.symm⟩
  | cons r R ih =>
    rw [peel_cons, show chain w (r :: R) = (app r w).bind fun m => chain m R from rfl, Option.bind_eq_some_iff, Option.bind_eq_some_iff]
    exact ⟨fun ⟨v, h1, h2⟩ => ⟨v, und_some.1 h2, ih.1 h1⟩, fun ⟨v, h1, h2⟩ => ⟨v, ih.2 h2, und_some.2 h1⟩⟩

/-- the document's: is it fit -/
def dfits (k : Int) (strip : List UInt8) (adm : List UInt8 → Bool) (w : List UInt8) : Bool :=
  if k = 2 then decide (strip.length < w.length) && adm w && (w.drop (w.length - strip.length) == strip)
  else if k = 1 then decide (strip.length < w.length) && adm w && (w.take strip.length == strip) else false
theorem fits_dfits (r : Ru) (w : List UInt8) : fits r w = dfits r.kind r.strip r.adm w := by
  rw [Bool.eq_iff_iff, fits_iff]
  unfold dfits
  constructor
  · rintro ⟨st, h⟩
    obtain ⟨hk, hw, hn, ha⟩ := stem_some.1 h
    have h0 : 0 < st.length := by cases st with | nil => exact absurd rfl hn | cons _ _ => simp
    rcases hk with h1 | h2
    · rw [if_neg (by omega), if_pos h1, ha, hw]
      simp [put, h1, h0]
    · rw [if_pos h2, ha, hw]
      simp [put, h2, h0]
  · intro h
    by_cases h2 : r.kind = 2
    · rw [if_pos h2] at h
      simp only [Bool.and_eq_true, decide_eq_true_eq, beq_iff_eq] at h
      obtain ⟨⟨hl, ha⟩, hs⟩ := h
      refine ⟨w.take (w.length - r.strip.length), stem_some.2 ⟨.inr h2, ?_, ?_, ha⟩⟩
      · unfold put
        rw [if_neg (by omega)]
        conv => rhs; rhs; rw [← hs]
        exact (List.take_append_drop _ _).symm
      · intro e
        have := congrArg List.length e
        rw [List.length_take, List.length_nil] at this
        omega
    · rw [if_neg h2] at h
      by_cases h1 : r.kind = 1
      · rw [if_pos h1] at h
        simp only [Bool.and_eq_true, decide_eq_true_eq, beq_iff_eq] at h
        obtain ⟨⟨hl, ha⟩, hs⟩ := h
        refine ⟨w.drop r.strip.length, stem_some.2 ⟨.inl h1, ?_, ?_, ha⟩⟩
        · unfold put
          rw [if_pos h1]
          conv => rhs; lhs; rw [← hs]
          exact (List.take_append_drop _ _).symm
        · intro e
          have := congrArg List.length e
          simp at this
          omega
      · rw [if_neg h1] at h
        simp at h
/-- the document's: what it makes -/
def dmade (r : Ru) (w : List UInt8) : List UInt8 := if r.kind = 2 then w.take (w.length - r.strip.length) ++ r.add else r.add ++ w.drop r.strip.length
theorem app_dmade (r : Ru) (w : List UInt8) : app r w = if fits r w = true then some (dmade r w) else none := by
  split
  · rename_i h
    obtain ⟨st, hs⟩ := fits_iff.1 h
    refine app_some.2 ⟨st, hs, ?_⟩
    obtain ⟨hk, hw, _, _⟩ := stem_some.1 hs
    unfold dmade
    rcases hk with h1 | h2
    · rw [if_neg (by omega), hw]; simp [put, h1]
    · rw [if_pos h2, hw]; simp [put, h2]
  · rename_i h
    rw [← app_fits] at h
    simpa using h
/-- the document's: the one word that could be meant -/
def dback (r : Ru) (w : List UInt8) : List UInt8 := if r.kind = 1 then r.strip ++ w.drop r.add.length else w.take (w.length - r.add.length) ++ r.strip
theorem und_dback (r : Ru) (w : List UInt8) : und r w = if w.length < r.add.length then none else if app r (dback r w) = some w then some (dback r w) else none := by
  apply Option.ext
  intro v
  rw [und_some]
  constructor
  · intro h
    obtain ⟨st, hs, rfl⟩ := app_some.1 h
    obtain ⟨hk, hw, _, _⟩ := stem_some.1 hs
    have e : dback r (put r.kind st r.add) = v := by
      rw [hw]
      unfold dback put
      rcases hk with h1 | h2
      · simp [h1]
      · simp [h2]
    rw [if_neg (by rw [put_len]; omega), e, if_pos h]
  · intro h
    split at h
    · simp at h
    · split at h
      · rename_i e
        simp only [Option.some.injEq] at h
        rw [← h]; exact e
      · simp at h

/-- where there is room for both it makes no difference which goes first -/
theorem apart {s p : Ru} (hs : s.kind = 2) (hp : p.kind = 1) {w a1 a b1 b : List UInt8} (hl : s.strip.length + p.strip.length ≤ w.length)
    (h1 : app s w = some a1) (h2 : app p a1 = some a) (h3 : app p w = some b1) (h4 : app s b1 = some b) : a = b := by
  have g : ∀ {r : Ru} {x y : List UInt8}, app r x = some y → y = dmade r x := fun {r x y} h => by
    rw [app_dmade] at h
    split at h
    · exact (Option.some.inj h).symm
    · simp at h
  have e1 := g h1; have e2 := g h2; have e3 := g h3; have e4 := g h4
  unfold dmade at e1 e2 e3 e4
  rw [if_pos hs] at e1 e4
  rw [if_neg (by omega)] at e2 e3
  subst e1; subst e3
  rw [e2, e4]
  have k1 : p.strip.length ≤ (w.take (w.length - s.strip.length)).length := by rw [List.length_take]; omega
  have k2 : (p.add ++ w.drop p.strip.length).length - s.strip.length = p.add.length + (w.length - p.strip.length - s.strip.length) := by rw [List.length_append, List.length_drop]; omega
  have k3 : (p.add ++ w.drop p.strip.length).take (p.add.length + (w.length - p.strip.length - s.strip.length)) = p.add ++ (w.take (w.length - s.strip.length)).drop p.strip.length := by
    rw [List.take_append, List.take_of_length_le (by omega), List.drop_take]
    congr 2
    omega
  rw [k2, k3, List.drop_append_of_le_length k1, List.append_assoc]
end Go.Proofs.Ytjcchogilbekoab.Ta
