/- Plain mathematics of patterns: how items are shown, and read back. No program is named here. -/
import Derived.Test.YtjcchogilbekoabCd
namespace Go.Proofs.Ytjcchogilbekoab.Cd

def every : List UInt8 := (List.range 256).map bt
/-- the bytes of a set, rising -/
def lso (f : UInt8 → Bool) : List UInt8 := every.filter f
theorem mem_every (b : UInt8) : b ∈ every := by
  have := b.toNat_lt
  exact List.mem_map.2 ⟨b.toNat, List.mem_range.2 (by omega), by simp [bt]⟩
theorem every_len : every.length = 256 := by simp [every]
theorem nodup_map_on {α β : Type} {f : α → β} {l : List α} (h : l.Nodup) (hf : ∀ a ∈ l, ∀ b ∈ l, f a = f b → a = b) : (l.map f).Nodup := by
  induction l with
  | nil => simp
  | cons a t ih =>
    rw [List.nodup_cons] at h
    rw [List.map_cons, List.nodup_cons]
    refine ⟨fun hm => ?_, ih h.2 (fun x hx y hy => hf x (by simp [hx]) y (by simp [hy]))⟩
    obtain ⟨x, hx, e⟩ := List.mem_map.1 hm
    have := hf x (by simp [hx]) a (by simp) e
    subst this
    exact h.1 hx
theorem every_nodup : every.Nodup := by
  refine nodup_map_on List.nodup_range fun a ha b hb e => ?_
  have := congrArg UInt8.toNat e
  rw [bt_toNat, bt_toNat] at this
  rw [List.mem_range] at ha hb
  omega
theorem mem_lso {f : UInt8 → Bool} {b : UInt8} : b ∈ lso f ↔ f b = true := by simp [lso, mem_every]
theorem lso_nodup (f : UInt8 → Bool) : (lso f).Nodup := every_nodup.filter _
theorem sub_len {a b : List UInt8} (h : a.Nodup) (hs : ∀ x ∈ a, x ∈ b) : a.length ≤ b.length := by
  induction a generalizing b with
  | nil => simp
  | cons x t ih =>
    rw [List.nodup_cons] at h
    have hx := hs x (by simp)
    have h1 := ih (b := b.erase x) h.2 (fun y hy => (List.mem_erase_of_ne (fun e : y = x => h.1 (by rw [← e]; exact hy))).2 (hs y (by simp [hy])))
    rw [List.length_erase_of_mem hx] at h1
    have := List.length_pos_of_mem hx
    simp only [List.length_cons]
    omega
theorem one_of {l : List UInt8} {c : UInt8} (h : l.Nodup) (hc : c ∈ l) (ho : ∀ x ∈ l, x = c) : l = [c] := by
  have h1 : l.length ≤ [c].length := sub_len h (fun x hx => by simp [ho x hx])
  match l, hc with
  | [x], _ => rw [ho x (by simp)]
  | _ :: _ :: _, _ => simp at h1
theorem lso_all {f : UInt8 → Bool} : (lso f).length = 256 ↔ ∀ b, f b = true := by
  constructor
  · intro h b
    by_cases hb : f b = true
    · exact hb
    · exfalso
      have h1 := sub_len (a := b :: lso f) (b := every) (by rw [List.nodup_cons]; exact ⟨fun hm => hb (mem_lso.1 hm), lso_nodup f⟩) (fun x _ => mem_every x)
      rw [every_len] at h1
      simp only [List.length_cons] at h1
      omega
  · intro h
    unfold lso
    rw [List.filter_eq_self.2 (fun a _ => h a), every_len]
/-- an item as it is shown -/
def shw (f : UInt8 → Bool) : List UInt8 :=
  if (lso f).length = 256 then [46]
  else if lso f = [46] then [91, 46, 93] else if lso f = [91] then [91, 91, 93]
  else if (lso f).length = 1 then lso f
  else if f 93 = true then 91 :: 94 :: (lso (fun b => !f b) ++ [93])
  else 91 :: (((lso f).filter (· != 94) ++ (if f 94 = true then [94] else [])) ++ [93])
theorem f_of_one {f : UInt8 → Bool} {x : UInt8} (h : lso f = [x]) (b : UInt8) : f b = (x == b) := by
  rw [Bool.eq_iff_iff, ← mem_lso, h, beq_iff_eq, List.mem_singleton]
  exact eq_comm
theorem con_iff {l : List UInt8} {b : UInt8} : l.contains b = true ↔ b ∈ l := by simp
theorem pc_cases {p : List UInt8} (h : Pc p) : (p = [46]) ∨ (∃ c, c ≠ 46 ∧ c ≠ 91 ∧ p = [c]) ∨ (∃ l, l ≠ [] ∧ 93 ∉ l ∧ p = 91 :: 94 :: (l ++ [93])) ∨ ∃ c l, c ≠ 94 ∧ 93 ∉ c :: l ∧ p = 91 :: c :: (l ++ [93]) := by
  rcases h with ⟨c, hc, rfl⟩ | ⟨l, h1, h2, h3, rfl⟩
  · by_cases h : c = 46
    · exact .inl (by rw [h])
    · exact .inr (.inl ⟨c, h, hc, rfl⟩)
  · match l, h1 with
    | c :: t, _ =>
      by_cases h : c = 94
      · subst h
        exact .inr (.inr (.inl ⟨t, fun e => h2 (by rw [e]), fun hm => h3 (by simp [hm]), rfl⟩))
      · exact .inr (.inr (.inr ⟨c, t, h, h3, rfl⟩))
theorem shw_pc {p : List UInt8} (h : Pc p) : Pc (shw (adm p)) ∧ (∀ b, adm (shw (adm p)) b = adm p b) ∧ (shw (adm p)).length ≤ p.length := by
  rcases pc_cases h with rfl | ⟨c, hc1, hc2, rfl⟩ | ⟨l, h1, h2, rfl⟩ | ⟨c, l, hc, h3, rfl⟩
  · have e : shw (adm [46]) = [46] := by unfold shw; rw [if_pos (lso_all.2 adm_dot)]
    rw [e]
    exact ⟨h, fun _ => rfl, Nat.le_refl _⟩
  · have e1 : lso (adm [c]) = [c] := one_of (lso_nodup _) (mem_lso.2 (by rw [adm_one hc1]; simp)) (fun x hx => by have := mem_lso.1 hx; rw [adm_one hc1] at this; exact (beq_iff_eq.1 this).symm)
    have e : shw (adm [c]) = [c] := by unfold shw; rw [e1]; simp [hc1, hc2]
    rw [e]
    exact ⟨h, fun _ => rfl, Nat.le_refl _⟩
  · generalize hf : adm (91 :: 94 :: (l ++ [93])) = f
    have fv : ∀ b, f b = !(l.contains b) := fun b => by rw [← hf]; exact adm_out _ _ _
    have f93 : f 93 = true := by rw [fv]; simp [h2]
    obtain ⟨y, hy⟩ := List.exists_mem_of_ne_nil l h1
    have fy : f y = false := by rw [fv]; simp [hy]
    have n256 : ¬ (lso f).length = 256 := fun e => by rw [lso_all.1 e y] at fy; cases fy
    have n46 : ¬ lso f = [46] := fun e => by have := mem_lso.2 f93; rw [e] at this; simp at this
    have n91 : ¬ lso f = [91] := fun e => by have := mem_lso.2 f93; rw [e] at this; simp at this
    unfold shw
    rw [if_neg n256, if_neg n46, if_neg n91]
    by_cases h1e : (lso f).length = 1
    · obtain ⟨x, hx⟩ := List.length_eq_one_iff.1 h1e
      have hx93 : x = 93 := by have := mem_lso.2 f93; rw [hx] at this; exact (List.mem_singleton.1 this).symm
      subst hx93
      rw [if_pos h1e, hx]
      refine ⟨.inl ⟨93, by decide, rfl⟩, fun b => ?_, by simp⟩
      rw [adm_one (by decide), f_of_one hx]
    · rw [if_neg h1e, if_pos f93]
      have hm : ∀ b, b ∈ lso (fun b => !f b) ↔ b ∈ l := fun b => by rw [mem_lso, fv]; simp
      refine ⟨.inr ⟨94 :: lso (fun b => !f b), by simp, fun e => ?_, fun e => ?_, rfl⟩, fun b => ?_, ?_⟩
      · have := (hm y).2 hy
        simp only [List.cons.injEq, true_and] at e
        rw [e] at this
        simp at this
      · simp only [List.mem_cons, hm] at e
        rcases e with e | e
        · exact absurd e (by decide)
        · exact h2 e
      · rw [adm_out, fv]
        congr 1
        rw [Bool.eq_iff_iff, con_iff, con_iff, hm]
      · have := sub_len (lso_nodup (fun b => !f b)) (b := l) (fun x hx => (hm x).1 hx)
        simp only [List.length_cons, List.length_append, List.length_nil]
        omega
  · generalize hf : adm (91 :: c :: (l ++ [93])) = f
    have fv : ∀ b, f b = (c :: l).contains b := fun b => by rw [← hf]; exact adm_in hc _ _
    have f93 : f 93 = false := by rw [fv, Bool.eq_false_iff]; simpa using h3
    have fc : f c = true := by rw [fv]; simp
    have hm : ∀ b, b ∈ lso f ↔ b ∈ c :: l := fun b => by rw [mem_lso, fv, con_iff]
    have n256 : ¬ (lso f).length = 256 := fun e => by rw [lso_all.1 e 93] at f93; cases f93
    unfold shw
    rw [if_neg n256]
    by_cases n46 : lso f = [46]
    · rw [if_pos n46]
      refine ⟨.inr ⟨[46], by simp, by decide, by decide, rfl⟩, fun b => ?_, by simp⟩
      rw [f_of_one n46]
      exact (adm_in (x := 91) (c := 46) (by decide) [] b).trans (by rw [Bool.eq_iff_iff, con_iff, beq_iff_eq]; simp [eq_comm])
    · rw [if_neg n46]
      by_cases n91 : lso f = [91]
      · rw [if_pos n91]
        refine ⟨.inr ⟨[91], by simp, by decide, by decide, rfl⟩, fun b => ?_, by simp⟩
        rw [f_of_one n91]
        exact (adm_in (x := 91) (c := 91) (by decide) [] b).trans (by rw [Bool.eq_iff_iff, con_iff, beq_iff_eq]; simp [eq_comm])
      · rw [if_neg n91]
        by_cases h1e : (lso f).length = 1
        · obtain ⟨x, hx⟩ := List.length_eq_one_iff.1 h1e
          rw [if_pos h1e, hx]
          have x46 : x ≠ 46 := fun e => n46 (by rw [hx, e])
          have x91 : x ≠ 91 := fun e => n91 (by rw [hx, e])
          refine ⟨.inl ⟨x, x91, rfl⟩, fun b => ?_, by simp⟩
          rw [adm_one x46, f_of_one hx]
        · rw [if_neg h1e, if_neg (by rw [f93]; decide)]
          have hX : ∀ b, b ∈ (lso f).filter (· != 94) ++ (if f 94 = true then [94] else []) ↔ f b = true := fun b => by
            rw [List.mem_append, List.mem_filter, mem_lso]
            by_cases e : b = 94
            · subst e
              cases f 94 <;> simp
            · cases f 94 <;> simp [e]
          have hN : ((lso f).filter (· != 94) ++ (if f 94 = true then [94] else [])).Nodup := by
            refine List.nodup_append.2 ⟨(lso_nodup f).filter _, by split <;> simp, fun a ha b hb e => ?_⟩
            rw [List.mem_filter] at ha
            have : b = 94 := by
              split at hb
              · simpa using hb
              · simp at hb
            subst this
            subst e
            simp at ha
          have hc1 : c ∈ (lso f).filter (· != 94) := by rw [List.mem_filter]; exact ⟨mem_lso.2 fc, by simpa using hc⟩
          have hH : ∃ x t, x ≠ 94 ∧ (lso f).filter (· != 94) ++ (if f 94 = true then [94] else []) = x :: t := by
            cases hq : (lso f).filter (· != 94) with
            | nil => rw [hq] at hc1; simp at hc1
            | cons x t =>
              have : x ∈ (lso f).filter (· != 94) := by rw [hq]; simp
              rw [List.mem_filter] at this
              exact ⟨x, _, by simpa using this.2, by rw [List.cons_append]⟩
          generalize (lso f).filter (· != 94) ++ (if f 94 = true then [94] else []) = X at *
          obtain ⟨x, t, hx, rfl⟩ := hH
          refine ⟨.inr ⟨x :: t, by simp, fun e => hx (by simpa using congrArg List.head? e), fun e => ?_, rfl⟩, fun b => ?_, ?_⟩
          · rw [(hX 93).1 e] at f93; cases f93
          · refine (adm_in (x := 91) hx t b).trans ?_
            rw [Bool.eq_iff_iff, con_iff]
            exact hX b
          · have := sub_len hN (b := c :: l) (fun y hy => (hm y).1 (mem_lso.2 ((hX y).1 hy)))
            simp only [List.length_cons, List.length_append, List.length_nil] at this ⊢
            omega
/-- a pattern as it is shown -/
def sws (P : List (List UInt8)) : List UInt8 := if P = [] then [46] else (P.map fun p => shw (adm p)).flatten
theorem adm_shw {p : List UInt8} (h : Pc p) : adm (shw (adm p)) = adm p := funext (shw_pc h).2.1
theorem pcs_sws {P : List (List UInt8)} (h : ∀ p ∈ P, Pc p) : pcs (P.map fun p => shw (adm p)).flatten = some (P.map fun p => shw (adm p)) := by
  refine pcs_of _ fun p hp => ?_
  obtain ⟨q, hq, rfl⟩ := List.mem_map.1 hp
  exact (shw_pc (h q hq)).1
theorem flat_len {P : List (List UInt8)} (h : ∀ p ∈ P, Pc p) : (P.map fun p => shw (adm p)).flatten.length ≤ P.flatten.length := by
  induction P with
  | nil => simp
  | cons p t ih =>
    have h1 := (shw_pc (h p (by simp))).2.2
    have h2 := ih (fun x hx => h x (by simp [hx]))
    simp only [List.map_cons, List.flatten_cons, List.length_append]
    omega
theorem pc_all {p : List UInt8} (h : Pc p) (ha : ∀ b, adm p b = true) : p = [46] := by
  rcases pc_cases h with rfl | ⟨c, hc1, hc2, rfl⟩ | ⟨l, h1, h2, rfl⟩ | ⟨c, l, hc, h3, rfl⟩
  · rfl
  · exfalso
    have a := ha 46
    rw [adm_one hc1] at a
    exact hc1 (beq_iff_eq.1 a)
  · exfalso
    obtain ⟨y, hy⟩ := List.exists_mem_of_ne_nil l h1
    have := ha y
    rw [adm_out] at this
    simp [hy] at this
  · exfalso
    have := ha 93
    rw [adm_in hc, con_iff] at this
    exact h3 this
theorem pc_some {p : List UInt8} (h : Pc p) : ∃ b, adm p b = true := by
  rcases pc_cases h with rfl | ⟨c, hc1, hc2, rfl⟩ | ⟨l, h1, h2, rfl⟩ | ⟨c, l, hc, h3, rfl⟩
  · exact ⟨0, adm_dot 0⟩
  · exact ⟨c, by rw [adm_one hc1]; simp⟩
  · exact ⟨93, by rw [adm_out]; simp [h2]⟩
  · exact ⟨c, by rw [adm_in hc]; simp⟩
theorem rd_cases (l : List UInt8) : (rd l).1 = [] ∨ (l ≠ [] ∧ l.length ≤ 512 ∧ l ≠ [46] ∧ pcs l = some (rd l).1 ∧ (rd l).1.length ≤ 16 ∧ (rd l).2 = 0) := by
  unfold rd
  split
  · exact .inl rfl
  · rename_i h1
    split
    · exact .inl rfl
    · rename_i h2
      split
      · exact .inl rfl
      · rename_i P hP
        split
        · exact .inl rfl
        · rename_i h3
          exact .inr ⟨fun e => h1 (.inl e), by have : ¬ 512 < l.length := fun e => h1 (.inr e); omega, h2, hP, by simp only; omega, rfl⟩
theorem rd_dot {l : List UInt8} (h : (rd l).1 ≠ []) : ((rd l).1.map fun p => shw (adm p)).flatten ≠ [46] := by
  rcases rd_cases l with e | ⟨h1, h2, h3, h4, h5, h6⟩
  · exact absurd e h
  · intro e
    have hp := pcs_sws (rd_pc l)
    rw [e] at hp
    have hp2 : pcs [46] = some [[46]] := by decide
    rw [hp2, Option.some.injEq] at hp
    generalize hP : (rd l).1 = P at *
    obtain ⟨p, rfl⟩ : ∃ p, P = [p] := List.length_eq_one_iff.1 (by have := congrArg List.length hp; simpa using this.symm)
    · simp only [List.map_cons, List.map_nil, List.cons.injEq, and_true] at hp
      have hpc : Pc p := by have := rd_pc l p; rw [hP] at this; exact this (by simp)
      have := pc_all hpc (fun b => by rw [← adm_shw hpc, ← hp]; exact adm_dot b)
      subst this
      exact h3 (by rw [← (pcs_pcs h4).2]; rfl)
theorem sws_len {l : List UInt8} (h0 : (rd l).2 = 0) : (sws (rd l).1).length ≤ l.length := by
  unfold sws
  split
  · rename_i e
    cases l with
    | nil => simp [rd] at h0
    | cons a t => simp
  · rename_i h
    rcases rd_cases l with e | ⟨h1, h2, h3, h4, h5, h6⟩
    · exact absurd e h
    · have := flat_len (rd_pc l)
      rw [(pcs_pcs h4).2] at this
      exact this
/-- what is shown is read as items that admit the same -/
theorem rd_back {l : List UInt8} (h0 : (rd l).2 = 0) : rd (sws (rd l).1) = ((rd l).1.map (fun p => shw (adm p)), 0) := by
  have hl := sws_len h0
  by_cases h : (rd l).1 = []
  · rw [h]; rfl
  · have hd := rd_dot h
    rcases rd_cases l with e | ⟨h1, h2, h3, h4, h5, h6⟩
    · exact absurd e h
    · have hs := pcs_sws (rd_pc l)
      have e : sws (rd l).1 = ((rd l).1.map fun p => shw (adm p)).flatten := by unfold sws; rw [if_neg h]
      rw [e] at hl ⊢
      have hne : ((rd l).1.map fun p => shw (adm p)).flatten ≠ [] := by
        intro e2
        rw [e2, pcs_nil, Option.some.injEq] at hs
        exact h (by simpa using hs.symm)
      generalize ((rd l).1.map fun p => shw (adm p)).flatten = T at *
      generalize (rd l).1 = P at *
      unfold rd
      rw [if_neg (fun e => e.elim hne (fun e => by omega)), if_neg hd, hs]
      simp only [List.length_map]
      rw [if_neg (by omega)]
theorem back_adm (l : List UInt8) : ((rd l).1.map (fun p => shw (adm p))).map adm = (rd l).1.map adm := by
  rw [List.map_map]
  refine List.map_congr_left fun p hp => ?_
  exact adm_shw (rd_pc l p hp)
theorem sws_eq {P Q : List (List UInt8)} (h : P.map adm = Q.map adm) : sws P = sws Q := by
  unfold sws
  have hl := congrArg List.length h
  simp only [List.length_map] at hl
  have e : (P.map fun p => shw (adm p)) = Q.map fun p => shw (adm p) := by
    have := congrArg (List.map shw) h
    rwa [List.map_map, List.map_map] at this
  by_cases hP : P = []
  · have hQ : Q = [] := List.eq_nil_of_length_eq_zero (by rw [← hl, hP]; rfl)
    rw [hP, hQ]
  · have hQ : Q ≠ [] := fun e => hP (List.eq_nil_of_length_eq_zero (by rw [hl, e]; rfl))
    rw [if_neg hP, if_neg hQ, e]
theorem sws_inj {l m : List UInt8} (h : sws (rd l).1 = sws (rd m).1) : (rd l).1.map adm = (rd m).1.map adm := by
  by_cases hl : (rd l).1 = []
  · by_cases hm : (rd m).1 = []
    · rw [hl, hm]
    · exfalso
      have := rd_dot hm
      unfold sws at h
      rw [if_pos hl, if_neg hm] at h
      exact this h.symm
  · by_cases hm : (rd m).1 = []
    · exfalso
      have := rd_dot hl
      unfold sws at h
      rw [if_neg hl, if_pos hm] at h
      exact this h
    · unfold sws at h
      rw [if_neg hl, if_neg hm] at h
      have h1 := pcs_sws (rd_pc l)
      have h2 := pcs_sws (rd_pc m)
      rw [h, h2, Option.some.injEq] at h1
      rw [← back_adm l, ← back_adm m, h1]
end Go.Proofs.Ytjcchogilbekoab.Cd
