import Derived.Test.YtidhbhdcoanfcaaGreatDoorGq36
namespace Go.Proofs.YtidhbhdcoanfcaaGreatDoor
namespace Af
def joinL : List Bs → Bs
 | [] => []
 | l :: t => l ++ [13, 10] ++ joinL t
theorem joinL_append : ∀ (A B : List Bs), joinL (A ++ B) = joinL A ++ joinL B
 | [], _ => rfl
 | l :: t, B => by simp [joinL, joinL_append t B]
theorem bef_app : ∀ (a Z : Bs), (10 : UInt8) ∉ a → Ln.bef (a ++ 10 :: Z) = a ∧ Ln.aft (a ++ 10 :: Z) = Z
 | [], Z, _ => by simp [Ln.bef, Ln.aft]
 | c :: t, Z, h => by
  have hc : ¬ c = 10 := fun e => h (by simp [e])
  obtain ⟨h1, h2⟩ := bef_app t Z (fun e => h (by simp [e]))
  simp [Ln.bef, Ln.aft, hc, h1, h2]
theorem bef_no : ∀ (a : Bs), (10 : UInt8) ∉ Ln.bef a
 | [] => by simp [Ln.bef]
 | c :: t => by
  unfold Ln.bef
  split
  ·simp
  ·rename_i h
   intro e
   rcases List.mem_cons.1 e with e | e
   ·exact h e.symm
   ·exact bef_no t e
theorem ended_sub (a : Bs) : ∀ x ∈ Ln.ended a, x ∈ a := by
 intro x hx
 unfold Ln.ended at hx
 split at hx
 ·exact List.dropLast_subset _ hx
 ·exact hx
theorem ln_no : ∀ (n : Nat) (l : Bs), l.length ≤ n → ∀ x ∈ Ln.ln l, (10 : UInt8) ∉ x
 | 0, l, h => by
  have : l = [] := List.eq_nil_of_length_eq_zero (by omega)
  subst this
  simp [Ln.ln_nil]
 | n + 1, l, h => by
  intro x hx
  by_cases hl : l = []
  ·subst hl; simp [Ln.ln_nil] at hx
  ·have h1 := Ln.aft_lt l hl
   rw [Ln.ln_cons l hl] at hx
   rcases List.mem_cons.1 hx with rfl | hx
   ·exact fun e => bef_no l (ended_sub _ _ e)
   ·exact ln_no n (Ln.aft l) (by omega) x hx
theorem linesOf_no (l : Bs) : ∀ x ∈ Ln.linesOf l, (10 : UInt8) ∉ x := ln_no _ _ (Nat.le_refl _)
theorem ln_join : ∀ (L : List Bs) (Y : Bs), (∀ x ∈ L, (10 : UInt8) ∉ x) → Ln.ln (joinL L ++ Y) = L ++ Ln.ln Y
 | [], Y, _ => rfl
 | l :: t, Y, h => by
  have e : joinL (l :: t) ++ Y = (l ++ [13]) ++ 10 :: (joinL t ++ Y) := by simp [joinL]
  have hn : (10 : UInt8) ∉ l ++ [13] := by
   intro q
   rcases List.mem_append.1 q with q | q
   ·exact h l (by simp) q
   ·simp at q
  obtain ⟨h1, h2⟩ := bef_app (l ++ [13]) (joinL t ++ Y) hn
  rw [e, Ln.ln_cons _ (by simp), h1, h2, Ln.ended_yes rfl rfl, ln_join t Y (fun x hx => h x (by simp [hx]))]
  rfl
theorem unmark_no {l : Bs} (h : Lib.hasPrefix l Ln.mark = false) : Ln.unmark l = l := by
 unfold Ln.unmark Lib.trimPrefix
 rw [h]
 rfl
theorem linesOf_join {L : List Bs} {Y : Bs} (hm : Lib.hasPrefix (joinL L ++ Y) Ln.mark = false) (h : ∀ x ∈ L, (10 : UInt8) ∉ x) : Ln.linesOf (joinL L ++ Y) = L ++ Ln.ln Y := by
 unfold Ln.linesOf
 rw [unmark_no hm, ln_join L Y h]
theorem no_mark {l : Bs} (h : ¬ Ln.mark <+: l) : Lib.hasPrefix l Ln.mark = false := by
 cases q : Lib.hasPrefix l Ln.mark with
 | false => rfl
 | true => exact absurd (List.isPrefixOf_iff_prefix.1 q) h
def rowsN (k : Nat) (L : List Bs) : RowL := Rw.rowsP (Ln.num k L)
theorem rowsOf_eq (l : Bs) : Rw.rowsOf l = rowsN 1 (Ln.linesOf l) := rfl
theorem rowsN_cons (k : Nat) (l : Bs) (t : List Bs) : rowsN k (l :: t) = Rw.rowOf k l ++ rowsN (k + 1) t := by
 show Rw.rowOf k (Fld.str l).data.toList ++ _ = _
 rw [show (Fld.str l).data.toList = l by simp [Fld.str]]
 rfl
def anyT : List Bs → Bs
 | [] => []
 | x :: t => Wd.wt x ++ 10 :: anyT t
theorem anyT_append : ∀ (A B : List Bs), anyT (A ++ B) = anyT A ++ anyT B
 | [], _ => rfl
 | x :: t, B => by simp [anyT, anyT_append t B]
theorem anyT_snoc (A : List Bs) (x : Bs) : anyT (A ++ [x]) = anyT A ++ (Wd.wt x ++ [10]) := by rw [anyT_append]; rfl
def fitW (x : Bs) : Prop := x ≠ [] ∧ x.length ≤ 64 ∧ x.all Wd.fit = true
def plainL (l : Bs) : Prop := l ≠ [] ∧ (∀ c ∈ l, Fld.blank c = false ∧ c ≠ 10 ∧ c ≠ 13) ∧ ∀ c t, l = c :: t → c ≠ 35
theorem st_plain {l : Bs} (h : ∀ c ∈ l, Fld.blank c = false) : Fld.st l = ([], l) := by
 revert h
 refine Fld.snoc_ind (P := fun l => (∀ c ∈ l, Fld.blank c = false) → Fld.st l = ([], l)) (fun _ => rfl) ?_ l
 intro l c ih h
 rw [Fld.st_snoc, ih (fun x hx => h x (by simp [hx]))]
 simp [Fld.stp, h c (by simp)]
theorem rowOf_one {l : Bs} (h : plainL l) (k : Nat) : Rw.rowOf k l = [(k, [l])] := by
 obtain ⟨h0, h1, h2⟩ := h
 cases l with
 | nil => exact absurd rfl h0
 | cons c t =>
  have e : Fld.fieldsOf (c :: t) = [c :: t] := by
   unfold Fld.fieldsOf Fld.fin
   rw [st_plain (fun x hx => (h1 x hx).1)]
   rfl
  have hr : Rw.rem (c :: t) = false := by
   rw [Rw.rem_head _ c t rfl]
   exact decide_eq_false (h2 c t rfl)
  unfold Rw.rowOf Rw.keep
  rw [e]
  simp [hr]
structure DgN (D : Bs) (n : Nat) : Prop where
 dig : D.all Num.isDig = true
 good : Num.good D 8192 = true
 val : Num.numVal D = n
 len : D.length ≤ 20
theorem DgN.plain {D : Bs} {n : Nat} (h : DgN D n) : plainL D := by
 have hd : ∀ c ∈ D, 48 ≤ c.toNat ∧ c.toNat ≤ 57 := fun c hc => by
  have := List.all_eq_true.1 h.dig c hc
  unfold Num.isDig at this
  simpa using this
 refine ⟨?_, fun c hc => ?_, fun c t e => ?_⟩
 ·rintro rfl
  have := h.good
  simp [Num.good] at this
 ·have := hd c hc
  refine ⟨?_, ?_, ?_⟩
  ·unfold Fld.blank
   have h1 : (c.toNat == 32) = false := by simp; omega
   have h2 : (c.toNat == 9) = false := by simp; omega
   rw [h1, h2]; rfl
  ·rintro rfl; simp at this
  ·rintro rfl; simp at this
 ·have := hd c (by rw [e]; simp)
  rintro rfl
  simp at this
theorem dgN_dec {u : Nat} (hu : u ≤ 8192) : DgN (Lib.decDigits u) u := by
 have hv := Dec.numVal_dec u
 have h1 := Dec.all_dec u
 have h2 := Dec.lead_dec u
 have h3 := Dec.nonempty_dec u
 have hg : Num.good (Lib.decDigits u) 8192 = true := by
  unfold Num.good
  rw [h1, h2, h3, hv]
  simp
  omega
 refine ⟨h1, hg, hv, ?_⟩
 rw [Lib.decDigits_length]
 have := Dec.nDigits_le 4 u (by omega)
 omega
theorem st_bytes (l : Bs) : (∀ f ∈ (Fld.st l).1, ∀ c ∈ f, c ∈ l ∧ Fld.blank c = false) ∧ ∀ c ∈ (Fld.st l).2, c ∈ l ∧ Fld.blank c = false := by
 refine Fld.snoc_ind (P := fun l => (∀ f ∈ (Fld.st l).1, ∀ c ∈ f, c ∈ l ∧ Fld.blank c = false) ∧ ∀ c ∈ (Fld.st l).2, c ∈ l ∧ Fld.blank c = false) ⟨fun f hf => by simp [Fld.st] at hf, fun c hc => by simp [Fld.st] at hc⟩ ?_ l
 intro l d ⟨h1, h2⟩
 rw [Fld.st_snoc]
 unfold Fld.stp
 by_cases hb : Fld.blank d = true
 ·rw [if_pos hb]
  refine ⟨fun f hf c hc => ?_, fun c hc => by simp at hc⟩
  have key : c ∈ l ∧ Fld.blank c = false := by
   dsimp only at hf
   split at hf
   ·exact h1 f hf c hc
   ·rcases List.mem_append.1 hf with q | q
    ·exact h1 f q c hc
    ·rw [List.mem_singleton] at q
     rw [q] at hc
     exact h2 c hc
  exact ⟨by simp [key.1], key.2⟩
 ·rw [if_neg hb]
  refine ⟨fun f hf c hc => ⟨by simp [(h1 f hf c hc).1], (h1 f hf c hc).2⟩, fun c hc => ?_⟩
  rcases List.mem_append.1 hc with q | q
  ·exact ⟨by simp [(h2 c q).1], (h2 c q).2⟩
  ·rw [List.mem_singleton] at q
   subst q
   exact ⟨by simp, by simpa using hb⟩
theorem fields_bytes {l f : Bs} (h : f ∈ Fld.fieldsOf l) : ∀ c ∈ f, c ∈ l ∧ Fld.blank c = false := by
 obtain ⟨h1, h2⟩ := st_bytes l
 unfold Fld.fieldsOf Fld.fin at h
 split at h
 ·exact h1 f h
 ·rcases List.mem_append.1 h with q | q
  ·exact h1 f q
  ·rw [List.mem_singleton] at q
   rw [q]
   exact h2
def aloneL (l : Bs) : Prop := l ≠ [] ∧ (∀ c ∈ l, Fld.blank c = false ∧ c ≠ 10) ∧ ∀ c t, l = c :: t → c ≠ 35
theorem plainL.alone {l : Bs} (h : plainL l) : aloneL l := ⟨h.1, fun c hc => ⟨(h.2.1 c hc).1, (h.2.1 c hc).2.1⟩, h.2.2⟩
theorem rowOf_alone {l : Bs} (h : aloneL l) (k : Nat) : Rw.rowOf k l = [(k, [l])] := by
 obtain ⟨h0, h1, h2⟩ := h
 cases l with
 | nil => exact absurd rfl h0
 | cons c t =>
  have e : Fld.fieldsOf (c :: t) = [c :: t] := by
   unfold Fld.fieldsOf Fld.fin
   rw [st_plain (fun x hx => (h1 x hx).1)]
   rfl
  have hr : Rw.rem (c :: t) = false := by
   rw [Rw.rem_head _ c t rfl]
   exact decide_eq_false (h2 c t rfl)
  unfold Rw.rowOf Rw.keep
  rw [e]
  simp [hr]
theorem rowsN_alone : ∀ (W : List Bs) (k : Nat), (∀ x ∈ W, aloneL x) → (rowsN k W).map (fun p => p.2) = W.map fun x => [x]
 | [], k, _ => rfl
 | x :: t, k, h => by
  rw [rowsN_cons, rowOf_alone (h x (by simp)), List.map_append, rowsN_alone t (k + 1) (fun y hy => h y (by simp [hy]))]
  rfl
theorem takeW_imp {p : Bs → Bool} : ∀ {L : List Bs} {f : Bs}, f ∈ L.takeWhile p → f ∈ L ∧ p f = true
 | [], f, h => by cases h
 | x :: t, f, h => by
  rw [List.takeWhile_cons] at h
  split at h
  ·rename_i q
   rcases List.mem_cons.1 h with rfl | h
   ·exact ⟨by simp, q⟩
   ·exact ⟨List.mem_cons_of_mem _ (takeW_imp h).1, (takeW_imp h).2⟩
  ·cases h
theorem rowsN_src : ∀ (L : List Bs) (k : Nat) (p : Nat × List Bs), p ∈ rowsN k L → ∃ x ∈ L, p.2 = Rw.keep (Fld.fieldsOf x)
 | [], k, p, h => by cases h
 | l :: t, k, p, h => by
  rw [rowsN_cons] at h
  rcases List.mem_append.1 h with h | h
  ·refine ⟨l, by simp, ?_⟩
   unfold Rw.rowOf at h
   split at h
   ·cases h
   ·rw [List.mem_singleton] at h
    rw [h]
  ·obtain ⟨x, hx, e⟩ := rowsN_src t (k + 1) p h
   exact ⟨x, by simp [hx], e⟩
theorem rows_alone {s : Bs} {p : Nat × List Bs} (h : p ∈ Rw.rowsOf s) : ∀ f ∈ p.2, aloneL f := by
 rw [rowsOf_eq] at h
 obtain ⟨x, hx, e⟩ := rowsN_src _ _ _ h
 intro f hf
 rw [e] at hf
 unfold Rw.keep at hf
 obtain ⟨h1, h2⟩ := takeW_imp hf
 have hb := fields_bytes h1
 have hn := linesOf_no s x hx
 refine ⟨Rw.fields_ne x f h1, fun c hc => ⟨(hb c hc).2, ?_⟩, fun c t e => ?_⟩
 ·rintro rfl
  exact hn (hb 10 hc).1
 ·rw [e, Rw.rem_head _ c t rfl] at h2
  intro q
  simp [q] at h2
def Par (F : Fil) (fs : List Bs) (E : List Ent) : Prop := fs.length = E.length ∧ ∀ (k : Nat) f, fs[k]? = some f → ∃ x, E[k]? = some x ∧ entRow F [f] = .ok x
theorem Par.set {F : Fil} {fs : List Bs} {E : List Ent} (h : Par F fs E) {i j : Nat} {f : Bs} {x : Ent} (hf : fs[j]? = some f) (hx : E[j]? = some x) : Par F (fs.set i f) (E.set i x) := by
 refine ⟨by simp [h.1], fun k g hg => ?_⟩
 rw [List.getElem?_set] at hg
 rw [List.getElem?_set]
 split at hg
 ·rename_i q
  split at hg
  ·injection hg with hg
   subst hg
   rename_i q2
   rw [if_pos q, if_pos (by rw [← h.1]; exact q2)]
   obtain ⟨y, y1, y2⟩ := h.2 j f hf
   rw [hx] at y1
   injection y1 with y1
   subst y1
   exact ⟨_, rfl, y2⟩
  ·cases hg
 ·rename_i q
  rw [if_neg q]
  exact h.2 k g hg
theorem Par.snoc {F : Fil} {fs : List Bs} {E : List Ent} (h : Par F fs E) {f : Bs} {x : Ent} (hx : entRow F [f] = .ok x) : Par F (fs ++ [f]) (E ++ [x]) := by
 refine ⟨by simp [h.1], fun k g hg => ?_⟩
 by_cases hk : k < fs.length
 ·rw [List.getElem?_append_left hk] at hg
  rw [List.getElem?_append_left (by rw [← h.1]; exact hk)]
  exact h.2 k g hg
 ·rw [List.getElem?_append_right (by omega)] at hg
  rw [List.getElem?_append_right (by rw [← h.1]; omega), ← h.1]
  have hk0 : k - fs.length = 0 := by
   have := (List.getElem?_eq_some_iff.1 hg).1
   simp at this
   omega
  rw [hk0] at hg ⊢
  simp at hg
  subst hg
  exact ⟨x, rfl, hx⟩
theorem Par.cons {F : Fil} {fs : List Bs} {E : List Ent} (h : Par F fs E) {f : Bs} {x : Ent} (hx : entRow F [f] = .ok x) : Par F (f :: fs) (x :: E) := by
 refine ⟨by simp [h.1], fun k g hg => ?_⟩
 cases k with
 | zero =>
  simp at hg
  subst hg
  exact ⟨x, rfl, hx⟩
 | succ k =>
  simp at hg
  obtain ⟨y, y1, y2⟩ := h.2 k g hg
  exact ⟨y, by simpa using y1, y2⟩
theorem ents_inv {F : Fil} {n : Nat} : ∀ {R : List (Nat × List Bs)} {E E' : List Ent}, ents F n R E = .ok E' → E.length ≤ n → ∃ fs X, R.map (fun p => p.2) = fs.map (fun f : Bs => [f]) ∧ E' = E ++ X ∧ E'.length ≤ n ∧ Par F fs X
 | [], E, E', h, hn => by
  rw [ents] at h
  injection h with h
  subst h
  exact ⟨[], [], rfl, by simp, hn, rfl, fun k f hf => by simp at hf⟩
 | (l, row) :: t, E, E', h, hn => by
  rw [ents] at h
  split at h
  ·cases h
  ·rename_i hq
   cases hx : entRow F row with
   | error c => rw [hx] at h; cases h
   | ok x =>
    rw [hx] at h
    obtain ⟨fs, X, e1, e2, e3, e4⟩ := ents_inv (E := E ++ [x]) h (by simp; omega)
    have hr : ∃ f, row = [f] := by
     unfold entRow at hx
     split at hx
     ·cases hx
     ·rename_i q
      match row, q with
      | [f], _ => exact ⟨f, rfl⟩
      | [], q => simp at q
      | _ :: _ :: _, q => simp at q
    obtain ⟨f, rfl⟩ := hr
    exact ⟨f :: fs, x :: X, by simp [e1], by simp [e2], e3, e4.cons hx⟩
theorem dic_inv {F : Fil} {s : Bs} {E : List Ent} (h : dicR F s = .ok E) : ∃ p t fs, Rw.rowsOf s = p :: t ∧ t.map (fun p => p.2) = fs.map (fun f : Bs => [f]) ∧ (∀ f ∈ fs, aloneL f) ∧ E.length ≤ 8192 ∧ Par F fs E := by
 by_cases hs : 65536 < s.length
 ·unfold dicR at h
  rw [if_pos hs] at h
  cases h
 ·cases hr : Rw.rowsOf s with
  | nil => rw [dicR_nil hs hr] at h; cases h
  | cons p t =>
   obtain ⟨l, row⟩ := p
   rw [dicR_cons hs hr] at h
   cases hc : cntX l row with
   | error e => rw [hc] at h; cases h
   | ok n =>
    rw [hc] at h
    simp only at h
    cases he : ents F n t [] with
    | error e => rw [he] at h; cases h
    | ok E2 =>
     rw [he] at h
     simp only at h
     split at h
     ·cases h
     ·injection h with h
      subst h
      obtain ⟨fs, X, e1, e2, e3, e4⟩ := ents_inv he (by simp)
      rw [List.nil_append] at e2
      subst e2
      have hn : n ≤ 8192 := by
       unfold cntX at hc
       split at hc
       ·cases hc
       ·exact numb_le hc
      refine ⟨_, t, fs, rfl, e1, fun f hf => ?_, by omega, e4⟩
      have hm : [f] ∈ t.map (fun p => p.2) := by rw [e1]; exact List.mem_map.2 ⟨f, hf, rfl⟩
      obtain ⟨p, hp, e⟩ := List.mem_map.1 hm
      exact rows_alone (s := s) (p := p) (by rw [hr]; exact List.mem_cons_of_mem _ hp) f (by rw [e]; simp)
theorem ents_par {F : Fil} {n : Nat} : ∀ (fs : List Bs) (X : List Ent) (R : List (Nat × List Bs)) (E : List Ent), R.map (fun p => p.2) = fs.map (fun f => [f]) → Par F fs X → E.length + X.length ≤ n → ents F n R E = .ok (E ++ X)
 | [], [], R, E, h, _, _ => by
  have : R = [] := by simpa using h
  subst this
  rw [ents]
  simp
 | [], x :: X, R, E, h, hp, _ => by have := hp.1; simp at this
 | f :: fs, [], R, E, h, hp, _ => by have := hp.1; simp at this
 | f :: fs, x :: X, [], E, h, _, _ => by simp at h
 | f :: fs, x :: X, (l, row) :: R, E, h, hp, hn => by
  simp only [List.map_cons, List.cons.injEq] at h
  obtain ⟨e1, e2⟩ := h
  obtain ⟨y, y1, y2⟩ := hp.2 0 f rfl
  simp at y1
  subst y1
  rw [ents, if_neg (by simp at hn; omega), e1, y2]
  simp only
  rw [ents_par fs X R (E ++ [x]) e2 ⟨by have := hp.1; simpa using this, fun k g hg => by
   obtain ⟨z, z1, z2⟩ := hp.2 (k + 1) g (by simpa using hg)
   exact ⟨z, by simpa using z1, z2⟩⟩ (by simp at hn ⊢; omega)]
  simp
theorem dic_make {F : Fil} {fs : List Bs} {E : List Ent} {D : Bs} (hfs : ∀ f ∈ fs, aloneL f) (hp : Par F fs E) (_hn : E.length ≤ 8192) (hD : DgN D E.length) (hs : ¬ 65536 < (joinL (D :: fs)).length) : dicR F (joinL (D :: fs)) = .ok E := by
 have hpl := hD.plain
 have hm : Lib.hasPrefix (joinL (D :: fs)) Ln.mark = false := by
  refine no_mark fun q => ?_
  obtain ⟨z, hz⟩ := q
  cases D with
  | nil => exact hpl.1 rfl
  | cons c t =>
   have := List.all_eq_true.1 hD.dig c (by simp)
   unfold Num.isDig at this
   simp [Ln.mark, joinL] at hz this
   rw [← hz.1] at this
   simp at this
 have hln : Ln.linesOf (joinL (D :: fs)) = D :: fs := by
  have := linesOf_join (L := D :: fs) (Y := []) (by rw [List.append_nil]; exact hm) (fun x hx => by
   rcases List.mem_cons.1 hx with rfl | hx
   ·exact fun q => (hpl.2.1 10 q).2.1 rfl
   ·exact fun q => ((hfs x hx).2.1 10 q).2 rfl)
  rw [List.append_nil] at this
  rw [this]
  exact List.append_nil _
 have hr : Rw.rowsOf (joinL (D :: fs)) = (1, [D]) :: rowsN 2 fs := by
  rw [rowsOf_eq, hln, rowsN_cons, rowOf_one hpl]
  rfl
 rw [dicR_cons hs hr]
 have hN : Num.numE D 8192 = 0 := by unfold Num.numE; rw [hD.good]; rfl
 have hV : (Num.numN D 8192).toNat = E.length := by unfold Num.numN; rw [hD.good, hD.val]; simp
 have hc : cntX 1 [D] = .ok E.length := by
  rw [cntX_eq]
  have e1 : cntE [D] = 0 := by unfold cntE; rw [if_neg (by simp)]; exact hN
  have e2 : (cntN [D]).toNat = E.length := by unfold cntN; rw [if_neg (by simp)]; exact hV
  rw [if_pos e1, e2]
 rw [hc]
 simp only
 rw [ents_par fs E _ [] (rowsN_alone fs 2 hfs) hp (by simp)]
 simp
end Af
open Go.RowKit
namespace Af
open RowB FldW
def StrAt (w : World) (ao : Option Addr) (L : List Bs) : Prop := L ≠ [] → ∃ g off, ao = some ⟨g, off, none⟩ ∧ g < w.heap.size ∧ ∀ j x, L[j]? = some x → w.cell? ⟨g, off + j, none⟩ = some (.string (Fld.str x))
theorem StrAt.below {w w' : World} {ao : Option Addr} {L : List Bs} (h : StrAt w ao L) (k : Below w.heap.size w w') : StrAt w' ao L := fun hn => by
 obtain ⟨g, off, rfl, hg, hc⟩ := h hn
 exact ⟨g, off, rfl, Nat.lt_of_lt_of_le hg k.size, fun j x hj => (k.cell (p := ⟨g, off + j, none⟩) hg).trans (hc j x hj)⟩
theorem StrAt.of_own {w : World} {B : Nat} {v : Value} {L : List Bs} (h : w.ownsRow B 9 1 v L.length (vals L)) : ∃ ao cap, v = .slice ao L.length cap ∧ L.length ≤ cap ∧ StrAt w ao L := by
 obtain ⟨ao, cap, rfl, hc, -⟩ := own_len h
 refine ⟨ao, cap, rfl, hc, fun hn => ?_⟩
 have h0 : 0 < L.length := by cases L with | nil => exact absurd rfl hn | cons _ _ => simp
 obtain ⟨g, cap', e, -, hg, -, -, -, hcl⟩ := own_at h h0
 injection e with e1 e2 e3
 subst e1
 refine ⟨g, 0, rfl, hg, fun j x hj => ?_⟩
 have hj2 := (List.getElem?_eq_some_iff.1 hj).1
 rw [Nat.zero_add, hcl j (by omega)]
 simp [vals, hj]
theorem StrAt.take {w : World} {ao : Option Addr} {L : List Bs} (h : StrAt w ao L) (k : Nat) : StrAt w ao (L.take k) := fun hn => by
 obtain ⟨g, off, e, hg, hc⟩ := h (fun q => hn (by rw [q]; simp))
 refine ⟨g, off, e, hg, fun j x hj => hc j x ?_⟩
 by_cases hjk : j < k
 ·rwa [List.getElem?_take_of_lt hjk] at hj
 ·rw [List.getElem?_eq_none (by simp; omega)] at hj; cases hj
theorem joinL_snoc {L : List Bs} {k : Nat} {x : Bs} (h : L[k]? = some x) : joinL (L.take (k + 1)) = joinL (L.take k) ++ (x ++ [13, 10]) := by
 rw [List.take_add_one, h, joinL_append]
 simp [joinL]
theorem joinL_le (L : List Bs) (k : Nat) : (joinL (L.take k)).length ≤ (joinL L).length := by
 have : joinL L = joinL (L.take k) ++ joinL (L.drop k) := by rw [← joinL_append, List.take_append_drop]
 rw [this, List.length_append]
 omega
theorem ln_sum : ∀ (n : Nat) (l : Bs), l.length ≤ n → ((Ln.ln l).map List.length).sum ≤ l.length
 | 0, l, h => by
  have : l = [] := List.eq_nil_of_length_eq_zero (by omega)
  subst this
  simp [Ln.ln_nil]
 | n + 1, l, h => by
  by_cases hl : l = []
  ·subst hl; simp [Ln.ln_nil]
  ·have h1 := Ln.aft_lt l hl
   have ih := ln_sum n (Ln.aft l) (by omega)
   have h2 : (Ln.bef l).length + (Ln.aft l).length ≤ l.length := by
    clear ih h1 hl h
    induction l with
    | nil => simp [Ln.bef, Ln.aft]
    | cons c t q =>
     unfold Ln.bef Ln.aft
     split
     ·simp
     ·simp; omega
   have h3 := Ln.ended_len (Ln.bef l)
   rw [Ln.ln_cons l hl]
   simp
   omega
theorem lines_sum (l : Bs) : ((Ln.linesOf l).map List.length).sum ≤ l.length := by
 have h1 := ln_sum _ (Ln.unmark l) (Nat.le_refl _)
 have h2 := Ln.unmark_le l
 unfold Ln.linesOf
 omega
theorem str_size (l : Bs) : (Fld.str l).size = l.length := by show l.toArray.size = _; simp
theorem str_add (a b : Bs) : Fld.str a ++ Fld.str b = Fld.str (a ++ b) := by
 apply ByteArray.ext
 simp [Fld.str]
set_option maxRecDepth 100000 in
set_option maxHeartbeats 1000000 in
theorem joined_any (ao : Option Addr) (cap n : Nat) (L : List Bs) (w : World) (hn : L.length = n) (hb : n ≤ 1000000) (hz : (joinL L).length ≤ 1000000) (h : StrAt w ao L) :
  Calls Tryz.prog 23 #[.slice ao n cap] w fun e w' => e = .returned (.string (Fld.str (joinL L))) ∧ w' = w := by
 have HN := hide hn
 have HZ := hide hz
 have HC := hide h
 clear hn hz h
 go_enter Tryz.func23, Tryz.ntmps23
 go_wp2
 go_loop [3, 8] (fun s i => ∃ k : Nat, i = .int .i64 k ∧ k ≤ n ∧ s = .string (Fld.str (joinL (L.take k)))) (fun _ i => n - (intOf i).toNat)
 case atStart => exact ⟨0, rfl, Nat.zero_le _, rfl⟩
 case round =>
  obtain ⟨k, rfl, hk, rfl⟩ := hrel
  by_cases hlt : k < n
  ·obtain ⟨x, hx⟩ : ∃ x, L[k]? = some x := ⟨_, List.getElem?_eq_getElem (by rw [unhide HN]; exact hlt)⟩
   obtain ⟨g, off, rfl, hg, hc⟩ := unhide HC (by intro q; rw [q] at hx; cases hx)
   have hck := hc k x hx
   have e1 := joinL_snoc hx
   have hl1 := joinL_le L (k + 1)
   have hl0 : (joinL (L.take (k + 1))).length ≤ 1000000 := Nat.le_trans hl1 (unhide HZ)
   rw [e1, List.length_append] at hl0
   have ha1 : ∀ Wq : World, (Op.stringOp .add (Fld.str x) ⟨#[13, 10]⟩).run Tryz.prog Wq = .ok (.string (Fld.str (x ++ [13, 10]))) Wq := fun Wq => by
    rw [← str_add]
    exact run_string_add_sum _ _ _ (by rw [str_size]; have : (ByteArray.mk #[13, 10]).size = 2 := rfl; simp only [List.length_append] at hl0; omega)
   have ha2 : ∀ Wq : World, (Op.stringOp .add (Fld.str (joinL (L.take k))) (Fld.str (x ++ [13, 10]))).run Tryz.prog Wq = .ok (.string (Fld.str (joinL (L.take (k + 1))))) Wq := fun Wq => by
    rw [e1, show Fld.str (joinL (L.take k) ++ (x ++ [13, 10])) = Fld.str (joinL (L.take k)) ++ Fld.str (x ++ [13, 10]) from (str_add _ _).symm]
    exact run_string_add_sum _ _ _ (by rw [str_size, str_size]; omega)
   have hltz : (k : Int) < (n : Int) := by omega
   clear hc hx e1 hl1 hl0
   generalize Fld.str (joinL (L.take k)) = T at *
   generalize hT2 : Fld.str (joinL (L.take (k + 1))) = T2 at *
   have HT2 := hide hT2
   clear hT2
   generalize Fld.str (x ++ [13, 10]) = X2 at *
   generalize Fld.str x = X at *
   go_wp2
   go_round
   case rel => exact ⟨k + 1, by go_num, by omega, by rw [unhide HT2]⟩
   case measure => simp [intOf]; omega
  ·obtain rfl : k = n := by omega
   have hltz : ¬ (k : Int) < (k : Int) := by omega
   have e : L.take k = L := by rw [← unhide HN]; exact List.take_length
   rw [e]
   go_wp2
   go_ret
   exact ⟨rfl, rfl⟩
theorem Mx.up {w W : World} (h : Mx w.heap.size w) (b : Below w.heap.size w W) : Mx W.heap.size W := by
 obtain ⟨h1, h2⟩ := h.low b
 exact ⟨Nat.lt_of_lt_of_le h1 b.size, h2⟩
abbrev dfV (k c : Nat) : Value := .agg #[.int .i64 2, .int .i64 (k : Nat), .int .i64 (c : Nat)]
def DicOk (w1 : World) (fb : Nat) (F : Fil) : Prop := ∀ W, Below w1.heap.size w1 W → ∀ s : ByteArray, Calls Tryz.prog 18 #[.pointer (some ⟨fb, 0, none⟩), .string s] W (DRes W (dicR F s.data.toList))
theorem DicOk.no {w1 W : World} {fb : Nat} {F : Fil} (h : DicOk w1 fb F) (b : Below w1.heap.size w1 W) {s : ByteArray} {k c : Nat} (hx : dicR F s.data.toList = .error (k, c)) : Calls Tryz.prog 18 #[.pointer (some ⟨fb, 0, none⟩), .string s] W fun e w' => e = .returned (.tuple #[.pointer none, dfV k c]) ∧ Below W.heap.size W w' := by
 refine (h W b s).mono ?_
 rintro e w' ⟨q1, q2⟩
 rw [hx] at q2
 exact ⟨q2, q1⟩
theorem DicOk.yes {w1 W : World} {fb : Nat} {F : Fil} (h : DicOk w1 fb F) (b : Below w1.heap.size w1 W) {s : ByteArray} {E : List Ent} (hx : dicR F s.data.toList = .ok E) : Calls Tryz.prog 18 #[.pointer (some ⟨fb, 0, none⟩), .string s] W fun e w' => ∃ wb, e = .returned (.tuple #[.pointer (some ⟨wb, 0, none⟩), .agg #[.int .i64 0, .int .i64 0, .int .i64 0]]) ∧ Below W.heap.size W w' := by
 refine (h W b s).mono ?_
 rintro e w' ⟨q1, q2⟩
 rw [hx] at q2
 obtain ⟨n0, wb, Q, -, q3, -⟩ := q2
 exact ⟨wb, q3, q1⟩
def AffOk (w : World) (a : ByteArray) (F : Fil) : Prop := Calls Tryz.prog 12 #[.string a] w fun e w1 => ∃ fb, e = .returned (.tuple #[.pointer (some ⟨fb, 0, none⟩), .agg #[.int .i64 0, .int .i64 0, .int .i64 0]]) ∧ Below w.heap.size w w1 ∧ DicOk w1 fb F
theorem affOk {w : World} {a : ByteArray} {F : Fil} (hM : Mx w.heap.size w) (h : affR a.data.toList = .ok F) : AffOk w a F := by
 refine (Read_any a w hM).mono ?_
 rintro e w1 ⟨b, q⟩
 rw [h] at q
 obtain ⟨B, P, hB, rfl, hF⟩ := q
 refine ⟨P.fb, rfl, b, fun W bW s => ?_⟩
 have hFB : B ≤ w1.heap.size := Nat.le_of_lt (Nat.lt_of_le_of_lt hF.fbB (lt_some hF.fil))
 have hMB : Mx B W := by
  obtain ⟨m1, m2⟩ := (hM.low b).low (bW.mono b.size)
  exact ⟨Nat.lt_of_lt_of_le m1 hB, m2⟩
 exact dic_of h (hF.below bW) hMB (Nat.le_trans hFB bW.size) s
theorem DicOk.yesW {w1 W : World} {fb : Nat} {F : Fil} (h : DicOk w1 fb F) (b : Below w1.heap.size w1 W) {s : ByteArray} {E : List Ent} (hx : dicR F s.data.toList = .ok E) : Calls Tryz.prog 18 #[.pointer (some ⟨fb, 0, none⟩), .string s] W fun e w' => ∃ wb n Q, e = .returned (.tuple #[.pointer (some ⟨wb, 0, none⟩), .agg #[.int .i64 0, .int .i64 0, .int .i64 0]]) ∧ Below W.heap.size W w' ∧ WA n w' wb E E Q := by
 refine (h W b s).mono ?_
 rintro e w' ⟨q1, q2⟩
 rw [hx] at q2
 obtain ⟨n0, wb, Q, -, q3, q4⟩ := q2
 exact ⟨wb, n0, Q, q3, q1, q4⟩
theorem infoS : (Tryz.prog.info? 9).map (fun i => (i.zero, i.size, i.bytes)) = some (some (.string ⟨#[]⟩), 1, 16) := by kernel_rfl
theorem add0 (g off j : Nat) : (⟨g, off, none⟩ : Addr).add j = ⟨g, off + j, none⟩ := by
 unfold Addr.add
 split
 ·next h => subst h; simp
 ·simp
theorem joinL_sum (l : List Bs) : (joinL l).length = (l.map List.length).sum + 2 * l.length := by
 induction l with
 | nil => rfl
 | cons a b ih => simp [joinL, ih]; omega
end Af
namespace Af
def lens (L : List Bs) : Nat := (L.map List.length).sum
theorem lens_cons (a : Bs) (t : List Bs) : lens (a :: t) = a.length + lens t := by simp [lens]
theorem lens_append (A B : List Bs) : lens (A ++ B) = lens A + lens B := by simp [lens]
theorem lens_set : ∀ (L : List Bs) (i : Nat) (x : Bs), lens (L.set i x) ≤ lens L + x.length
 | [], i, x => Nat.zero_le _
 | a :: t, 0, x => by
  show lens (x :: t) ≤ _
  rw [lens_cons, lens_cons]
  omega
 | a :: t, i + 1, x => by
  have := lens_set t i x
  show lens (a :: t.set i x) ≤ _
  rw [lens_cons, lens_cons]
  omega
theorem lens_mem {L : List Bs} {x : Bs} (h : x ∈ L) : x.length ≤ lens L := by
 induction L with
 | nil => cases h
 | cons a t ih =>
  rcases List.mem_cons.1 h with rfl | h
  ·simp [lens]
  ·have := ih h
   simp [lens] at this ⊢
   omega
theorem lens_take {p : Bs → Bool} : ∀ (L : List Bs), lens (L.takeWhile p) ≤ lens L
 | [] => by simp [lens]
 | a :: t => by
  have := lens_take (p := p) t
  rw [List.takeWhile_cons]
  split
  ·simp only [lens] at this ⊢
   simp
   omega
  ·simp [lens]
theorem st_len (l : Bs) : lens (Fld.st l).1 + (Fld.st l).2.length ≤ l.length := by
 refine Fld.snoc_ind (P := fun l => lens (Fld.st l).1 + (Fld.st l).2.length ≤ l.length) (by simp [Fld.st, lens]) ?_ l
 intro l d h
 rw [Fld.st_snoc]
 unfold Fld.stp
 by_cases hb : Fld.blank d = true
 ·rw [if_pos hb]
  dsimp only
  split
  ·simp; omega
  ·rw [lens_append]
   have : lens [(Fld.st l).2] = (Fld.st l).2.length := by simp [lens]
   simp
   omega
 ·rw [if_neg hb]
  simp
  omega
theorem fields_len (l : Bs) : lens (Fld.fieldsOf l) ≤ l.length := by
 have h := st_len l
 unfold Fld.fieldsOf Fld.fin
 split
 ·omega
 ·rw [lens_append]
  have : lens [(Fld.st l).2] = (Fld.st l).2.length := by simp [lens]
  omega
theorem rowsN_len : ∀ (L : List Bs) (k : Nat), ((rowsN k L).map fun p => lens p.2).sum ≤ lens L
 | [], k => Nat.zero_le _
 | l :: t, k => by
  have ih := rowsN_len t (k + 1)
  rw [rowsN_cons, List.map_append, List.sum_append]
  have : ((Rw.rowOf k l).map fun p => lens p.2).sum ≤ l.length := by
   unfold Rw.rowOf
   split
   ·simp
   ·have h1 := fields_len l
    have h2 : lens (Rw.keep (Fld.fieldsOf l)) ≤ lens (Fld.fieldsOf l) := lens_take _
    simp only [List.map_cons, List.map_nil, List.sum_cons, List.sum_nil]
    omega
  rw [lens_cons]
  exact Nat.add_le_add this ih
theorem singles_len : ∀ (R : List (Nat × List Bs)) (fs : List Bs), R.map (fun p => p.2) = fs.map (fun f => [f]) → (R.map fun p => lens p.2).sum = lens fs
 | [], [], _ => rfl
 | [], f :: fs, h => by simp at h
 | p :: R, [], h => by simp at h
 | p :: R, f :: fs, h => by
  simp only [List.map_cons, List.cons.injEq] at h
  have := singles_len R fs h.2
  have e : lens p.2 = f.length := by rw [h.1]; simp [lens]
  rw [lens_cons, List.map_cons, List.sum_cons]
  omega
theorem rows_len {s : Bs} {p : Nat × List Bs} {t : List (Nat × List Bs)} {fs : List Bs} (h : Rw.rowsOf s = p :: t) (hf : t.map (fun p => p.2) = fs.map (fun f => [f])) : lens fs ≤ s.length := by
 have h1 := rowsN_len (Ln.linesOf s) 1
 rw [← rowsOf_eq, h] at h1
 have h2 := lines_sum s
 have h3 := singles_len t fs hf
 rw [List.map_cons, List.sum_cons] at h1
 have h4 : lens (Ln.linesOf s) = ((Ln.linesOf s).map List.length).sum := rfl
 omega
theorem Par.put {F : Fil} {fs : List Bs} {E : List Ent} (h : Par F fs E) (i : Nat) {f : Bs} {x : Ent} (hx : entRow F [f] = .ok x) : Par F (fs.set i f) (E.set i x) := by
 refine ⟨by simp [h.1], fun k g hg => ?_⟩
 rw [List.getElem?_set] at hg
 rw [List.getElem?_set]
 split at hg
 ·rename_i q
  split at hg
  ·injection hg with hg
   subst hg
   rename_i q2
   rw [if_pos q, if_pos (by rw [← h.1]; exact q2)]
   exact ⟨_, rfl, hx⟩
  ·cases hg
 ·rename_i q
  rw [if_neg q]
  exact h.2 k g hg
def turnF (fs : List Bs) (i j : Nat) (fi fj : Bs) : List Bs := (fs.set i fj).set j fi ++ [fi]
theorem turnF_len (fs : List Bs) (i j : Nat) (fi fj : Bs) : (turnF fs i j fi fj).length = fs.length + 1 := by simp [turnF]
structure TurnE (F : Fil) (E E2 : List Ent) (fs : List Bs) (i j : Nat) (fi fj : Bs) : Prop where
 gi : fs[i]? = some fi
 gj : fs[j]? = some fj
 read : E.length < 8192 → ∀ D, DgN D (E.length + 1) → ¬ 65536 < (joinL (D :: turnF fs i j fi fj)).length → dicR F (joinL (D :: turnF fs i j fi fj)) = .ok E2
 size : lens (turnF fs i j fi fj) ≤ 4 * lens fs
 len : E2.length = E.length + 1
 ei : E2[i]? = E[j]?
 ej : E2[j]? = E[i]?
 en : E2[E.length]? = E[i]?
 ek : ∀ k, k < E.length → k ≠ i → k ≠ j → E2[k]? = E[k]?
theorem turn_law {F : Fil} {fs : List Bs} {E : List Ent} (hp : Par F fs E) (ha : ∀ f ∈ fs, aloneL f) {i j : Nat} (hi : i < E.length) (hj : j < E.length) : ∃ fi fj E2, TurnE F E E2 fs i j fi fj := by
 have hl := hp.1
 have gi : fs[i]? = some (fs[i]'(by omega)) := List.getElem?_eq_getElem _
 have gj : fs[j]? = some (fs[j]'(by omega)) := List.getElem?_eq_getElem _
 generalize fs[i]'(by omega) = fi at gi
 generalize fs[j]'(by omega) = fj at gj
 obtain ⟨xi, xi1, xi2⟩ := hp.2 i fi gi
 obtain ⟨xj, xj1, xj2⟩ := hp.2 j fj gj
 have mi := List.mem_of_getElem? gi
 have mj := List.mem_of_getElem? gj
 have hE : ∀ k, ((E.set i xj).set j xi)[k]? = if j = k then some xi else if i = k then some xj else E[k]? := fun k => by
  rw [List.getElem?_set, List.getElem?_set]
  by_cases h1 : j = k
  ·subst h1
   simp [hj]
  ·rw [if_neg h1, if_neg h1]
   by_cases h2 : i = k
   ·subst h2
    simp [hi]
   ·rw [if_neg h2, if_neg h2]
 have hin : ∀ k, k < E.length → ((E.set i xj).set j xi ++ [xi])[k]? = ((E.set i xj).set j xi)[k]? := fun k hk => List.getElem?_append_left (by simpa using hk)
 refine ⟨fi, fj, (E.set i xj).set j xi ++ [xi], gi, gj, fun hn D hD hs => ?_, ?_, by simp, ?_, ?_, ?_, fun k hk k1 k2 => ?_⟩
 ·refine dic_make (fun f hf => ?_) (Par.snoc (Par.put (Par.put hp i xj2) j xi2) xi2) (by simp; omega) (by simpa using hD) hs
  unfold turnF at hf
  rcases List.mem_append.1 hf with q | q
  ·rcases List.mem_or_eq_of_mem_set q with q | rfl
   ·rcases List.mem_or_eq_of_mem_set q with q | rfl
    ·exact ha f q
    ·exact ha _ mj
   ·exact ha _ mi
  ·rw [List.mem_singleton] at q
   rw [q]
   exact ha _ mi
 ·unfold turnF
  rw [lens_append]
  have h1 := lens_set (fs.set i fj) j fi
  have h2 := lens_set fs i fj
  have h3 := lens_mem mi
  have h4 := lens_mem mj
  have h5 : lens [fi] = fi.length := by simp [lens]
  omega
 ·rw [hin i hi, hE, xj1]
  by_cases h : j = i
  ·subst h
   rw [if_pos rfl]
   rw [xi1] at xj1
   exact xj1
  ·rw [if_neg h, if_pos rfl]
 ·rw [hin j hj, hE, if_pos rfl, xi1]
 ·rw [List.getElem?_append_right (by simp), xi1]
  simp
 ·rw [hin k hk, hE, if_neg (fun q => k2 q.symm), if_neg (fun q => k1 q.symm)]
open RowB FldW
end Af
end Go.Proofs.YtidhbhdcoanfcaaGreatDoor
