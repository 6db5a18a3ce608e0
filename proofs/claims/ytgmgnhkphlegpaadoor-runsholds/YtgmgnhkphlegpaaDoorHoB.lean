/- Layer 5: the book through one call. No walk. -/
import Derived.Test.YtgmgnhkphlegpaaDoorHoA
namespace Go.Proofs.YtgmgnhkphlegpaaDoor
open Go.RowKit
namespace Rs
theorem look_repl (l : List Run) (r : Run) (k : Int) : look (repl l r) k = (look l k).map fun x => if x.num = r.num then r else x := by
  unfold look repl
  rw [List.find?_map]
  congr 1
  refine congrArg (fun p => List.find? p l) (funext fun x => ?_)
  simp only [Function.comp]
  split
  · rename_i h; rw [h]
  · rfl
theorem look_drop (l : List Run) (k j : Int) : look (drop l k) j = if j = k then none else look l j := by
  unfold look drop
  induction l with
  | nil => simp
  | cons x t ih =>
    rw [List.filter_cons]
    by_cases h : (x.num : Int) = k
    · simp only [h, beq_self_eq_true, Bool.not_true, Bool.false_eq_true, if_false, ih]
      by_cases hj : j = k
      · simp [hj]
      · rw [if_neg hj, if_neg hj, List.find?_cons]
        have : ((x.num : Int) == j) = false := by simp; omega
        simp [this]
    · have h1 : ((x.num : Int) == k) = false := by simp [h]
      simp only [h1, Bool.not_false, if_true, List.find?_cons, ih]
      by_cases hj : (x.num : Int) = j
      · have : ((x.num : Int) == j) = true := by simp [hj]
        simp only [this]
        rw [if_neg (by omega)]
      · have : ((x.num : Int) == j) = false := by simp [hj]
        simp only [this]
theorem look_new (l : List Run) (r : Run) (k : Int) : look (l ++ [r]) k = (look l k).or (if (r.num : Int) = k then some r else none) := by
  unfold look
  rw [List.find?_append]
  by_cases h : (r.num : Int) = k
  · simp [h]
  · simp [h]
theorem tells_same {m m' : Sto} {bk : List (List UInt8 × Bool)} (hm : m'.made = m.made) (hl : ∀ k, (look m'.runs k).map (·.txt) = (look m.runs k).map (·.txt)) (h : Tells m bk) : Tells m' bk := by
  refine ⟨h.len.trans hm.symm, fun j t hj => ?_, fun j t hj => ?_⟩
  · obtain ⟨r, hr, e⟩ := h.yes j t hj
    have := hl ((j : Int) + 1)
    rw [hr] at this
    obtain ⟨r', h1, h2⟩ := Option.map_eq_some_iff.1 this
    exact ⟨r', h1, by rw [h2]; exact e⟩
  · have := hl ((j : Int) + 1)
    rw [h.no j t hj] at this
    simpa using this
theorem ply_cap (m : Sto) (o : Op5) : (ply m o).2.cap = m.cap := by
  have h1 : (crt m).2.cap = m.cap := by unfold crt; repeat' split
                                        all_goals rfl
  have h2 : (app m o.run o.L).2.cap = m.cap := by unfold app; repeat' split
                                                  all_goals rfl
  have h3 : (sel m o.run).2.cap = m.cap := by unfold sel; repeat' split
                                              all_goals rfl
  have h6 : (rem m o.run).2.cap = m.cap := by unfold rem; repeat' split
                                              all_goals rfl
  unfold ply
  repeat' split
  all_goals first | exact h1 | exact h2 | exact h3 | exact h6 | rfl
/-- nothing that the book tells has changed -/
theorem tells_stay {m : Sto} {o : Op5} {bk : List (List UInt8 × Bool)} (h : Tells m bk) (hc : (ply m o).1.c ≠ 0 ∨ (o.kd ≠ 1 ∧ o.kd ≠ 2 ∧ o.kd ≠ 6)) : Tells (ply m o).2 bk := by
  have ht : Tells m.tick bk := tells_same (m := m) rfl (fun _ => rfl) h
  unfold ply at hc ⊢
  by_cases k1 : o.kd = 1
  · simp only [if_pos k1] at hc ⊢
    unfold crt at hc ⊢
    repeat' split
    all_goals first | exact ht | skip
    rename_i h1 h2
    simp [h1, h2, k1] at hc
  simp only [if_neg k1] at hc ⊢
  by_cases k2 : o.kd = 2
  · simp only [if_pos k2] at hc ⊢
    unfold app at hc ⊢
    split
    · exact ht
    · rename_i h1
      rw [if_neg h1] at hc
      rcases hl : look m.runs o.run with _ | r
      · exact ht
      · simp only [hl] at hc ⊢
        cases hs : r.shut
        · by_cases hf : tot m.runs + sz o.L ≤ m.cap
          · simp [hs, hf, k2] at hc
          · simp only [Bool.false_eq_true, if_false, if_neg hf]
            exact ht
        · simp only [if_true]
          exact ht
  simp only [if_neg k2] at hc ⊢
  by_cases k3 : o.kd = 3
  · simp only [if_pos k3]
    unfold sel
    split
    · exact ht
    · rcases hl : look m.runs o.run with _ | r
      · exact ht
      · cases hs : r.shut
        · simp only [Bool.false_eq_true, if_false, hs]
          refine tells_same (m := m) rfl (fun k => ?_) h
          simp only [look_repl]
          rcases hk : look m.runs k with _ | x
          · rfl
          · simp only [Option.map_some, Option.some.injEq]
            split
            · rename_i e
              have e1 := (look_mem hk).2
              have e2 := (look_mem hl).2
              have : look m.runs k = look m.runs o.run := by rw [← e1, ← e2, e]
              rw [hk, hl] at this
              injection this with this
              rw [this]
            · rfl
        · simp only [hs, if_true]
          exact ht
  simp only [if_neg k3] at hc ⊢
  by_cases k6 : o.kd = 6
  · have k4 : ¬ o.kd = 4 := by omega
    have k5 : ¬ o.kd = 5 := by omega
    simp only [if_neg k4, if_neg k5, if_pos k6] at hc ⊢
    unfold rem at hc ⊢
    rcases hl : look m.runs o.run with _ | r
    · exact h
    · simp [hl, k6] at hc
  simp only [if_neg k6]
  repeat' split
  all_goals first | exact h | exact tells_same (m := m) rfl (fun _ => rfl) h
theorem tells_create {m : Sto} {o : Op5} {bk : List (List UInt8 × Bool)} (h : Tells m bk) (ok : m.Ok) (hk : o.kd = 1) (hc : (ply m o).1.c = 0) : (ply m o).1.n = ((bk.length + 1 : Nat) : Int) ∧ (ply m o).2.made = bk.length + 1 ∧ Tells (ply m o).2 (bk ++ [([], true)]) := by
  unfold ply at hc ⊢
  simp only [if_pos hk] at hc ⊢
  unfold crt at hc ⊢
  split at hc
  · cases hc
  split at hc
  · cases hc
  rename_i h1 h2
  rw [if_neg h1, if_neg h2]
  have hl := h.len
  refine ⟨by rw [hl], by simp [Sto.newRun, Sto.tick, hl], ⟨by simp [Sto.newRun, Sto.tick, hl], fun j t hj => ?_, fun j t hj => ?_⟩⟩
  · simp only [Sto.newRun, Sto.tick, look_new]
    by_cases hb : j < bk.length
    · rw [List.getElem?_append_left hb] at hj
      obtain ⟨r, hr, e⟩ := h.yes j t hj
      exact ⟨r, by rw [hr]; rfl, e⟩
    · rw [List.getElem?_append_right (by omega)] at hj
      have e0 : j - bk.length = 0 := by
        rcases Nat.lt_or_ge (j - bk.length) 1 with x | x
        · omega
        · rw [List.getElem?_eq_none (by simpa using x)] at hj; cases hj
      rw [e0] at hj
      have ej : j = m.made := by omega
      have et : t = [] := by simpa using hj.symm
      subst et
      refine ⟨⟨m.made + 1, [], false⟩, ?_, rfl⟩
      have hn : look m.runs ((j : Int) + 1) = none := by
        rcases hx : look m.runs ((j : Int) + 1) with _ | r
        · rfl
        · have := look_mem hx
          have := ok.nums r this.1
          omega
      rw [hn, if_pos (by show ((m.made + 1 : Nat) : Int) = (j : Int) + 1; omega)]
      rfl
  · by_cases hb : j < bk.length
    · rw [List.getElem?_append_left hb] at hj
      simp only [Sto.newRun, Sto.tick, look_new]
      rw [h.no j t hj, if_neg (by show ¬ ((m.made + 1 : Nat) : Int) = (j : Int) + 1; omega)]
      rfl
    · rw [List.getElem?_append_right (by omega)] at hj
      rcases Nat.lt_or_ge (j - bk.length) 1 with x | x
      · rw [show j - bk.length = 0 by omega] at hj
        simp at hj
      · rw [List.getElem?_eq_none (by simpa using x)] at hj; cases hj
/-- a run that there is stands in the book -/
theorem tells_at {m : Sto} {bk : List (List UInt8 × Bool)} (h : Tells m bk) (ok : m.Ok) {k : Int} {r : Run} (hr : look m.runs k = some r) : ∃ i : Nat, k = (i : Int) + 1 ∧ bk[i]? = some (r.txt, true) ∧ i < bk.length := by
  obtain ⟨hm, hn⟩ := look_mem hr
  have hx := ok.nums r hm
  have hl := h.len
  refine ⟨r.num - 1, by omega, ?_, by omega⟩
  obtain ⟨⟨t, b⟩, hp⟩ : ∃ p, bk[r.num - 1]? = some p := ⟨_, List.getElem?_eq_getElem (by omega)⟩
  have ek : ((r.num - 1 : Nat) : Int) + 1 = k := by omega
  cases b
  · have := h.no _ t hp
    rw [ek, hr] at this
    cases this
  · obtain ⟨r', h1, h2⟩ := h.yes _ t hp
    rw [ek, hr] at h1
    injection h1 with h1
    rw [hp, ← h2, ← h1]
theorem tells_append {m : Sto} {o : Op5} {bk : List (List UInt8 × Bool)} (h : Tells m bk) (ok : m.Ok) (hk : o.kd = 2) (hc : (ply m o).1.c = 0) : ∃ (i : Nat) (t : List UInt8), o.run = (i : Int) + 1 ∧ bk[i]? = some (t, true) ∧ i < bk.length ∧ t.length + sz o.L ≤ 67108864 ∧ Tells (ply m o).2 (bk.set i (t ++ bytes o.L, true)) := by
  unfold ply at hc ⊢
  simp only [hk, show ¬ (2 : Int) = 1 by decide, if_false, if_true] at hc ⊢
  unfold app at hc ⊢
  split at hc
  · cases hc
  rename_i h1
  rw [if_neg h1]
  rcases hl : look m.runs o.run with _ | r
  · rw [hl] at hc; cases hc
  rw [hl] at hc
  cases hs : r.shut
  · by_cases hf : tot m.runs + sz o.L ≤ m.cap
    · obtain ⟨i, e1, e2, e3⟩ := tells_at h ok hl
      have hn := (look_mem hl).2
      have hcap := ok.cap
      have hle := tot_mem (look_mem hl).1
      refine ⟨i, r.txt, e1, e2, e3, by omega, ?_⟩
      simp only [hs, Bool.false_eq_true, if_false, if_pos hf]
      refine ⟨by simp [Sto.app, Sto.tick, h.len], fun j t hj => ?_, fun j t hj => ?_⟩
      · simp only [Sto.app, Sto.tick, look_repl]
        rw [List.getElem?_set] at hj
        by_cases hij : i = j
        · subst hij
          rw [if_pos rfl, if_pos e3] at hj
          have et : r.txt ++ bytes o.L = t := by simpa using hj
          rw [← e1, hl]
          exact ⟨{ r with txt := r.txt ++ bytes o.L }, by simp, et⟩
        · rw [if_neg hij] at hj
          obtain ⟨x, hx, ex⟩ := h.yes j t hj
          refine ⟨x, ?_, ex⟩
          have := (look_mem hx).2
          rw [hx, Option.map_some, if_neg (fun e => by have : (x.num : Int) = r.num := by rw [e]
                                                       omega)]
      · simp only [Sto.app, Sto.tick, look_repl]
        rw [List.getElem?_set] at hj
        by_cases hij : i = j
        · subst hij
          rw [if_pos rfl, if_pos e3] at hj
          simp at hj
        · rw [if_neg hij] at hj
          rw [h.no j t hj]
          rfl
    · simp [hs, hf] at hc
  · simp [hs] at hc
theorem tells_remove {m : Sto} {o : Op5} {bk : List (List UInt8 × Bool)} (h : Tells m bk) (ok : m.Ok) (hk : o.kd = 6) (hc : (ply m o).1.c = 0) : ∃ (i : Nat) (t : List UInt8), o.run = (i : Int) + 1 ∧ bk[i]? = some (t, true) ∧ i < bk.length ∧ Tells (ply m o).2 (bk.set i (t, false)) := by
  unfold ply at hc ⊢
  simp only [hk, show ¬ (6 : Int) = 1 by decide, show ¬ (6 : Int) = 2 by decide, show ¬ (6 : Int) = 3 by decide, show ¬ (6 : Int) = 4 by decide, show ¬ (6 : Int) = 5 by decide, if_false, if_true] at hc ⊢
  unfold rem at hc ⊢
  rcases hl : look m.runs o.run with _ | r
  · rw [hl] at hc; cases hc
  obtain ⟨i, e1, e2, e3⟩ := tells_at h ok hl
  refine ⟨i, r.txt, e1, e2, e3, ⟨by simp [h.len], fun j t hj => ?_, fun j t hj => ?_⟩⟩
  · simp only [look_drop]
    rw [List.getElem?_set] at hj
    by_cases hij : i = j
    · subst hij
      rw [if_pos rfl, if_pos e3] at hj
      simp at hj
    · rw [if_neg hij] at hj
      obtain ⟨x, hx, ex⟩ := h.yes j t hj
      exact ⟨x, by rw [if_neg (by omega)]; exact hx, ex⟩
  · simp only [look_drop]
    rw [List.getElem?_set] at hj
    by_cases hij : i = j
    · subst hij
      rw [if_pos e1.symm]
    · rw [if_neg hij] at hj
      rw [if_neg (by omega), h.no j t hj]
/-- the book's cells -/
def bkC (bk : List (List UInt8 × Bool)) : List Value := bk.flatMap fun p => [.string (strB p.1), .bool p.2]
theorem bkC_cons (p : List UInt8 × Bool) (bk : List (List UInt8 × Bool)) : bkC (p :: bk) = .string (strB p.1) :: .bool p.2 :: bkC bk := rfl
theorem bkC_len (bk : List (List UInt8 × Bool)) : (bkC bk).length = bk.length * 2 := by
  induction bk with
  | nil => rfl
  | cons x t ih => rw [bkC_cons]; simp [ih]; omega
theorem bkC_app (bk : List (List UInt8 × Bool)) (t : List UInt8) (b : Bool) : bkC (bk ++ [(t, b)]) = bkC bk ++ [.string (strB t), .bool b] := by simp [bkC]
theorem bkC_get {bk : List (List UInt8 × Bool)} {j : Nat} {t : List UInt8} {b : Bool} (h : bk[j]? = some (t, b)) : (bkC bk)[j * 2]? = some (.string (strB t)) ∧ (bkC bk)[j * 2 + 1]? = some (.bool b) := by
  induction bk generalizing j with
  | nil => simp at h
  | cons x l ih =>
    rw [bkC_cons]
    rcases j with _ | j
    · have : x = (t, b) := by simpa using h
      subst this
      exact ⟨rfl, rfl⟩
    · have := ih (j := j) (by simpa using h)
      rw [show (j + 1) * 2 = j * 2 + 1 + 1 by omega]
      simpa using this
theorem bkC_set0 {bk : List (List UInt8 × Bool)} {j : Nat} {t t' : List UInt8} {b : Bool} (h : bk[j]? = some (t, b)) : (bkC bk).set (j * 2) (.string (strB t')) = bkC (bk.set j (t', b)) := by
  induction bk generalizing j with
  | nil => simp at h
  | cons x l ih =>
    rcases j with _ | j
    · have : x = (t, b) := by simpa using h
      subst this
      rfl
    · have := ih (j := j) (by simpa using h)
      rw [show (j + 1) * 2 = j * 2 + 1 + 1 by omega, bkC_cons]
      simp [bkC_cons, this]
theorem bkC_set1 {bk : List (List UInt8 × Bool)} {j : Nat} {t : List UInt8} {b b' : Bool} (h : bk[j]? = some (t, b)) : (bkC bk).set (j * 2 + 1) (.bool b') = bkC (bk.set j (t, b')) := by
  induction bk generalizing j with
  | nil => simp at h
  | cons x l ih =>
    rcases j with _ | j
    · have : x = (t, b) := by simpa using h
      subst this
      rfl
    · have := ih (j := j) (by simpa using h)
      rw [show (j + 1) * 2 + 1 = j * 2 + 1 + 1 + 1 by omega, bkC_cons]
      simp [bkC_cons, this]
end Rs
end Go.Proofs.YtgmgnhkphlegpaaDoor
