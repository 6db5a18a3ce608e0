/- Layer 5: a store with a break ahead answers as one without. No walk. -/
import Derived.Test.YtgmgnhkphlegpaaDoorPlB
namespace Go.Proofs.YtgmgnhkphlegpaaDoor
open Go.RowKit
namespace Rs
def Sto.wa (m : Sto) (a : Nat) : Sto := { m with ahead := a }
theorem wa_self {m : Sto} (h : m.ahead = 0) : m.wa 0 = m := by cases m; simp only [Sto.wa] at *; subst h; rfl
theorem crt_wa {m : Sto} (h : m.ahead = 0) {a : Nat} (ha : a ≠ 1) : (crt m).2.ahead = 0 ∧ crt (m.wa a) = ((crt m).1, (crt m).2.wa (a - 1)) := by
  unfold crt
  rw [if_neg (by rw [h]; decide), if_neg (show ¬ (m.wa a).ahead = 1 from ha)]
  by_cases h8 : 16777216 ≤ m.made
  · rw [if_pos h8, if_pos (show 16777216 ≤ (m.wa a).made from h8)]
    exact ⟨by simp [Sto.tick, h], rfl⟩
  · rw [if_neg h8, if_neg (show ¬ 16777216 ≤ (m.wa a).made from h8)]
    exact ⟨by simp [Sto.tick, Sto.newRun, h], rfl⟩
theorem app_wa {m : Sto} (h : m.ahead = 0) {a : Nat} (ha : a ≠ 1) (k : Int) (L : List ByteArray) : (app m k L).2.ahead = 0 ∧ app (m.wa a) k L = ((app m k L).1, (app m k L).2.wa (a - 1)) := by
  unfold app
  rw [if_neg (by rw [h]; decide), if_neg (show ¬ (m.wa a).ahead = 1 from ha), show (m.wa a).runs = m.runs from rfl, show (m.wa a).cap = m.cap from rfl]
  rcases look m.runs k with _ | r
  · exact ⟨by simp [Sto.tick, h], rfl⟩
  · cases hs : r.shut
    · by_cases hc : tot m.runs + sz L ≤ m.cap
      · simp only [hs, Bool.false_eq_true, if_false, if_pos hc]
        exact ⟨by simp [Sto.tick, Sto.app, h], rfl⟩
      · simp only [hs, Bool.false_eq_true, if_false, if_neg hc]
        exact ⟨by simp [Sto.tick, h], rfl⟩
    · simp only [hs, if_true]
      exact ⟨by simp [Sto.tick, h], rfl⟩
theorem sel_wa {m : Sto} (h : m.ahead = 0) {a : Nat} (ha : a ≠ 1) (k : Int) : (sel m k).2.ahead = 0 ∧ sel (m.wa a) k = ((sel m k).1, (sel m k).2.wa (a - 1)) := by
  unfold sel
  rw [if_neg (by rw [h]; decide), if_neg (show ¬ (m.wa a).ahead = 1 from ha), show (m.wa a).runs = m.runs from rfl]
  rcases look m.runs k with _ | r
  · exact ⟨by simp [Sto.tick, h], rfl⟩
  · cases hs : r.shut
    · simp only [hs, Bool.false_eq_true, if_false]
      exact ⟨by simp [Sto.tick, h], rfl⟩
    · simp only [hs, if_true]
      exact ⟨by simp [Sto.tick, h], rfl⟩
theorem rem_wa {m : Sto} (h : m.ahead = 0) (a : Nat) (k : Int) : (rem m k).2.ahead = 0 ∧ rem (m.wa a) k = ((rem m k).1, (rem m k).2.wa a) := by
  unfold rem
  rw [show (m.wa a).runs = m.runs from rfl]
  rcases look m.runs k with _ | r
  · exact ⟨h, rfl⟩
  · exact ⟨h, rfl⟩
theorem ply_step {m : Sto} (h : m.ahead = 0) {a : Nat} (ha : a ≠ 1) {o : Op5} (h1 : 1 ≤ o.kd) (h2 : o.kd ≤ 3) : (ply m o).2.ahead = 0 ∧ ply (m.wa a) o = ((ply m o).1, (ply m o).2.wa (a - 1)) := by
  unfold ply
  by_cases k1 : o.kd = 1
  · have := crt_wa h ha
    simp only [if_pos k1, this.2]
    exact ⟨this.1, trivial⟩
  by_cases k2 : o.kd = 2
  · have := app_wa h ha o.run o.L
    simp only [if_neg k1, if_pos k2, this.2]
    exact ⟨this.1, trivial⟩
  have k3 : o.kd = 3 := by omega
  have := sel_wa h ha o.run
  simp only [if_neg k1, if_neg k2, if_pos k3, this.2]
  exact ⟨this.1, trivial⟩
theorem ply_stay {m : Sto} (h : m.ahead = 0) (a : Nat) {o : Op5} (h1 : o.kd < 1 ∨ 3 < o.kd) (h2 : o.kd ≠ 11) : (ply m o).2.ahead = 0 ∧ ply (m.wa a) o = ((ply m o).1, (ply m o).2.wa a) := by
  unfold ply
  by_cases k1 : o.kd = 1
  · omega
  by_cases k2 : o.kd = 2
  · omega
  by_cases k3 : o.kd = 3
  · omega
  simp only [if_neg k1, if_neg k2, if_neg k3, if_neg h2]
  by_cases k6 : o.kd = 6
  · have := rem_wa h a o.run
    have k4 : ¬ o.kd = 4 := by omega
    have k5 : ¬ o.kd = 5 := by omega
    simp only [if_neg k4, if_neg k5, if_pos k6, this.2]
    exact ⟨this.1, trivial⟩
  simp only [if_neg k6]
  repeat' split
  all_goals exact ⟨h, rfl⟩
theorem ply_break {m : Sto} {o : Op5} (h1 : 1 ≤ o.kd) (h2 : o.kd ≤ 3) : ply (m.wa 1) o = (⟨0, 9, [], []⟩, m.wa 0) := by
  unfold ply
  by_cases k1 : o.kd = 1
  · rw [if_pos k1]; rfl
  by_cases k2 : o.kd = 2
  · rw [if_neg k1, if_pos k2]; rfl
  have k3 : o.kd = 3 := by omega
  rw [if_neg k1, if_neg k2, if_pos k3]; rfl
end Rs
end Go.Proofs.YtgmgnhkphlegpaaDoor
