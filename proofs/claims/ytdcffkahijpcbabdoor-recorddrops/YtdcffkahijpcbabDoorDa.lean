/- Layer 5: the document's store; New, refused, Break. -/
import Derived.Test.YtdcffkahijpcbabDoorDz
namespace Go.Proofs.YtdcffkahijpcbabDoor
open Go.RowKit
namespace Rs
def stoD (m : Sto) (rv : Value) : Array Value := #[.int .i64 m.cap, .int .i64 m.peak, .int .i64 m.made, .int .i64 m.ahead, rv]
def rowD (sl : Nat → Value) (l : List Run) : List Value := l.flatMap fun r => [.int .i64 r.num, sl r.num, .bool r.shut]
/-- the document's store m at block sb, in the blocks F -/
structure DIn (w : World) (sb : Nat) (m : Sto) (F : Nat → Prop) (rv : Value) (sl : Nat → Value) : Prop where
  ok : m.Ok
  lt : ∀ b, F b → b < w.heap.size
  own : F sb
  sto : w.heap[sb]? = some (.cells (stoD m rv) 84 (0, 0))
  row : w.ownsRow 0 131 3 rv m.runs.length (rowD sl m.runs)
  rowF : ∀ g, rv.ownBlock = some g → F g
  txt : ∀ r ∈ m.runs, w.ownsRow 0 5 1 (sl r.num) r.txt.length (r.txt.map encB)
  txF : ∀ r ∈ m.runs, ∀ g, (sl r.num).ownBlock = some g → F g
  apart : ∀ r ∈ m.runs, ∀ r' ∈ m.runs, r.num ≠ r'.num → ∀ g, (sl r.num).ownBlock = some g → (sl r'.num).ownBlock ≠ some g
theorem DIn.kept {w w' : World} {sb : Nat} {m : Sto} {F G : Nat → Prop} {rv : Value} {sl : Nat → Value} (h : DIn w sb m F rv sl) (hb : ∀ b, F b → w'.heap[b]? = w.heap[b]?) (hG : ∀ b, F b → G b) (hl : ∀ b, G b → b < w'.heap.size) : DIn w' sb m G rv sl :=
  ⟨h.ok, hl, hG _ h.own, (hb _ h.own).trans h.sto, own_kept h.row fun g hg => hb g (h.rowF g hg), fun g hg => hG g (h.rowF g hg), fun r hr => own_kept (h.txt r hr) fun g hg => hb g (h.txF r hr g hg), fun r hr g hg => hG g (h.txF r hr g hg), h.apart⟩
theorem DIn.below {w w' : World} {sb : Nat} {m : Sto} {F : Nat → Prop} {rv : Value} {sl : Nat → Value} (h : DIn w sb m F rv sl) (hb : Below w.heap.size w w') : DIn w' sb m F rv sl :=
  h.kept (fun b hF => hb.block b (h.lt b hF)) (fun _ x => x) fun b hF => Nat.lt_of_lt_of_le (h.lt b hF) hb.size
theorem dcells {w : World} {sb : Nat} {m : Sto} {rv : Value} (h : w.heap[sb]? = some (.cells (stoD m rv) 84 (0, 0))) :
    w.cell? ⟨sb, 0, none⟩ = some (.int .i64 m.cap) ∧ w.cell? ⟨sb, 1, none⟩ = some (.int .i64 m.peak) ∧ w.cell? ⟨sb, 2, none⟩ = some (.int .i64 m.made) ∧ w.cell? ⟨sb, 3, none⟩ = some (.int .i64 m.ahead) ∧ w.cell? ⟨sb, 4, none⟩ = some rv ∧ ∀ k, w.frozen? ⟨sb, k, none⟩ = false := by
  refine ⟨?_, ?_, ?_, ?_, ?_, fun k => ?_⟩ <;> simp [World.cell?, World.frozen?, h, stoD]
/-- a cell of the store itself, not of its rows, was set -/
theorem DIn.set {w : World} {sb : Nat} {m m' : Sto} {F : Nat → Prop} {rv : Value} {sl : Nat → Value} (h : DIn w sb m F rv sl) (k : Nat) (v : Value) (hr : m'.runs = m.runs) (ok : m'.Ok) (hc : (stoD m rv).setIfInBounds k v = stoD m' rv) : DIn (w.setCell ⟨sb, k, none⟩ v) sb m' F rv sl := by
  have ne : ∀ {e : TypeId} {size n : Nat} {u : Value} {xs : List Value}, e ≠ 84 → w.ownsRow 0 e size u n xs → ∀ g, u.ownBlock = some g → g ≠ sb := fun {e size n u xs} he ho g hg eq => by
    rcases ho.2 with ⟨e1, _⟩ | ⟨g', cap, cur, e1, _, hx, _⟩
    · rw [e1] at hg; cases hg
    · rw [e1] at hg
      have hg' : g' = g := by injection hg
      rw [hg', eq, h.sto] at hx
      injection hx with hx
      injection hx with _ hx _
      exact he hx.symm
  refine ⟨ok, fun b hb => by simpa using h.lt b hb, h.own, by rw [set_heap1 h.sto, hc], by rw [hr]; exact own_kept h.row fun g hg => Below.heap_setCell _ _ _ _ (ne (by decide) h.row g hg), h.rowF, fun r hx => ?_, fun r hx => h.txF r (by rw [← hr]; exact hx), fun r hx r' hx' => h.apart r (by rw [← hr]; exact hx) r' (by rw [← hr]; exact hx')⟩
  have hx' : r ∈ m.runs := by rw [← hr]; exact hx
  exact own_kept (h.txt r hx') fun g hg => Below.heap_setCell _ _ _ _ (ne (by decide) (h.txt r hx') g hg)
theorem dnew_any (c : Int) (w : World) (h1 : -9223372036854775808 ≤ c) (h2 : c ≤ 9223372036854775807) :
    Calls Tryd.prog 7 #[.int .i64 c] w fun e w' => e = .returned (.pointer (some ⟨w.heap.size, 0, none⟩)) ∧ DIn w' w.heap.size (newS c) (fun b => b = w.heap.size) (.slice none 0 0) (fun _ => .slice none 0 0) ∧ Below w.heap.size w w' ∧ w'.heap.size = w.heap.size + 1 := by
  have HD : Hid (∀ k : Int, k = ((newS c).cap : Int) → DIn (w.alloc (.cells #[.int .i64 k, .int .i64 0, .int .i64 0, .int .i64 0, .slice none 0 0] 84)) w.heap.size (newS c) (fun b => b = w.heap.size) (.slice none 0 0) (fun _ => .slice none 0 0) ∧ Below w.heap.size w (w.alloc (.cells #[.int .i64 k, .int .i64 0, .int .i64 0, .int .i64 0, .slice none 0 0] 84)) ∧ (w.alloc (.cells #[.int .i64 k, .int .i64 0, .int .i64 0, .int .i64 0, .slice none 0 0] 84)).heap.size = w.heap.size + 1) := fun k hk => by
    subst hk
    refine ⟨⟨newS_ok c, fun b hb => by rw [hb]; simp, rfl, (MapKept.heap_alloc w _).1, World.ownsRow_nil _ _ _ _, fun g hg => (by cases hg), fun r hr => (by simp [newS] at hr), fun r hr => (by simp [newS] at hr), fun r hr => (by simp [newS] at hr)⟩, (Below.refl _ w).alloc (Nat.le_refl _) _, by simp⟩
  have e : ((newS c).cap : Int) = min (max c 0) 67108864 := by simp only [newS]; omega
  rw [e] at HD
  clear e
  by_cases hl : c < 0
  · go_enter Tryd.func7, Tryd.ntmps7
    go_wp2
    go_ret
    exact ⟨rfl, unhide HD 0 (by omega)⟩
  · by_cases hh : 67108864 < c
    · go_enter Tryd.func7, Tryd.ntmps7
      go_wp2
      go_ret
      exact ⟨rfl, unhide HD 67108864 (by omega)⟩
    · go_enter Tryd.func7, Tryd.ntmps7
      go_wp2
      go_ret
      exact ⟨rfl, unhide HD c (by omega)⟩
set_option maxRecDepth 100000 in
theorem refused_any {w : World} {sb : Nat} {m : Sto} {F : Nat → Prop} {rv : Value} {sl : Nat → Value} (h : DIn w sb m F rv sl) :
    Calls Tryd.prog 65 #[.pointer (some ⟨sb, 0, none⟩)] w fun e w' => e = .returned (.bool (decide (m.ahead = 1))) ∧ DIn w' sb m.tick F rv sl ∧ Chg F w w' ∧ w'.heap.size = w.heap.size := by
  obtain ⟨c0, c1, c2, c3, c4, fz⟩ := dcells h.sto
  by_cases h0 : m.ahead = 0
  · have HH : Hid (DIn w sb m.tick F rv sl) := by rw [tick_zero h0]; exact h
    rw [h0] at c3
    have e0 : decide (m.ahead = 1) = false := by simp [h0]
    rw [e0]
    clear h e0
    go_enter Tryd.func65, Tryd.ntmps65
    go_wp2
    go_ret
    exact ⟨rfl, unhide HH, Chg.refl _ _, rfl⟩
  · obtain ⟨a, ha⟩ : ∃ a : Nat, m.ahead = a + 1 := ⟨m.ahead - 1, by omega⟩
    have HH : Hid (DIn (w.setCell ⟨sb, 3, none⟩ (.int .i64 (a : Int))) sb m.tick F rv sl ∧ Chg F w (w.setCell ⟨sb, 3, none⟩ (.int .i64 (a : Int))) ∧ (w.setCell ⟨sb, 3, none⟩ (.int .i64 (a : Int))).heap.size = w.heap.size) := ⟨h.set (m' := m.tick) 3 _ rfl h.ok.tick (by simp [stoD, Sto.tick, ha]), (Chg.refl F w).setCell (.inl h.own) _, by simp⟩
    have hal : a ≤ 9223372036854775806 := by have := h.ok.ahead; omega
    rw [ha] at c3
    have e3 : w.cell? ⟨sb, 3, none⟩ = some (.int .i64 ((a : Int) + 1)) := by rw [c3]; simp
    have e0 : decide (m.ahead = 1) = ((a : Int) == 0) := by
      rw [ha]
      by_cases hz : a = 0
      · subst hz; rfl
      · have : ((a : Int) == 0) = false := by simp; omega
        rw [this]; simp; omega
    rw [e0]
    have hp : ¬ (a : Int) + 1 < 1 := by omega
    clear h e0 c3 ha h0
    go_enter Tryd.func65, Tryd.ntmps65
    go_wp2
    all_goals
      go_ret
      exact ⟨by simp_all, unhide HH⟩
end Rs
end Go.Proofs.YtdcffkahijpcbabDoor
