/- Layer 5: the document's Create. -/
import Derived.Test.YtdcffkahijpcbabDoorDg
import Derived.Deep.RegionHeld3
namespace Go.Proofs.YtdcffkahijpcbabDoor
open Go.RowKit
namespace Rs
theorem run_append_run {W : World} {B n : Nat} {v : Value} {xs : List Value} (ho : W.ownsRow B 131 3 v n xs) (hB : B ≤ W.heap.size) (hn : n ≤ 16777216) (x : Int) (ty : TypeId) :
    ∃ v' w', (Builtin.append_ #[82, 82] ty #[v, .slice (some ⟨W.heap.size, 0, none⟩) 1 1]).run Tryd.prog (W.alloc (.cells #[.int .i64 x, .slice none 0 0, .bool false] 131)) = .ok v' w' ∧ w'.ownsRow B 131 3 v' (n + 1) (xs ++ [.int .i64 x, .slice none 0 0, .bool false]) ∧ (W.alloc (.cells #[.int .i64 x, .slice none 0 0, .bool false] 131)).grownBy w' v.ownBlock ∧ (v'.ownBlock = v.ownBlock ∨ v'.ownBlock = some (W.heap.size + 1)) := by
  obtain ⟨i0, hi, hz0⟩ := Option.map_eq_some_iff.1 info_run
  simp only [Prod.mk.injEq] at hz0
  obtain ⟨hz0, hz1, hz2⟩ := hz0
  obtain ⟨v', w', h1, h2, h3, _, h5⟩ := run_append_own_at (P := Tryd.prog) (W.alloc (.cells #[.int .i64 x, .slice none 0 0, .bool false] 131)) B 82 ty 131 i0 (.agg #[.int .i64 0, .slice none 0 0, .bool false]) 3 40 Tryd.underlying82 hi hz0 hz1 hz2 rfl (by decide) v n xs (ho.alloc _) ⟨W.heap.size, 0, none⟩ 1 1 [.int .i64 x, .slice none 0 0, .bool false] rfl (cell_three_new _ _ _ _ _) (by simp [Value.oneCell']) (by unfold maxLen; omega) (by omega) (by simp; omega)
  exact ⟨v', w', h1, h2, h3, by simpa using h5⟩
def slN (sl : Nat → Value) (n j : Nat) : Value := if j = n then .slice none 0 0 else sl j
theorem rowD_slN {sl : Nat → Value} {l : List Run} {n : Nat} (h : ∀ r ∈ l, r.num ≠ n) : rowD (slN sl n) l = rowD sl l := by
  unfold rowD
  induction l with
  | nil => rfl
  | cons x t ih =>
    rw [List.flatMap_cons, List.flatMap_cons, ih fun r hr => h r (List.mem_cons_of_mem _ hr)]
    simp [slN, h x (List.mem_cons_self ..)]
/-- a run was laid behind the others -/
theorem DIn.pushRow {w1 W w3 : World} {sb : Nat} {m : Sto} {F : Nat → Prop} {rv v' : Value} {sl : Nat → Value} {o : Obj} (h : DIn w1 sb m F rv sl) (hm : m.made < 16777216)
    (hsW : W.heap[sb]? = some (.cells #[.int .i64 m.cap, .int .i64 m.peak, .int .i64 ((m.made : Int) + 1), .int .i64 m.ahead, rv] 84 (0, 0)))
    (hkW : Chg (fun b => b = sb) w1 W) (hzW : W.heap.size = w1.heap.size)
    (hg : (W.alloc o).grownBy w3 rv.ownBlock) (ho : w3.ownsRow 0 131 3 v' (m.runs.length + 1) (rowD sl m.runs ++ [.int .i64 ((m.made : Int) + 1), .slice none 0 0, .bool false])) (ha : v'.ownBlock = rv.ownBlock ∨ v'.ownBlock = some (W.heap.size + 1)) :
    DIn (w3.setCell ⟨sb, 4, none⟩ v') sb m.newRun (Up F w1 (w3.setCell ⟨sb, 4, none⟩ v')) v' (slN sl (m.made + 1)) ∧ Chg F w1 (w3.setCell ⟨sb, 4, none⟩ v') := by
  have hnum : ∀ r ∈ m.runs, r.num ≠ m.made + 1 := fun r hr e => by have := h.ok.nums r hr; omega
  have hsb := h.lt sb h.own
  have hrs : rv.ownBlock ≠ some sb := fun e => kind_ne h.sto (by decide) h.row sb e rfl
  have hc1 : Chg F w1 (W.alloc o) := (hkW.mono fun b hb => by rw [hb]; exact h.own).alloc o
  have hc3 : Chg F w1 w3 := hc1.grown hg fun k hk => .inl (h.rowF k hk)
  have hs3 : w3.heap[sb]? = some (.cells #[.int .i64 m.cap, .int .i64 m.peak, .int .i64 ((m.made : Int) + 1), .int .i64 m.ahead, rv] 84 (0, 0)) := by
    rw [hg.block sb (by simp; omega) (fun e => hrs e.symm), Below.heap_alloc _ _ _ (by omega)]
    exact hsW
  have hz3 : (w3.setCell ⟨sb, 4, none⟩ v').heap.size = w3.heap.size := by simp
  have htx : ∀ r ∈ m.runs, w3.ownsRow 0 5 1 (sl r.num) r.txt.length (r.txt.map encB) := fun r hr => own_kept (h.txt r hr) fun g hg' => by
    have hl := ((h.txt r hr).lt g hg').2
    have hgs : g ≠ sb := kind_ne h.sto (by decide) (h.txt r hr) g hg'
    have hgr : rv.ownBlock ≠ some g := fun e => by
      rcases h.row.2 with ⟨e1, _⟩ | ⟨g', cap, cur, e1, _, hx, _⟩
      · rw [e1] at e; cases e
      · rw [e1] at e
        have e2 : g' = g := by injection e
        rw [e2] at hx
        exact kind_ne hx (by decide) (h.txt r hr) g hg' rfl
    rw [hg.block g (by simp; omega) (fun e => hgr e.symm), Below.heap_alloc _ _ _ (by omega), hkW.block g hl hgs]
  have hsl : ∀ r ∈ m.runs, slN sl (m.made + 1) r.num = sl r.num := fun r hr => by unfold slN; rw [if_neg (hnum r hr)]
  have hs0 : slN sl (m.made + 1) (m.made + 1) = .slice none 0 0 := by unfold slN; rw [if_pos rfl]
  have hrow : rowD (slN sl (m.made + 1)) m.newRun.runs = rowD sl m.runs ++ [.int .i64 ((m.made : Int) + 1), .slice none 0 0, .bool false] := by
    show rowD (slN sl (m.made + 1)) (m.runs ++ [⟨m.made + 1, [], false⟩]) = _
    rw [rowD_app, rowD_slN hnum, hs0]
    simp
  have hlen : m.newRun.runs.length = m.runs.length + 1 := by simp [Sto.newRun]
  have hmem : ∀ r ∈ m.newRun.runs, r ∈ m.runs ∨ r = ⟨m.made + 1, [], false⟩ := fun r hr => by simpa [Sto.newRun] using hr
  have hlt : ∀ b, Up F w1 (w3.setCell ⟨sb, 4, none⟩ v') b → b < (w3.setCell ⟨sb, 4, none⟩ v').heap.size := fun b hb => by
    rcases hb with hb | hb
    · rw [hz3]; exact Nat.lt_of_lt_of_le (h.lt b hb) hc3.size
    · exact hb.2
  refine ⟨⟨newRun_ok h.ok hm, hlt, .inl h.own, by rw [set_heap1 hs3]; simp [stoD, Sto.newRun], by rw [hrow, hlen]; exact own_kept ho fun g hg' => Below.heap_setCell _ _ _ _ (kind_ne hs3 (by decide) ho g hg'), fun g hg' => ?_, fun r hr => ?_, fun r hr g hg' => ?_, fun r hr r' hr' hne g hg' hg2 => ?_⟩, hc3.setCell (.inl h.own) v'⟩
  · rcases ha with e | e
    · rw [e] at hg'; exact .inl (h.rowF g hg')
    · have := (ho.lt g hg').2
      rw [e] at hg'
      injection hg' with hg'
      exact .inr ⟨by omega, by rw [hz3]; exact this⟩
  · rcases hmem r hr with hr | rfl
    · rw [hsl r hr]
      exact own_kept (htx r hr) fun g hg' => Below.heap_setCell _ _ _ _ (kind_ne hs3 (by decide) (htx r hr) g hg')
    · show World.ownsRow _ 0 5 1 (slN sl (m.made + 1) (m.made + 1)) _ _
      rw [hs0]
      exact World.ownsRow_nil _ _ _ _
  · rcases hmem r hr with hr | rfl
    · rw [hsl r hr] at hg'
      exact .inl (h.txF r hr g hg')
    · change (slN sl (m.made + 1) (m.made + 1)).ownBlock = some g at hg'
      rw [hs0] at hg'
      cases hg'
  · rcases hmem r hr with hr | rfl
    · rcases hmem r' hr' with hr' | rfl
      · rw [hsl r hr] at hg'
        rw [hsl r' hr'] at hg2
        exact h.apart r hr r' hr' hne g hg' hg2
      · change (slN sl (m.made + 1) (m.made + 1)).ownBlock = some g at hg2
        rw [hs0] at hg2
        cases hg2
    · change (slN sl (m.made + 1) (m.made + 1)).ownBlock = some g at hg'
      rw [hs0] at hg'
      cases hg'
end Rs
end Go.Proofs.YtdcffkahijpcbabDoor
