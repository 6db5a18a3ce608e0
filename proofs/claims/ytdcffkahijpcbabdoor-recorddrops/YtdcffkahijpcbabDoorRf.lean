/- Layer 5: New, find, findOpen. -/
import Derived.Test.YtdcffkahijpcbabDoorRg
import Derived.BigRegion
namespace Go.Proofs.YtdcffkahijpcbabDoor
open Go.RowKit
namespace Rs

def newS (c : Int) : Sto := ⟨(min (max c 0) 67108864).toNat, [], 0, 0, 0⟩
theorem newS_ok (c : Int) : (newS c).Ok := ⟨by simp only [newS]; omega, by simp [newS], by simp [newS, tot], by simp [newS, tot], by simp [newS], by simp [newS], by simp [newS], by simp [newS]⟩
theorem At.new (w : World) (c : Int) : At (w.alloc (.cells (stoC (newS c) (.map none)) 81)) w.heap.size (newS c) (fun b => b = w.heap.size) :=
  ⟨newS_ok c, fun b hb => by subst hb; simp, rfl, .map none, (MapKept.heap_alloc w _).1, .inl ⟨rfl, rfl⟩⟩
theorem new_any (c : Int) (w : World) (h1 : -9223372036854775808 ≤ c) (h2 : c ≤ 9223372036854775807) :
    Calls Tryd.prog 6 #[.int .i64 c] w fun e w' => e = .returned (.pointer (some ⟨w.heap.size, 0, none⟩)) ∧ At w' w.heap.size (newS c) (fun b => b = w.heap.size) ∧ Below w.heap.size w w' ∧ w'.heap.size = w.heap.size + 1 := by
  have HE : Hid (stoC (newS c) (.map none) = #[.int .i64 (min (max c 0) 67108864), .map none, .int .i64 0, .int .i64 0, .int .i64 0, .int .i64 0]) := by
    show stoC (newS c) (.map none) = _
    have e : (((min (max c 0) 67108864).toNat : Nat) : Int) = min (max c 0) 67108864 := by omega
    simp only [stoC, newS, e, tot]
    rfl
  have HA := hide (At.new w c)
  go_enter Tryd.func6, Tryd.ntmps6
  go_wp2
  all_goals
    go_ret
    have h := unhide HA
    rw [unhide HE] at h
    refine ⟨rfl, ?_, ?_, ?_⟩
    · first
        | (rw [show min (max c 0) 67108864 = 0 by omega] at h; exact h)
        | (rw [show min (max c 0) 67108864 = 67108864 by omega] at h; exact h)
        | (rw [show min (max c 0) 67108864 = c by omega] at h; exact h)
    · exact (Below.refl _ w).alloc (Nat.le_refl _) _
    · simp
/-- a store with a map, laid open -/
structure In (w : World) (sb : Nat) (m : Sto) (F : Nat → Prop) (bm : Nat) (sl : Nat → Value) (fl : Nat → Bool) : Prop where
  ok : m.Ok
  lt : ∀ b, F b → b < w.heap.size
  own : F sb
  sto : w.heap[sb]? = some (.cells (stoC m (.map (some bm))) 81 (0, 0))
  bmF : F bm
  map : w.ownsMap Tryd.prog 3 Rh bm m.runs.length (dat (el sl fl) m.runs)
  rows : Rows w sl fl m.runs F
theorem In.at {w : World} {sb : Nat} {m : Sto} {F : Nat → Prop} {bm : Nat} {sl : Nat → Value} {fl : Nat → Bool} (h : In w sb m F bm sl fl) : At w sb m F :=
  ⟨h.ok, h.lt, h.own, _, h.sto, .inr ⟨bm, sl, fl, rfl, h.bmF, h.map, h.rows⟩⟩
theorem At.open {w : World} {sb : Nat} {m : Sto} {F : Nat → Prop} (h : At w sb m F) : (w.heap[sb]? = some (.cells (stoC m (.map none)) 81 (0, 0)) ∧ m.runs = []) ∨ ∃ bm sl fl, In w sb m F bm sl fl := by
  obtain ⟨ok, lt, ho, mv, hs, ⟨rfl, e⟩ | ⟨bm, sl, fl, rfl, h1, h2, h3⟩⟩ := h
  · exact .inl ⟨hs, e⟩
  · exact .inr ⟨bm, sl, fl, ok, lt, ho, hs, h1, h2, h3⟩
theorem In.kept {w w' : World} {sb : Nat} {m : Sto} {F G : Nat → Prop} {bm : Nat} {sl : Nat → Value} {fl : Nat → Bool} (h : In w sb m F bm sl fl) (hb : ∀ b, F b → w'.heap[b]? = w.heap[b]?) (hG : ∀ b, F b → G b) (hl : ∀ b, G b → b < w'.heap.size) : In w' sb m G bm sl fl :=
  ⟨h.ok, hl, hG _ h.own, (hb _ h.own).trans h.sto, hG _ h.bmF, map_kept h.map (hb _ h.bmF), h.rows.kept hb hG⟩
theorem In.below {w w' : World} {sb : Nat} {m : Sto} {F : Nat → Prop} {bm : Nat} {sl : Nat → Value} {fl : Nat → Bool} (h : In w sb m F bm sl fl) (hb : Below w.heap.size w w') : In w' sb m F bm sl fl :=
  h.kept (fun b hF => hb.block b (h.lt b hF)) (fun _ hF => hF) (fun b hF => Nat.lt_of_lt_of_le (h.lt b hF) hb.size)
theorem law3 : Maps.Keyed Tryd.prog 3 := Maps.int_keyed Tryd.underlying3
theorem zeroE (w : World) : (zeroValue 114).run Tryd.prog w = .ok (.agg #[.slice none 0 0, .bool false]) w := by kernel_rfl
theorem key3 {k : Int} (h1 : -9223372036854775808 ≤ k) (h2 : k ≤ 9223372036854775807) : keyOf Tryd.prog 3 (.int .i64 k) = some (.int .i64 k) := Maps.keyOf_int_mk Tryd.underlying3 (WalkArith.wf_i64 (by omega))
theorem lookup_some {W : World} {bm n : Nat} {f : Nat → Value} {l : List Run} {k : Int} {r : Run} (h : W.ownsMap Tryd.prog 3 Rh bm n (dat f l)) (h1 : -9223372036854775808 ≤ k) (h2 : k ≤ 9223372036854775807) (hl : look l k = some r) :
    (Instr.lookup 79 (.map (some bm)) (.int .i64 k) true).run Tryd.prog W = .ok (.tuple #[f r.num, .bool true]) W := by
  obtain ⟨v, ps, hr, hv⟩ := h.look_ok (t := 79) (e := 114) law3 Tryd.underlying79 (zeroE W) (zd := .held (.agg #[.slice none 0 0, .bool false])) (zp := []) rfl (key3 h1 h2)
  rw [dat_at f hl] at hv
  simp only [Rh, Option.some.injEq, Prod.mk.injEq, DataW.held.injEq] at hv
  rw [dat_has, hl, hv.1] at hr
  exact hr
theorem lookup_none {W : World} {bm n : Nat} {f : Nat → Value} {l : List Run} {k : Int} (h : W.ownsMap Tryd.prog 3 Rh bm n (dat f l)) (h1 : -9223372036854775808 ≤ k) (h2 : k ≤ 9223372036854775807) (hl : look l k = none) :
    (Instr.lookup 79 (.map (some bm)) (.int .i64 k) true).run Tryd.prog W = .ok (.tuple #[.agg #[.slice none 0 0, .bool false], .bool false]) W := by
  obtain ⟨v, ps, hr, hv⟩ := h.look_ok (t := 79) (e := 114) law3 Tryd.underlying79 (zeroE W) (zd := .held (.agg #[.slice none 0 0, .bool false])) (zp := []) rfl (key3 h1 h2)
  have e : (dat f l).atKey (.int .i64 k) (.held (.agg #[.slice none 0 0, .bool false])) = .held (.agg #[.slice none 0 0, .bool false]) := by
    unfold dat DataW.atKey
    have : (l.map (ent f)).find? (fun p => p.1.sameKey (.int .i64 k)) = none := by
      rw [List.find?_eq_none]
      intro p hp
      obtain ⟨x, hx, rfl⟩ := List.mem_map.1 hp
      have := look_none hl x hx
      show ¬ (Lit.int .i64 (x.num : Int)).sameKey (.int .i64 k) = true
      rw [same_key]
      simpa using this
    simp only [this]
  rw [e] at hv
  simp only [Rh, Option.some.injEq, Prod.mk.injEq, DataW.held.injEq] at hv
  rw [dat_has, hl, hv.1] at hr
  exact hr
abbrev zc : Value := .agg #[.slice none 0 0, .bool false]
theorem Gs.new {w : World} {E : Nat → Addr} {F : Nat → Prop} (G : Gs w E F) (o : Obj) : Gs (w.alloc o) E F := (G.chg ((Chg.refl F w).alloc o)).sub G.hi
theorem find_nil (w : World) (k : Int) {E : Nat → Addr} {F : Nat → Prop} (G : Gs w E F) : Calls Tryd.prog 49 #[.pointer none, .int .i64 k] w fun e w' => e = .returned (.tuple #[zc, er E 1]) ∧ Below w.heap.size w w' := by
  have hg := fun o => (G.new o).nil
  clear G
  go_enter Tryd.func49, Tryd.ntmps49
  go_wp2
  go_region
  all_goals
    go_wp2
    refine bodyPost_ret (v := .tuple #[zc, er E 1]) (by simp [results, Tryd.results49, go_sem]) rfl ⟨rfl, ?_⟩
    (repeat (first | exact Below.refl _ _ | refine Below.drew ?_ | refine Below.alloc ?_ (by first | (simp; done) | (simp; omega)) _ | refine Below.setCell ?_ (by first | (simp; done) | (simp; omega)) _))
theorem find_none {w : World} {sb : Nat} {m : Sto} {F : Nat → Prop} {k : Int} {E : Nat → Addr} (h : At w sb m F) (G : Gs w E F) (h1 : -9223372036854775808 ≤ k) (h2 : k ≤ 9223372036854775807) (hl : look m.runs k = none) :
    Calls Tryd.prog 49 #[.pointer (some ⟨sb, 0, none⟩), .int .i64 k] w fun e w' => e = .returned (.tuple #[zc, er E 3]) ∧ Below w.heap.size w w' := by
  have hg := fun o o' => ((G.new o).new o').noRun
  have hsb := h.lt _ h.own
  rcases h.open with ⟨hs, he⟩ | ⟨bm, sl, fl, h⟩
  · obtain ⟨_, c1, _⟩ := cells_sto hs
    have hk := fun o => Maps.look_nil (w := w.alloc o) (e := 114) true law3 Tryd.underlying79 (zeroE (w.alloc o)) (key3 h1 h2)
    clear G h hs he hl
    go_enter Tryd.func49, Tryd.ntmps49
    go_wp2
    go_region
    all_goals
      go_wp2
      refine bodyPost_ret (v := .tuple #[zc, er E 3]) (by simp [results, Tryd.results49, go_sem]) rfl ⟨rfl, ?_⟩
      (repeat (first | exact Below.refl _ _ | refine Below.drew ?_ | refine Below.alloc ?_ (by first | (simp; done) | (simp; omega)) _ | refine Below.setCell ?_ (by first | (simp; done) | (simp; omega)) _))
  · obtain ⟨_, c1, _⟩ := cells_sto h.sto
    have hk := fun o => lookup_none (h.map.alloc o) h1 h2 hl
    clear G h hl
    go_enter Tryd.func49, Tryd.ntmps49
    go_wp2
    go_region
    all_goals
      go_wp2
      refine bodyPost_ret (v := .tuple #[zc, er E 3]) (by simp [results, Tryd.results49, go_sem]) rfl ⟨rfl, ?_⟩
      (repeat (first | exact Below.refl _ _ | refine Below.drew ?_ | refine Below.alloc ?_ (by first | (simp; done) | (simp; omega)) _ | refine Below.setCell ?_ (by first | (simp; done) | (simp; omega)) _))
theorem own_slice {W : World} {B : Nat} {e : TypeId} {size n : Nat} {v : Value} {xs : List Value} (h : W.ownsRow B e size v n xs) : ∃ a c, v = .slice a n c := by
  obtain ⟨_, ⟨rfl, rfl⟩ | ⟨g, cap, cur, rfl, _⟩⟩ := h
  · exact ⟨_, _, rfl⟩
  · exact ⟨_, _, rfl⟩
theorem find_some {w : World} {sb : Nat} {m : Sto} {F : Nat → Prop} {k : Int} {bm : Nat} {sl : Nat → Value} {fl : Nat → Bool} {r : Run} (h : In w sb m F bm sl fl) (h1 : -9223372036854775808 ≤ k) (h2 : k ≤ 9223372036854775807) (hl : look m.runs k = some r) :
    Calls Tryd.prog 49 #[.pointer (some ⟨sb, 0, none⟩), .int .i64 k] w fun e w' => e = .returned (.tuple #[.agg #[sl r.num, .bool r.shut], .nilIface]) ∧ Below w.heap.size w w' := by
  have hsb := h.lt _ h.own
  obtain ⟨_, c1, _⟩ := cells_sto h.sto
  have hk := fun o => lookup_some (h.map.alloc o) h1 h2 hl
  have e : el sl fl r.num = .agg #[sl r.num, .bool r.shut] := by unfold el; rw [h.rows.fl r (look_mem hl).1]
  rw [e] at hk
  obtain ⟨a, c, ev⟩ := own_slice (h.rows.own r (look_mem hl).1)
  rw [ev] at hk ⊢
  clear h hl e ev
  go_enter Tryd.func49, Tryd.ntmps49
  go_wp2
  refine bodyPost_ret (v := .tuple #[.agg #[.slice a r.txt.length c, .bool r.shut], .nilIface]) (by simp [results, Tryd.results49, go_sem]) rfl ⟨rfl, ?_⟩
  (repeat (first | exact Below.refl _ _ | refine Below.drew ?_ | refine Below.alloc ?_ (by first | (simp; done) | (simp; omega)) _ | refine Below.setCell ?_ (by first | (simp; done) | (simp; omega)) _))
end Rs
end Go.Proofs.YtdcffkahijpcbabDoor
