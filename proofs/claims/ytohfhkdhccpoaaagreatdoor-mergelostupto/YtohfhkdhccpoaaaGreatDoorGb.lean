/- Layer 5: Live. -/
import Derived.Test.YtohfhkdhccpoaaaGreatDoorGa
import Derived.Test.YtohfhkdhccpoaaaGreatDoorShSo
import Derived.Sort.OwnSorted
import Derived.Sort.OwnSortedInts
import Derived.Test.YtohfhkdhccpoaaaGreatDoorRows
import Derived.Stop.LaidErr
import Derived.Deep.DeepHandedRow
import Derived.Laws.IdiomStrings
import Derived.Lib.BufferRead
namespace Go.Proofs.YtohfhkdhccpoaaaGreatDoor
open Go.RowKit
namespace Rs
theorem ins_nil (w : World) : Calls Tryz.prog 98 #[.slice none 0 0, .int .i64 0, .int .i64 0] w fun e w' => e = .returned (.tuple #[]) ∧ w' = w := by
  go_enter Tryz.func98, Tryz.ntmps98
  go_wp2
  go_loop [6] (fun i => i = .int .i64 1) (fun _ => 0)
  case atStart => rfl
  case round =>
    subst hrel
    go_wp2
    go_end0
    exact ⟨rfl, rfl⟩
theorem pdq_nil (w : World) (n : Int) : Calls Tryz.prog 68 #[.slice none 0 0, .int .i64 0, .int .i64 0, .int .i64 n] w fun e w' => e = .returned (.tuple #[]) ∧ w' = w := by
  have HI := hide (ins_nil w)
  go_enter Tryz.func68, Tryz.ntmps68
  go_wp2
  go_loop [1, 2] (fun a b => a = .int .i64 0 ∧ b = .int .i64 0) (fun _ _ => 0)
  case atStart => exact ⟨rfl, rfl⟩
  case round =>
    obtain ⟨rfl, rfl⟩ := hrel
    go_wp2_with (go_at_call 98; refine (unhide HI).mono ?_; rintro e w1 ⟨rfl, rfl⟩)
    (try simp only [Exit.inBlock, Exit.then])
    exact bodyPost_ret (results_none rfl _ _ _) rfl ⟨rfl, rfl⟩
theorem sort_nil (w : World) : Calls Tryz.prog 42 #[.slice none 0 0] w fun e w' => e = .returned (.tuple #[]) ∧ w' = w := by
  have HB := hide (Tryz.bits_Len 0 w (by decide) (by decide))
  have HP := hide (pdq_nil w)
  go_enter Tryz.func42, Tryz.ntmps42
  go_wp2_with (first | (go_at_call 69; refine (unhide HB).mono ?_; rintro e w1 ⟨rfl, rfl⟩) | (go_at_call 68; refine (unhide HP _).mono ?_; rintro e w1 ⟨rfl, rfl⟩))
  go_end0
  exact ⟨rfl, rfl⟩
def nums (l : List Run) : List Int := l.map fun r => (r.num : Int)
def intV (x : Int) : Value := .int .i64 x
theorem live_nil (w : World) : Calls Tryz.prog 20 #[.pointer none] w fun e w' => e = .returned (.slice none 0 0) ∧ w' = w := by
  go_enter Tryz.func20, Tryz.ntmps20
  go_wp2
  go_ret
  exact ⟨rfl, rfl⟩
theorem range_none (W : World) : (Instr.range 67 (.map none)).run Tryz.prog W = .ok (.pointer (some ⟨W.heap.size, 0, none⟩)) (W.alloc (.mapIter none 0 #[] 0)) := by
  simp [Instr.range, run_underlying Tryz.underlying67, newObj]
  rfl
theorem next_none (W : World) (r : Nat) (ty : TypeId) (h : W.heap[r]? = some (.mapIter none 0 #[] 0)) : (Instr.next (.pointer (some ⟨r, 0, none⟩)) false ty).run Tryz.prog W = .ok (.tuple #[.bool false]) W := by
  simp only [Instr.next, getObj, Sem.run_bind, Sem.run, h, Result.andThen]
  rfl
theorem live_none {w : World} {sb : Nat} {m : Sto} (hs : w.heap[sb]? = some (.cells (stoC m (.map none)) 69 (0, 0))) :
    Calls Tryz.prog 20 #[.pointer (some ⟨sb, 0, none⟩)] w fun e w' => e = .returned (.slice none 0 0) ∧ Below w.heap.size w w' := by
  obtain ⟨-, c1, -⟩ := cells_sto hs
  have HS := hide (fun w => sort_nil w)
  have hr := range_none
  have hx := fun ty => next_none (w.alloc (.mapIter none 0 #[] 0)) w.heap.size ty (MapKept.heap_alloc w _).1
  clear hs
  go_enter Tryz.func20, Tryz.ntmps20
  go_wp2
  go_loopw [3] (fun v wr => v = .slice none 0 0 ∧ wr = w.alloc (.mapIter none 0 #[] 0)) (fun _ _ => 0)
  case atStart => exact ⟨rfl, rfl⟩
  case round =>
    obtain ⟨rfl, rfl⟩ := hrel
    go_wp2_with (go_at_call 42; refine (unhide HS _).mono ?_; rintro e w1 ⟨rfl, rfl⟩)
    go_ret
    exact ⟨rfl, (Below.refl _ _).alloc (Nat.le_refl _) _⟩
theorem row3 : (Tryz.prog.info? 3).map (fun i => (i.zero, i.size, i.bytes)) = some (some (.int .i64 0), 1, 8) := by kernel_rfl
/-- the keys that have come -/
structure Got (l : List Run) (left : Lit → Bool) (ks : List Int) : Prop where
  nd : ks.Nodup
  mem : ∀ x : Int, x ∈ ks ↔ (look l x).isSome = true ∧ left (.int .i64 x) = false
theorem Got.step {l : List Run} {left : Lit → Bool} {ks : List Int} (h : Got l left ks) {x : Int} (hx : left (.int .i64 x) = true) (hl : (look l x).isSome = true) : Got l (fun z => left z && !z.sameKey (.int .i64 x)) (ks ++ [x]) := by
  have hn : x ∉ ks := fun e => by have := ((h.mem x).1 e).2; rw [hx] at this; cases this
  refine ⟨?_, fun y => ?_⟩
  · rw [List.nodup_append]
    exact ⟨h.nd, by simp, fun a ha b hb => by simp at hb; subst hb; intro e; subst e; exact hn ha⟩
  · rw [List.mem_append, h.mem y]
    by_cases e : y = x
    · subst e
      simp [hl, Lit.sameKey]
    · simp [Lit.sameKey, e]
theorem got_nums {l : List Run} (hs : l.Pairwise fun a b => a.num < b.num) {left : Lit → Bool} {ks : List Int} (h : Got l left ks) (h0 : ∀ kl, left kl = false) : ks.mergeSort (fun x y => decide (x ≤ y)) = nums l := by
  have hp : ks.Perm (nums l) := by
    refine (List.perm_ext_iff_of_nodup h.nd ?_).2 fun x => ?_
    · unfold nums
      rw [List.Nodup, List.pairwise_map]
      exact hs.imp fun {a b} hab => by omega
    · rw [h.mem x, h0]
      simp only [and_true, nums, List.mem_map]
      constructor
      · intro hh
        obtain ⟨r, hr⟩ := Option.isSome_iff_exists.1 hh
        exact ⟨r, look_mem hr⟩
      · rintro ⟨r, hr, rfl⟩
        rw [look_of hs hr]
        rfl
  have hso : (nums l).Pairwise fun x y => decide (x ≤ y) = true := by
    unfold nums
    rw [List.pairwise_map]
    exact hs.imp fun {a b} hab => by simp; omega
  have hm := List.mergeSort_perm ks (fun x y => decide (x ≤ y))
  have hms := List.pairwise_mergeSort (le := fun x y : Int => decide (x ≤ y)) (fun a b c h1 h2 => by simp at *; omega) (fun a b => by simp; omega) ks
  exact (hm.trans hp).eq_of_pairwise (fun a b _ _ h1 h2 => by simp at h1 h2; omega) hms hso
end Rs
end Go.Proofs.YtohfhkdhccpoaaaGreatDoor
/- Layer 5: Live of a store with runs. -/
namespace Go.Proofs.YtohfhkdhccpoaaaGreatDoor
open Go.RowKit Go.Sort
namespace Rs
theorem invK (key : Value) (kl : Lit) (h : keyOf Tryz.prog 3 key = some kl) : ∃ x, key = Value.int .i64 x := by
  obtain ⟨x, rfl, _⟩ := Maps.keyOf_int_inv Tryz.underlying3 h
  exact ⟨x, rfl⟩
theorem invV (v : Value) (y : DV × List MemPlace) (_ : Rh v = some y) : ∃ c : Value, v = (fun u : Value => u) c := ⟨v, rfl⟩
structure Lv (w wr : World) (bm : Nat) (D : DV) (l : List Run) (v : Value) (left : Lit → Bool) (cnt : Nat) (ks : List Int) : Prop where
  rg : wr.ranges Tryz.prog 3 Rh bm w.heap.size l.length D left cnt
  got : Got l left ks
  own : wr.ownsRow w.heap.size 3 1 v ks.length (ks.map (Value.int .i64))
  len : ks.length + cnt ≤ l.length
  bel : Below w.heap.size w wr
  nil : ks = [] → v = .slice none 0 0
theorem look_at {sl : Nat → Value} {fl : Nat → Bool} {l : List Run} {x : Int} {y : DV} (h : ∀ zd, (dat (el sl fl) l).atKey (.int .i64 x) zd = y) : (look l x).isSome = true := by
  have hh := Maps.has_true_of_atKey h
  rw [dat_has] at hh
  exact hh
set_option maxRecDepth 100000 in
set_option maxHeartbeats 1000000 in
theorem live_some {w : World} {sb : Nat} {m : Sto} {F : Nat → Prop} {bm : Nat} {sl : Nat → Value} {fl : Nat → Bool} (h : In w sb m F bm sl fl) :
    Calls Tryz.prog 20 #[.pointer (some ⟨sb, 0, none⟩)] w fun e w' => ∃ v, e = .returned v ∧ w'.ownsRow w.heap.size 3 1 v (nums m.runs).length ((nums m.runs).map (Value.int .i64)) ∧ Below w.heap.size w w' := by
  obtain ⟨-, c1, -⟩ := cells_sto h.sto
  have hsb := h.lt _ h.own
  have hbm := h.lt _ h.bmF
  have hown := h.map
  have HSO := hide h.ok.sorted
  have hlen : m.runs.length ≤ 16777216 := by have := h.ok.len; have := h.ok.made; omega
  have HLEN := hide hlen
  have HD : Hid (∀ {x : Int} {y : DV}, (∀ zd, (dat (el sl fl) m.runs).atKey (.int .i64 x) zd = y) → (look m.runs x).isSome = true) := fun {x y} hh => look_at hh
  have HST : Hid (Got m.runs (Maps.has (dat (el sl fl) m.runs)) []) := ⟨List.nodup_nil, fun x => by rw [dat_has]; cases (look m.runs x).isSome <;> simp⟩
  have HSZ : Hid (Maps.size (dat (el sl fl) m.runs) = m.runs.length) := hide (dat_size _ _)
  generalize dat (el sl fl) m.runs = D at *
  generalize m.runs = l at *
  have HBM := hide hbm
  obtain ⟨i0, hi, hz0⟩ := Option.map_eq_some_iff.1 row3
  simp only [Prod.mk.injEq] at hz0
  obtain ⟨hz0, hz1, hz2⟩ := hz0
  have HOWN := hide hown
  clear h hown hlen hbm
  go_enter Tryz.func20, Tryz.ntmps20
  go_wp2_with (at_range; refine wpList_range_own _ rfl _ 67 rfl 3 108 law3 Tryz.underlying67 Rh bm l.length D rfl (unhide HOWN) ?_; intro w0 hrg0 hg0 hs0; have HLV : Hid (Lv w w0 bm D l (.slice none 0 0) (Maps.has D) (Maps.size D) []) := ⟨hrg0, unhide HST, World.ownsRow_nil w0 w.heap.size 3 1, by rw [unhide HSZ]; simp, (Below.refl _ w).grown hg0 (Nat.le_refl _) (fun k hk => by cases hk), fun _ => rfl⟩; clear hrg0 hg0 hs0)
  go_frame
  go_loopw [3] (fun v wr => ∃ left cnt ks, Hid (Lv w wr bm D l v left cnt ks)) (fun _ wr => wr.rangeLeft bm w.heap.size)
  case atStart => exact ⟨_, _, _, HLV⟩
  case round =>
    obtain ⟨left, cnt, ks, HL⟩ := hrel
    have HRG := hide (unhide HL).rg
    obtain ⟨a3, c3, rfl⟩ := own_slice (unhide HL).own
    go_wp2_with (at_next; refine wpList_next_ranges _ rfl _ rfl 3 law3 Rh (Value.int .i64) (fun u : Value => u) invK invV bm w.heap.size l.length D left cnt rfl (unhide HRG) ?_ ?_)
    · intro hc0 hl0
      have HNM := hide (got_nums (unhide HSO) (unhide HL).got hl0)
      have HOW := hide (unhide HL).own
      have HBE := hide (unhide HL).bel
      by_cases hks : ks = []
      · have e1 := (unhide HL).nil hks
        subst hks
        simp only [List.length_nil] at e1
        obtain ⟨rfl, rfl⟩ : a3 = none ∧ c3 = 0 := by injection e1 with e1 _ e2; exact ⟨e1, e2⟩
        have HS := hide (sort_nil wr)
        clear hc0 hl0 e1 HL HRG
        go_wp2_with (go_at_call 42; refine (unhide HS).mono ?_; rintro e w1 ⟨rfl, rfl⟩)
        go_ret
        refine ⟨_, rfl, ?_, unhide HBE⟩
        have e0 : nums l = [] := by rw [← unhide HNM]; simp
        rw [e0]
        exact World.ownsRow_nil _ _ _ _
      · obtain ⟨g, cap, cur, ev, hbase, hb, h1, h2, h3, h4⟩ : ∃ g cap cur, Value.slice a3 ks.length c3 = .slice (some ⟨g, 0, none⟩) ks.length cap ∧ w.heap.size ≤ g ∧ wr.heap[g]? = some (.cells cur 3 (0, 0)) ∧ ks.length ≤ cap ∧ cap ≤ maxLen ∧ cur.size = cap * 1 ∧ cur.toList.take (ks.length * 1) = ks.map (Value.int .i64) := by
          rcases (unhide HOW).2 with ⟨_, e⟩ | hx
          · exact absurd (List.eq_nil_of_length_eq_zero e) hks
          · exact hx
        injection ev with ev1 _ ev2
        subst ev1 ev2
        rw [Nat.mul_one] at h4
        have HS := hide (Tryz.slices_Sort_int g 0 c3 ks wr (holds_of_blockI hb h4) (Array.getElem?_eq_some_iff.1 hb).1 (by have := unhide HLEN; have := (unhide HL).len; omega))
        have HFIN : Hid (∀ n os, (grow (putRow (Value.int .i64) (Sort.ahead wr n) g 0 (ks.mergeSort fun x y => decide (x ≤ y)).toArray) os).ownsRow w.heap.size 3 1 (.slice (some ⟨g, 0, none⟩) ks.length c3) (nums l).length ((nums l).map (Value.int .i64)) ∧ Below w.heap.size w (grow (putRow (Value.int .i64) (Sort.ahead wr n) g 0 (ks.mergeSort fun x y => decide (x ≤ y)).toArray) os)) := fun n os => by
          have hl := List.length_mergeSort (le := fun x y : Int => decide (x ≤ y)) ks
          have q := ownsRow_sortedI (n := n) (os := os) (ts := ks.mergeSort fun x y => decide (x ≤ y)) hl hbase hb h1 h2 h3
          rw [← unhide HNM, hl]
          exact ⟨q, (unhide HBE).grown (grownBy_sortedI _) (unhide HBE).size (fun k hk => by cases hk; exact hbase)⟩
        generalize (ks.mergeSort fun x y => decide (x ≤ y)) = ts at *
        clear hc0 hl0 HL HRG hb h1 h2 h3 h4 hks hbase
        go_wp2_with (go_at_call 42; refine (unhide HS).mono ?_; rintro e w1 ⟨rfl, n, os, hw1⟩; have HW := hide hw1; clear hw1)
        go_ret
        refine ⟨_, rfl, ?_⟩
        rw [unhide HW]
        exact unhide HFIN n os
    · intro x c kl yd yp w2 cnt2 hkey hlk hv hat hrg2 hlt hg2 hs2 hen
      obtain ⟨x', ex, rfl, hwx⟩ := Maps.keyOf_int_inv Tryz.underlying3 hkey
      obtain rfl : x = x' := by injection ex with _ ex
      have hL := unhide HL
      have HG2 := hide (hL.got.step hlk (unhide HD hat))
      have HOW2 : Hid (w2.ownsRow w.heap.size 3 1 (.slice a3 ks.length c3) ks.length (ks.map (Value.int .i64))) := hide (hL.own.kept hg2 (.inr fun e => row_ne_iter hL.own hL.rg e.symm))
      have HBE2 : Hid (Below w.heap.size w w2) := hide (hL.bel.grown hg2 hL.bel.size (fun k hk => by cases hk; exact Nat.le_refl _))
      have HRG2 := hide hrg2
      have hle : ks.length + cnt2 + 1 ≤ 16777216 := by have := hL.len; have := unhide HLEN; omega
      have HLE : Hid (ks.length + 1 + cnt2 ≤ l.length) := hide (by have := hL.len; omega)
      have HLT : Hid (w2.rangeLeft bm w.heap.size < wr.rangeLeft bm w.heap.size) := hide (by rw [hrg2.left_eq, hL.rg.left_eq]; exact hlt)
      have HS2 := hide (unhide HBE2).size
      clear hkey hlk hv hat hrg2 hlt hg2 hs2 hL HL HRG ex hwx
      go_wp2_with (at_builtin; refine wpList_append_own _ rfl _ _ 28 rfl w.heap.size 3 i0 (.int .i64 0) 1 8 Tryz.underlying28 hi hz0 hz1 hz2 rfl (by decide) _ _ _ rfl ((unhide HOW2).alloc _) ⟨w2.heap.size, 0, none⟩ 1 1 [.int .i64 x] rfl rfl (cell_one_new _ _ _) (by simp [Value.oneCell']) (by unfold maxLen; omega) (by omega) (by have := unhide HS2; simp; omega) ?_; intro v3 w3 hown3 hgrow3 hnil3; obtain ⟨a4, c4, rfl⟩ := own_slice hown3; have HN3 := hide hnil3; have HO3 := hide hown3; have HG3 := hide hgrow3; clear hown3 hgrow3 hnil3)
      have hrg3 := ((unhide HRG2).alloc (.cells #[.int .i64 x] 3)).kept (unhide HG3) (row_ne_low (unhide HOW2) (unhide HBM)) (row_ne_iter (unhide HOW2) (unhide HRG2))
      refine ⟨⟨_, _, ks ++ [x], ⟨hrg3, unhide HG2, ?_, ?_, ?_, fun e => by simp at e⟩⟩, ?_⟩
      · rw [List.length_append, List.map_append]; exact unhide HO3
      · rw [List.length_append]; exact unhide HLE
      · exact ((unhide HBE2).alloc (unhide HS2) _).grown (unhide HG3) (by have := unhide HS2; simp; omega) (fun k hk => ((unhide HOW2).lt k hk).1)
      · rw [hrg3.left_eq, ← (unhide HRG2).left_eq]; exact unhide HLT
theorem live_any {w : World} {sb : Nat} {m : Sto} {F : Nat → Prop} (h : At w sb m F) :
    Calls Tryz.prog 20 #[.pointer (some ⟨sb, 0, none⟩)] w fun e w' => ∃ v, e = .returned v ∧ w'.ownsRow w.heap.size 3 1 v (nums m.runs).length ((nums m.runs).map (Value.int .i64)) ∧ Below w.heap.size w w' := by
  rcases h.open with ⟨hs, he⟩ | ⟨bm, sl, fl, hin⟩
  · refine (live_none hs).mono ?_
    rintro e w' ⟨rfl, hb⟩
    exact ⟨_, rfl, by rw [he]; exact World.ownsRow_nil _ _ _ _, hb⟩
  · exact live_some hin
end Rs
end Go.Proofs.YtohfhkdhccpoaaaGreatDoor
/- Layer 5: what the listed failures hold when the call begins. -/
namespace Go.Proofs.YtohfhkdhccpoaaaGreatDoor
open Go.RowKit Go.ChangeShapes
namespace Rs
theorem star : "*" ++ "errors.errorString" = "*errors.errorString" := by decide
theorem rowES (u : TypeId) (h : Tryz.prog.typeName? 3 u = some "*errors.errorString") : u = 234 :=
  typeName_ptr_named (nm := "errors.errorString") (by rw [star]; kernel_rfl) (by kernel_rfl) (by decide) u (by rw [star]; exact h)
theorem cellsES : Tryz.prog.cellsOf 250 = 1 := by kernel_rfl
theorem cells9 : Tryz.prog.cellsOf 9 = 1 := by kernel_rfl
set_option maxRecDepth 100000 in
theorem sent {n : String} {text : List UInt8} {r : List (String × DataW Unit)} {W : World} {g : Nat}
    (h : laidMet Tryz.prog ((n, .iface "*errors.errorString" (.ptr (.agg [.lit (.string text)]))) :: r) W) (hg : Tryz.prog.globalNamed n = some g) (ht : (Tryz.prog.globals[g]?).map (·.type) = some 38) :
    ∃ (a : Addr) (s : ByteArray), W.cell? ⟨g, 0, none⟩ = some (.iface 234 (.pointer (some a))) ∧ W.cell? a = some (.string s) ∧ s.data.toList = text ∧ ∃ c t, W.heap[a.block]? = some (.cells c t (0, 0)) := by
  obtain ⟨ps, ⟨g0, t0, cs0, f0, p0, q0, hg0, ht0, hv0, hd0, _, e0⟩, _, hrows⟩ := h
  obtain rfl := Option.some.inj (hg.symm.trans hg0)
  obtain rfl := Option.some.inj (ht.symm.trans ht0)
  subst e0
  obtain ⟨l0⟩ := cs0
  have ok0 : ∀ u v, l0 = [.iface u v] → Value.okWide Tryz.prog W .any 0 u v := fun u v e => by
    subst e
    exact (hrows g 0 (by simp [MemPlace.row])).2 u v (by simpa using World.var?_cell hg0 hv0 0)
  obtain ⟨a0, s0, rfl, hc0, hs0, hz0, rfl⟩ := errorString_of_trod Tryz.underlying38 rowES Tryz.underlying234 Tryz.underlying250 rfl rfl Tryz.underlying9 cellsES cells9 hd0 ok0
  refine ⟨a0, s0, by simpa using World.var?_cell hg0 hv0 0, hc0, hs0, ?_⟩
  obtain ⟨c0, t0, hb0⟩ := (hrows a0.block a0.off (by simp [MemPlace.row])).1
  exact ⟨c0, t0, hb0⟩
/-- no two failures are one pointer, and each lies in memory that may be read -/
structure Ap (W : World) (E : Nat → Addr) (l : List Nat) : Prop where
  ne : ∀ i ∈ l, ∀ j ∈ l, i ≠ j → E i ≠ E j
  at_ : ∀ i ∈ l, ∃ c t, W.heap[(E i).block]? = some (.cells c t (0, 0))
end Rs
end Go.Proofs.YtohfhkdhccpoaaaGreatDoor
/- Layer 5: the failures that a row lists. -/
namespace Go.Proofs.YtohfhkdhccpoaaaGreatDoor
open Go.RowKit Go.ChangeShapes
namespace Rs
def listed : List (String × DataW Unit) := [("hornbook/api.FailNil", Rows.laid_hornbook_api_FailNil), ("hornbook/api.FailLimits", Rows.laid_hornbook_api_FailLimits), ("hornbook/api.FailNoRun", Rows.laid_hornbook_api_FailNoRun), ("hornbook/api.FailSealed", Rows.laid_hornbook_api_FailSealed), ("hornbook/api.FailOpen", Rows.laid_hornbook_api_FailOpen), ("hornbook/api.FailRange", Rows.laid_hornbook_api_FailRange), ("hornbook/api.FailFull", Rows.laid_hornbook_api_FailFull), ("hornbook/api.FailSpent", Rows.laid_hornbook_api_FailSpent), ("hornbook/api.FailBroken", Rows.laid_hornbook_api_FailBroken), ("hornbook/api.FailRecord", Rows.laid_hornbook_api_FailRecord), ("hornbook/api.FailTorn", Rows.laid_hornbook_api_FailTorn), ("hornbook/api.FailSame", Rows.laid_hornbook_api_FailSame), ("hornbook/api.FailClosed", Rows.laid_hornbook_api_FailClosed)]
def codes : List Nat := [1, 2, 3, 4, 5, 6, 7, 8, 9, 10, 11, 12, 13]
theorem gs_of_laid {W : World} (h : laidMetH Tryz.prog listed W) : ∃ E, Gs W E (fun _ => False) ∧ Ap W E codes ∧ W.cell? ⟨1, 0, none⟩ = some (er E 2) ∧ W.cell? ⟨3, 0, none⟩ = some (er E 5) ∧ W.cell? ⟨10, 0, none⟩ = some (er E 6) ∧ W.cell? ⟨8, 0, none⟩ = some (er E 10) ∧ W.cell? ⟨12, 0, none⟩ = some (er E 11) ∧ W.cell? ⟨2, 0, none⟩ = some (er E 12) ∧ W.cell? ⟨9, 0, none⟩ = some (er E 13) := by
  have h0 : laidMet Tryz.prog listed W := h
  obtain ⟨a1, s1, c1, k1, t1, b1⟩ := sent (g := 0) h0 (by kernel_rfl) (by kernel_rfl)
  have h1 := h0.tail
  obtain ⟨a2, s2, c2, k2, t2, b2⟩ := sent (g := 1) h1 (by kernel_rfl) (by kernel_rfl)
  have h2 := h1.tail
  obtain ⟨a3, s3, c3, k3, t3, b3⟩ := sent (g := 4) h2 (by kernel_rfl) (by kernel_rfl)
  have h3 := h2.tail
  obtain ⟨a4, s4, c4, k4, t4, b4⟩ := sent (g := 11) h3 (by kernel_rfl) (by kernel_rfl)
  have h4 := h3.tail
  obtain ⟨a5, s5, c5, k5, t5, b5⟩ := sent (g := 3) h4 (by kernel_rfl) (by kernel_rfl)
  have h5 := h4.tail
  obtain ⟨a6, s6, c6, k6, t6, b6⟩ := sent (g := 10) h5 (by kernel_rfl) (by kernel_rfl)
  have h6 := h5.tail
  obtain ⟨a7, s7, c7, k7, t7, b7⟩ := sent (g := 5) h6 (by kernel_rfl) (by kernel_rfl)
  have h7 := h6.tail
  obtain ⟨a8, s8, c8, k8, t8, b8⟩ := sent (g := 6) h7 (by kernel_rfl) (by kernel_rfl)
  have h8 := h7.tail
  obtain ⟨a9, s9, c9, k9, t9, b9⟩ := sent (g := 7) h8 (by kernel_rfl) (by kernel_rfl)
  have h9 := h8.tail
  obtain ⟨a10, s10, c10, k10, t10, b10⟩ := sent (g := 8) h9 (by kernel_rfl) (by kernel_rfl)
  have h10 := h9.tail
  obtain ⟨a11, s11, c11, k11, t11, b11⟩ := sent (g := 12) h10 (by kernel_rfl) (by kernel_rfl)
  have h11 := h10.tail
  obtain ⟨a12, s12, c12, k12, t12, b12⟩ := sent (g := 2) h11 (by kernel_rfl) (by kernel_rfl)
  have h12 := h11.tail
  obtain ⟨a13, s13, c13, k13, t13, b13⟩ := sent (g := 9) h12 (by kernel_rfl) (by kernel_rfl)
  let E : Nat → Addr := fun i => if i = 1 then a1 else if i = 2 then a2 else if i = 3 then a3 else if i = 4 then a4 else if i = 5 then a5 else if i = 6 then a6 else if i = 7 then a7 else if i = 8 then a8 else if i = 9 then a9 else if i = 10 then a10 else if i = 11 then a11 else if i = 12 then a12 else a13
  have ne : ∀ {a b : Addr} {s t : ByteArray}, W.cell? a = some (.string s) → W.cell? b = some (.string t) → s.data.toList ≠ t.data.toList → a ≠ b := fun h1 h2 h3 e => by
    subst e
    rw [h1] at h2
    injection h2 with h2
    injection h2 with h2
    exact h3 (by rw [h2])
  have lt : ∀ {g : Nat} {v : Value}, W.cell? ⟨g, 0, none⟩ = some v → g < W.heap.size := fun h1 => World.block_lt_of_cell? _ _ h1
  refine ⟨E, ⟨c1, c3, c4, c7, c8, c9, ?_, fun _ h => h.elim⟩, ⟨fun i hi j hj hij => ?_, fun i hi => ?_⟩, c2, c5, c6, c10, c11, c12, c13⟩
  · have q1 := lt c1
    have q2 := lt c2
    have q3 := lt c3
    have q4 := lt c4
    have q5 := lt c5
    have q6 := lt c6
    have q7 := lt c7
    have q8 := lt c8
    have q9 := lt c9
    have q10 := lt c10
    have q11 := lt c11
    have q12 := lt c12
    have q13 := lt c13
    omega
  · simp only [codes, List.mem_cons, List.not_mem_nil, or_false] at hi hj
    rcases hi with rfl | rfl | rfl | rfl | rfl | rfl | rfl | rfl | rfl | rfl | rfl | rfl | rfl <;> rcases hj with rfl | rfl | rfl | rfl | rfl | rfl | rfl | rfl | rfl | rfl | rfl | rfl | rfl <;> first | exact absurd rfl hij | skip
    · exact ne k1 k2 (by rw [t1, t2]; decide)
    · exact ne k1 k3 (by rw [t1, t3]; decide)
    · exact ne k1 k4 (by rw [t1, t4]; decide)
    · exact ne k1 k5 (by rw [t1, t5]; decide)
    · exact ne k1 k6 (by rw [t1, t6]; decide)
    · exact ne k1 k7 (by rw [t1, t7]; decide)
    · exact ne k1 k8 (by rw [t1, t8]; decide)
    · exact ne k1 k9 (by rw [t1, t9]; decide)
    · exact ne k1 k10 (by rw [t1, t10]; decide)
    · exact ne k1 k11 (by rw [t1, t11]; decide)
    · exact ne k1 k12 (by rw [t1, t12]; decide)
    · exact ne k1 k13 (by rw [t1, t13]; decide)
    · exact ne k2 k1 (by rw [t2, t1]; decide)
    · exact ne k2 k3 (by rw [t2, t3]; decide)
    · exact ne k2 k4 (by rw [t2, t4]; decide)
    · exact ne k2 k5 (by rw [t2, t5]; decide)
    · exact ne k2 k6 (by rw [t2, t6]; decide)
    · exact ne k2 k7 (by rw [t2, t7]; decide)
    · exact ne k2 k8 (by rw [t2, t8]; decide)
    · exact ne k2 k9 (by rw [t2, t9]; decide)
    · exact ne k2 k10 (by rw [t2, t10]; decide)
    · exact ne k2 k11 (by rw [t2, t11]; decide)
    · exact ne k2 k12 (by rw [t2, t12]; decide)
    · exact ne k2 k13 (by rw [t2, t13]; decide)
    · exact ne k3 k1 (by rw [t3, t1]; decide)
    · exact ne k3 k2 (by rw [t3, t2]; decide)
    · exact ne k3 k4 (by rw [t3, t4]; decide)
    · exact ne k3 k5 (by rw [t3, t5]; decide)
    · exact ne k3 k6 (by rw [t3, t6]; decide)
    · exact ne k3 k7 (by rw [t3, t7]; decide)
    · exact ne k3 k8 (by rw [t3, t8]; decide)
    · exact ne k3 k9 (by rw [t3, t9]; decide)
    · exact ne k3 k10 (by rw [t3, t10]; decide)
    · exact ne k3 k11 (by rw [t3, t11]; decide)
    · exact ne k3 k12 (by rw [t3, t12]; decide)
    · exact ne k3 k13 (by rw [t3, t13]; decide)
    · exact ne k4 k1 (by rw [t4, t1]; decide)
    · exact ne k4 k2 (by rw [t4, t2]; decide)
    · exact ne k4 k3 (by rw [t4, t3]; decide)
    · exact ne k4 k5 (by rw [t4, t5]; decide)
    · exact ne k4 k6 (by rw [t4, t6]; decide)
    · exact ne k4 k7 (by rw [t4, t7]; decide)
    · exact ne k4 k8 (by rw [t4, t8]; decide)
    · exact ne k4 k9 (by rw [t4, t9]; decide)
    · exact ne k4 k10 (by rw [t4, t10]; decide)
    · exact ne k4 k11 (by rw [t4, t11]; decide)
    · exact ne k4 k12 (by rw [t4, t12]; decide)
    · exact ne k4 k13 (by rw [t4, t13]; decide)
    · exact ne k5 k1 (by rw [t5, t1]; decide)
    · exact ne k5 k2 (by rw [t5, t2]; decide)
    · exact ne k5 k3 (by rw [t5, t3]; decide)
    · exact ne k5 k4 (by rw [t5, t4]; decide)
    · exact ne k5 k6 (by rw [t5, t6]; decide)
    · exact ne k5 k7 (by rw [t5, t7]; decide)
    · exact ne k5 k8 (by rw [t5, t8]; decide)
    · exact ne k5 k9 (by rw [t5, t9]; decide)
    · exact ne k5 k10 (by rw [t5, t10]; decide)
    · exact ne k5 k11 (by rw [t5, t11]; decide)
    · exact ne k5 k12 (by rw [t5, t12]; decide)
    · exact ne k5 k13 (by rw [t5, t13]; decide)
    · exact ne k6 k1 (by rw [t6, t1]; decide)
    · exact ne k6 k2 (by rw [t6, t2]; decide)
    · exact ne k6 k3 (by rw [t6, t3]; decide)
    · exact ne k6 k4 (by rw [t6, t4]; decide)
    · exact ne k6 k5 (by rw [t6, t5]; decide)
    · exact ne k6 k7 (by rw [t6, t7]; decide)
    · exact ne k6 k8 (by rw [t6, t8]; decide)
    · exact ne k6 k9 (by rw [t6, t9]; decide)
    · exact ne k6 k10 (by rw [t6, t10]; decide)
    · exact ne k6 k11 (by rw [t6, t11]; decide)
    · exact ne k6 k12 (by rw [t6, t12]; decide)
    · exact ne k6 k13 (by rw [t6, t13]; decide)
    · exact ne k7 k1 (by rw [t7, t1]; decide)
    · exact ne k7 k2 (by rw [t7, t2]; decide)
    · exact ne k7 k3 (by rw [t7, t3]; decide)
    · exact ne k7 k4 (by rw [t7, t4]; decide)
    · exact ne k7 k5 (by rw [t7, t5]; decide)
    · exact ne k7 k6 (by rw [t7, t6]; decide)
    · exact ne k7 k8 (by rw [t7, t8]; decide)
    · exact ne k7 k9 (by rw [t7, t9]; decide)
    · exact ne k7 k10 (by rw [t7, t10]; decide)
    · exact ne k7 k11 (by rw [t7, t11]; decide)
    · exact ne k7 k12 (by rw [t7, t12]; decide)
    · exact ne k7 k13 (by rw [t7, t13]; decide)
    · exact ne k8 k1 (by rw [t8, t1]; decide)
    · exact ne k8 k2 (by rw [t8, t2]; decide)
    · exact ne k8 k3 (by rw [t8, t3]; decide)
    · exact ne k8 k4 (by rw [t8, t4]; decide)
    · exact ne k8 k5 (by rw [t8, t5]; decide)
    · exact ne k8 k6 (by rw [t8, t6]; decide)
    · exact ne k8 k7 (by rw [t8, t7]; decide)
    · exact ne k8 k9 (by rw [t8, t9]; decide)
    · exact ne k8 k10 (by rw [t8, t10]; decide)
    · exact ne k8 k11 (by rw [t8, t11]; decide)
    · exact ne k8 k12 (by rw [t8, t12]; decide)
    · exact ne k8 k13 (by rw [t8, t13]; decide)
    · exact ne k9 k1 (by rw [t9, t1]; decide)
    · exact ne k9 k2 (by rw [t9, t2]; decide)
    · exact ne k9 k3 (by rw [t9, t3]; decide)
    · exact ne k9 k4 (by rw [t9, t4]; decide)
    · exact ne k9 k5 (by rw [t9, t5]; decide)
    · exact ne k9 k6 (by rw [t9, t6]; decide)
    · exact ne k9 k7 (by rw [t9, t7]; decide)
    · exact ne k9 k8 (by rw [t9, t8]; decide)
    · exact ne k9 k10 (by rw [t9, t10]; decide)
    · exact ne k9 k11 (by rw [t9, t11]; decide)
    · exact ne k9 k12 (by rw [t9, t12]; decide)
    · exact ne k9 k13 (by rw [t9, t13]; decide)
    · exact ne k10 k1 (by rw [t10, t1]; decide)
    · exact ne k10 k2 (by rw [t10, t2]; decide)
    · exact ne k10 k3 (by rw [t10, t3]; decide)
    · exact ne k10 k4 (by rw [t10, t4]; decide)
    · exact ne k10 k5 (by rw [t10, t5]; decide)
    · exact ne k10 k6 (by rw [t10, t6]; decide)
    · exact ne k10 k7 (by rw [t10, t7]; decide)
    · exact ne k10 k8 (by rw [t10, t8]; decide)
    · exact ne k10 k9 (by rw [t10, t9]; decide)
    · exact ne k10 k11 (by rw [t10, t11]; decide)
    · exact ne k10 k12 (by rw [t10, t12]; decide)
    · exact ne k10 k13 (by rw [t10, t13]; decide)
    · exact ne k11 k1 (by rw [t11, t1]; decide)
    · exact ne k11 k2 (by rw [t11, t2]; decide)
    · exact ne k11 k3 (by rw [t11, t3]; decide)
    · exact ne k11 k4 (by rw [t11, t4]; decide)
    · exact ne k11 k5 (by rw [t11, t5]; decide)
    · exact ne k11 k6 (by rw [t11, t6]; decide)
    · exact ne k11 k7 (by rw [t11, t7]; decide)
    · exact ne k11 k8 (by rw [t11, t8]; decide)
    · exact ne k11 k9 (by rw [t11, t9]; decide)
    · exact ne k11 k10 (by rw [t11, t10]; decide)
    · exact ne k11 k12 (by rw [t11, t12]; decide)
    · exact ne k11 k13 (by rw [t11, t13]; decide)
    · exact ne k12 k1 (by rw [t12, t1]; decide)
    · exact ne k12 k2 (by rw [t12, t2]; decide)
    · exact ne k12 k3 (by rw [t12, t3]; decide)
    · exact ne k12 k4 (by rw [t12, t4]; decide)
    · exact ne k12 k5 (by rw [t12, t5]; decide)
    · exact ne k12 k6 (by rw [t12, t6]; decide)
    · exact ne k12 k7 (by rw [t12, t7]; decide)
    · exact ne k12 k8 (by rw [t12, t8]; decide)
    · exact ne k12 k9 (by rw [t12, t9]; decide)
    · exact ne k12 k10 (by rw [t12, t10]; decide)
    · exact ne k12 k11 (by rw [t12, t11]; decide)
    · exact ne k12 k13 (by rw [t12, t13]; decide)
    · exact ne k13 k1 (by rw [t13, t1]; decide)
    · exact ne k13 k2 (by rw [t13, t2]; decide)
    · exact ne k13 k3 (by rw [t13, t3]; decide)
    · exact ne k13 k4 (by rw [t13, t4]; decide)
    · exact ne k13 k5 (by rw [t13, t5]; decide)
    · exact ne k13 k6 (by rw [t13, t6]; decide)
    · exact ne k13 k7 (by rw [t13, t7]; decide)
    · exact ne k13 k8 (by rw [t13, t8]; decide)
    · exact ne k13 k9 (by rw [t13, t9]; decide)
    · exact ne k13 k10 (by rw [t13, t10]; decide)
    · exact ne k13 k11 (by rw [t13, t11]; decide)
    · exact ne k13 k12 (by rw [t13, t12]; decide)
  · simp only [codes, List.mem_cons, List.not_mem_nil, or_false] at hi
    rcases hi with rfl | rfl | rfl | rfl | rfl | rfl | rfl | rfl | rfl | rfl | rfl | rfl | rfl
    · exact b1
    · exact b2
    · exact b3
    · exact b4
    · exact b5
    · exact b6
    · exact b7
    · exact b8
    · exact b9
    · exact b10
    · exact b11
    · exact b12
    · exact b13
end Rs
end Go.Proofs.YtohfhkdhccpoaaaGreatDoor
/- Layer 5: Made, Break, Size, Read; the failures' numbers. -/
namespace Go.Proofs.YtohfhkdhccpoaaaGreatDoor
open Go.RowKit
namespace Rs
def codesD : List Nat := [1, 2, 3, 4, 5, 7, 8, 9, 10, 13]
/-- the failures, in memory below block number B -/
structure Env (w : World) (E : Nat → Addr) (B : Nat) : Prop where
  g : Gs w E (fun b => B ≤ b)
  op : w.cell? ⟨3, 0, none⟩ = some (er E 5)
  li : w.cell? ⟨1, 0, none⟩ = some (er E 2)
  rc : w.cell? ⟨8, 0, none⟩ = some (er E 10)
  cl : w.cell? ⟨9, 0, none⟩ = some (er E 13)
  ap : Ap w E codesD
  lt : ∀ i ∈ codesD, (E i).block < B
  nb : 13 ≤ B
theorem Env.below {w w' : World} {E : Nat → Addr} {B : Nat} (h : Env w E B) (hb : Below B w w') : Env w' E B := by
  have hc : ∀ g, g < 13 → w'.cell? ⟨g, 0, none⟩ = w.cell? ⟨g, 0, none⟩ := fun g hg => hb.cell (p := ⟨g, 0, none⟩) (by have := h.nb; show g < B; omega)
  refine ⟨⟨?_, ?_, ?_, ?_, ?_, ?_, Nat.le_trans h.g.sz hb.size, h.g.hi⟩, ?_, ?_, ?_, ?_, ⟨h.ap.ne, fun i hi => ?_⟩, h.lt, h.nb⟩
  · rw [hc _ (by decide)]; exact h.g.nil
  · rw [hc _ (by decide)]; exact h.g.noRun
  · rw [hc _ (by decide)]; exact h.g.shut
  · rw [hc _ (by decide)]; exact h.g.full
  · rw [hc _ (by decide)]; exact h.g.spent
  · rw [hc _ (by decide)]; exact h.g.broken
  · rw [hc _ (by decide)]; exact h.op
  · rw [hc _ (by decide)]; exact h.li
  · rw [hc _ (by decide)]; exact h.rc
  · rw [hc _ (by decide)]; exact h.cl
  · rw [hb.block _ (h.lt i hi)]; exact h.ap.at_ i hi
/-- with FailRange too -/
structure EnvR (w : World) (E : Nat → Addr) (B : Nat) : Prop extends Env w E B where
  rn : w.cell? ⟨10, 0, none⟩ = some (er E 6)
theorem EnvR.below {w w' : World} {E : Nat → Addr} {B : Nat} (h : EnvR w E B) (hb : Below B w w') : EnvR w' E B :=
  ⟨h.toEnv.below hb, (hb.cell (p := ⟨10, 0, none⟩) (by have := h.nb; show 10 < B; omega)).trans h.rn⟩
theorem codesD_sub {i : Nat} (h : i ∈ codesD) : i ∈ codes := by
  simp only [codes, codesD, List.mem_cons, List.not_mem_nil, or_false] at *
  omega
/-- with FailSame too, all of them told apart -/
structure EnvZ (w : World) (E : Nat → Addr) (B : Nat) : Prop extends EnvR w E B where
  sa : w.cell? ⟨2, 0, none⟩ = some (er E 12)
  to : w.cell? ⟨12, 0, none⟩ = some (er E 11)
  apz : Ap w E codes
  ltz : ∀ i ∈ codes, (E i).block < B
theorem EnvZ.below {w w' : World} {E : Nat → Addr} {B : Nat} (h : EnvZ w E B) (hb : Below B w w') : EnvZ w' E B :=
  ⟨h.toEnvR.below hb, (hb.cell (p := ⟨2, 0, none⟩) (by have := h.nb; show 2 < B; omega)).trans h.sa, (hb.cell (p := ⟨12, 0, none⟩) (by have := h.nb; show 12 < B; omega)).trans h.to, ⟨h.apz.ne, fun i hi => by rw [hb.block _ (h.ltz i hi)]; exact h.apz.at_ i hi⟩, h.ltz⟩
theorem env_of_laid {W : World} (h : laidMetH Tryz.prog listed W) : ∃ E, EnvZ W E W.heap.size := by
  obtain ⟨E, g, ap, c2, c5, c6, c10, c11, c12, c13⟩ := gs_of_laid h
  have hl : ∀ i ∈ codes, (E i).block < W.heap.size := fun i hi => by
    obtain ⟨c, t, hc⟩ := ap.at_ i hi
    exact (Array.getElem?_eq_some_iff.1 hc).1
  exact ⟨E, ⟨⟨g.sub fun b hb => Nat.le_trans g.sz hb, c5, c2, c10, c13, ⟨fun i hi j hj => ap.ne i (codesD_sub hi) j (codesD_sub hj), fun i hi => ap.at_ i (codesD_sub hi)⟩, fun i hi => hl i (codesD_sub hi), g.sz⟩, c6⟩, c12, c11, ap, hl⟩
theorem Env.gs {w : World} {E : Nat → Addr} {B : Nat} (h : Env w E B) {F : Nat → Prop} (hF : ∀ b, F b → B ≤ b) : Gs w E F := h.g.sub fun b hb => Nat.le_trans h.nb (hF b hb)
theorem EnvR.gs {w : World} {E : Nat → Addr} {B : Nat} (h : EnvR w E B) {F : Nat → Prop} (hF : ∀ b, F b → B ≤ b) : Gs w E F := h.toEnv.gs hF
def siz (m : Sto) (k : Int) : Int × Nat := match look m.runs k with
  | none => (0, 3)
  | some r => (r.txt.length, 0)
theorem size_nil (w : World) (k : Int) {E : Nat → Addr} {F : Nat → Prop} (G : Gs w E F) : Calls Tryz.prog 40 #[.pointer none, .int .i64 k] w fun e w' => e = .returned (.tuple #[.int .i64 0, errV E 1]) ∧ Below w.heap.size w w' := by
  have HF := hide (find_nil w k G)
  clear G
  go_enter Tryz.func40, Tryz.ntmps40
  go_wp2_with (go_at_call 61; refine (unhide HF).mono ?_; rintro e w1 ⟨rfl, hb⟩; have HB := hide hb; clear hb)
  go_ret2
  exact ⟨rfl, (unhide HB).trans (((Below.refl _ _).alloc (Nat.le_refl _) _).mono (unhide HB).size)⟩
theorem size_any {w : World} {sb : Nat} {m : Sto} {F : Nat → Prop} {E : Nat → Addr} {k : Int} (h : At w sb m F) (G : Gs w E F) (hk1 : -9223372036854775808 ≤ k) (hk2 : k ≤ 9223372036854775807) :
    Calls Tryz.prog 40 #[.pointer (some ⟨sb, 0, none⟩), .int .i64 k] w fun e w' => e = .returned (.tuple #[.int .i64 (siz m k).1, errV E (siz m k).2]) ∧ Below w.heap.size w w' := by
  rcases hl : look m.runs k with _ | r
  · have HR : siz m k = (0, 3) := by unfold siz; rw [hl]
    have HF := hide (find_none h G hk1 hk2 hl)
    rw [HR]
    clear h G hl HR
    go_enter Tryz.func40, Tryz.ntmps40
    go_wp2_with (go_at_call 61; refine (unhide HF).mono ?_; rintro e w1 ⟨rfl, hb⟩; have HB := hide hb; clear hb)
    go_ret2
    exact ⟨rfl, (unhide HB).trans (((Below.refl _ _).alloc (Nat.le_refl _) _).mono (unhide HB).size)⟩
  · have HR : siz m k = ((r.txt.length : Int), 0) := by unfold siz; rw [hl]
    obtain ⟨bm, sl, fl, hin⟩ : ∃ bm sl fl, In w sb m F bm sl fl := by
      rcases h.open with ⟨_, he⟩ | hx
      · have := (look_mem hl).1
        rw [he] at this
        cases this
      · exact hx
    have hf := find_some hin hk1 hk2 hl
    obtain ⟨a, c, ev⟩ := own_slice (hin.rows.own r (look_mem hl).1)
    rw [ev] at hf
    have HF := hide hf
    rw [HR]
    clear h G hl hf ev hin HR
    go_enter Tryz.func40, Tryz.ntmps40
    go_wp2_with (go_at_call 61; refine (unhide HF).mono ?_; rintro e w1 ⟨rfl, hb⟩; have HB := hide hb; clear hb)
    go_ret2
    exact ⟨rfl, (unhide HB).trans (((Below.refl _ _).alloc (Nat.le_refl _) _).mono (unhide HB).size)⟩
/-! the number of a failure -/
theorem eq_other {w : World} {E : Nat → Addr} {l : List Nat} (h : Ap w E l) {i j : Nat} (hi : i ∈ l) (hj : j ∈ l) (hij : i ≠ j) : (binOp .eql 38 (er E i) (er E j)).run Tryz.prog w = .ok (.bool false) w := by
  obtain ⟨i0, h0, hc⟩ := Option.map_eq_some_iff.1 (show (Tryz.prog.info? 234).map (·.comparable) = some true by kernel_rfl)
  obtain ⟨j0, hj0, hz⟩ := Option.map_eq_some_iff.1 (show (Tryz.prog.info? 250).map (·.size) = some 1 by kernel_rfl)
  obtain ⟨c1, t1, b1⟩ := h.at_ i hi
  obtain ⟨c2, t2, b2⟩ := h.at_ j hj
  exact run_eql_iface_ptr_other w Tryz.underlying38 Tryz.underlying234 h0 hc hj0 (by omega) (h.ne i hi j hj hij) b1 b2
theorem eq_same {w : World} (a : Addr) : (binOp .eql 38 (.iface 234 (.pointer (some a))) (.iface 234 (.pointer (some a)))).run Tryz.prog w = .ok (.bool true) w := by
  obtain ⟨i, hi, hc⟩ := Option.map_eq_some_iff.1 (show (Tryz.prog.info? 234).map (·.comparable) = some true by kernel_rfl)
  obtain ⟨j, hj, _⟩ := Option.map_eq_some_iff.1 (show (Tryz.prog.info? 250).map (·.size) = some 1 by kernel_rfl)
  exact run_eql_iface_ptr_same w a Tryz.underlying38 Tryz.underlying234 hi hc hj
end Rs
end Go.Proofs.YtohfhkdhccpoaaaGreatDoor
/- Layer 5: Read. -/
namespace Go.Proofs.YtohfhkdhccpoaaaGreatDoor
open Go.RowKit
namespace Rs
def rea (m : Sto) (k a n : Int) : List UInt8 × Nat := match look m.runs k with
  | none => ([], 3)
  | some r => if r.shut then (if a < 0 ∨ n < 0 ∨ a > r.txt.length ∨ n > r.txt.length - a then ([], 6) else ((r.txt.drop a.toNat).take n.toNat, 0)) else ([], 5)
def strB (l : List UInt8) : ByteArray := ⟨l.toArray⟩
def cvB (v : Value) : Sem Value := convert 77 9 v
theorem cvB_as (v : Value) : convert 77 9 v = cvB v := rfl
theorem read_nil (w : World) (k a n : Int) {E : Nat → Addr} {F : Nat → Prop} (G : Gs w E F) : Calls Tryz.prog 41 #[.pointer none, .int .i64 k, .int .i64 a, .int .i64 n] w fun e w' => e = .returned (.tuple #[.string (strB []), errV E 1]) ∧ Below w.heap.size w w' := by
  have HF := hide (find_nil w k G)
  clear G
  go_enter Tryz.func41, Tryz.ntmps41
  go_wp2_with (go_at_call 61; refine (unhide HF).mono ?_; rintro e w1 ⟨rfl, hb⟩; have HB := hide hb; clear hb)
  go_ret2
  exact ⟨rfl, (unhide HB).trans (((Below.refl _ _).alloc (Nat.le_refl _) _).mono (unhide HB).size)⟩
theorem conv_row {W : World} {g n : Nat} {cap : Nat} {t : List UInt8} (h : W.ownsRow 0 5 1 (.slice (some ⟨g, 0, none⟩) n cap) t.length (t.map encB)) (a k c : Nat) (hk : a + k ≤ t.length) :
    (cvB (.slice (some ⟨g, a, none⟩) k c)).run Tryz.prog W = .ok (.string (strB ((t.drop a).take k))) W := by
  have hl : ((t.drop a).take k).length = k := by simp; omega
  have q := run_convert_bytes_back (P := Tryz.prog) W 77 9 5 ⟨g, a, none⟩ c ((t.drop a).take k) Tryz.underlying77 Tryz.underlying5 Tryz.underlying9 (fun j hj => by
    have hj' : j < k := by omega
    obtain ⟨_, ⟨e, _⟩ | ⟨g', cap', cur, e, _, hb, hn, _, hcs, hx⟩⟩ := h
    · cases e
    · injection e with e1 e2 _
      injection e1 with e1
      injection e1 with e1 _ _
      subst e1
      have hcell : W.cell? ⟨g, a + j, none⟩ = cur[a + j]? := by simp [World.cell?, hb]
      have hx2 : cur.toList[a + j]? = (t.map encB)[a + j]? := by
        rw [← hx, List.getElem?_take, if_pos (by omega)]
      rw [Array.getElem?_toList] at hx2
      have ea : (⟨g, a, none⟩ : Addr).add j = ⟨g, a + j, none⟩ := Addr.add_lit _ _ _
      rw [ea, hcell, hx2]
      simp [encB, List.getElem?_map]
      exact ⟨t[a + j], List.getElem?_eq_getElem (by omega), rfl⟩)
  rw [hl] at q
  exact q
attribute [local go_sem ↓] cvB_as
theorem conv_none (W : World) (c : Nat) : (cvB (.slice none 0 c)).run Tryz.prog W = .ok (.string (strB [])) W := Lib.run_convert_nil_bytes W 77 9 5 c Tryz.underlying77 Tryz.underlying5 Tryz.underlying9
theorem badB (a n : Int) (l : Nat) (h : a < 0 ∨ n < 0 ∨ a > l ∨ n > l - a) : ¬ (0 ≤ a ∧ 0 ≤ n ∧ a ≤ l ∧ n ≤ l - a) := by omega
set_option maxRecDepth 100000 in
set_option maxHeartbeats 1000000 in
theorem read_any {w : World} {sb : Nat} {m : Sto} {F : Nat → Prop} {E : Nat → Addr} {B : Nat} {k a n : Int} (h : At w sb m F) (V : EnvR w E B) (hF : ∀ b, F b → B ≤ b) (hk1 : -9223372036854775808 ≤ k) (hk2 : k ≤ 9223372036854775807) (ha2 : a ≤ 9223372036854775807) (hn2 : n ≤ 9223372036854775807) :
    Calls Tryz.prog 41 #[.pointer (some ⟨sb, 0, none⟩), .int .i64 k, .int .i64 a, .int .i64 n] w fun e w' => e = .returned (.tuple #[.string (strB (rea m k a n).1), errV E (rea m k a n).2]) ∧ Below w.heap.size w w' := by
  have G := V.gs hF
  rcases hl : look m.runs k with _ | r
  · have HR : rea m k a n = ([], 3) := by unfold rea; rw [hl]
    have HF := hide (find_none h G hk1 hk2 hl)
    rw [HR]
    clear h G hl HR V hF
    go_enter Tryz.func41, Tryz.ntmps41
    go_wp2_with (go_at_call 61; refine (unhide HF).mono ?_; rintro e w1 ⟨rfl, hb⟩; have HB := hide hb; clear hb)
    go_ret2
    exact ⟨rfl, (unhide HB).trans (((Below.refl _ _).alloc (Nat.le_refl _) _).mono (unhide HB).size)⟩
  obtain ⟨bm, sl, fl, hin⟩ : ∃ bm sl fl, In w sb m F bm sl fl := by
    rcases h.open with ⟨_, he⟩ | hx
    · have := (look_mem hl).1
      rw [he] at this
      cases this
    · exact hx
  have hf := find_some hin hk1 hk2 hl
  have hrow := hin.rows.own r (look_mem hl).1
  have hlen : r.txt.length ≤ 67108864 := by have := tot_mem (look_mem hl).1; have := h.ok.used; have := h.ok.cap; omega
  obtain ⟨a0, c, ev⟩ := own_slice hrow
  rw [ev] at hf hrow
  have HRW : Hid (∀ w1, Below w.heap.size w w1 → w1.ownsRow 0 5 1 (.slice a0 r.txt.length c) r.txt.length (r.txt.map encB)) := fun w1 hb => own_kept hrow fun g hg => hb.block g (hrow.lt g hg).2
  have HG : Hid (∀ w1, Below w.heap.size w w1 → (∀ o, (w1.alloc o).cell? ⟨3, 0, none⟩ = some (er E 5)) ∧ (∀ o, (w1.alloc o).cell? ⟨10, 0, none⟩ = some (er E 6))) := fun w1 hb => by
    have hs : 13 ≤ w.heap.size := G.sz
    exact ⟨fun o => cell?_alloc_old o ((hb.cell (p := ⟨3, 0, none⟩) (by show 3 < _; omega)).trans V.op), fun o => cell?_alloc_old o ((hb.cell (p := ⟨10, 0, none⟩) (by show 10 < _; omega)).trans V.rn)⟩
  by_cases hs : r.shut = true
  · rw [hs] at hf
    by_cases hbad : a < 0 ∨ n < 0 ∨ a > r.txt.length ∨ n > r.txt.length - a
    · have HR : rea m k a n = ([], 6) := by unfold rea; rw [hl]; simp only [hs, if_true]; rw [if_pos hbad]
      have HF := hide hf
      rw [HR]
      clear h G hl HR V hF hf hin ev hrow hs HRW
      have go : ∀ (P : Prop), P → Calls Tryz.prog 41 #[.pointer (some ⟨sb, 0, none⟩), .int .i64 k, .int .i64 a, .int .i64 n] w fun e w' => e = .returned (.tuple #[.string (strB []), errV E 6]) ∧ Below w.heap.size w w' := by
        intro P hP
        clear hP
        by_cases h1 : a < 0
        · clear hbad
          go_enter Tryz.func41, Tryz.ntmps41
          go_wp2_with (go_at_call 61; refine (unhide HF).mono ?_; rintro e w1 ⟨rfl, hb⟩; obtain ⟨g5, g6⟩ := unhide HG w1 hb; have HB := hide hb; clear hb)
          go_region
          all_goals
            go_wp2
            go_ret2
            exact ⟨rfl, (unhide HB).trans ((((Below.refl _ _).alloc (Nat.le_refl _) _).drew).mono (unhide HB).size)⟩
        · by_cases h2 : n < 0
          · clear hbad
            go_enter Tryz.func41, Tryz.ntmps41
            go_wp2_with (go_at_call 61; refine (unhide HF).mono ?_; rintro e w1 ⟨rfl, hb⟩; obtain ⟨g5, g6⟩ := unhide HG w1 hb; have HB := hide hb; clear hb)
            go_region
            all_goals
              go_wp2
              go_ret2
              exact ⟨rfl, (unhide HB).trans ((((Below.refl _ _).alloc (Nat.le_refl _) _).drew).mono (unhide HB).size)⟩
          · by_cases h3 : a > r.txt.length
            · clear hbad
              go_enter Tryz.func41, Tryz.ntmps41
              go_wp2_with (go_at_call 61; refine (unhide HF).mono ?_; rintro e w1 ⟨rfl, hb⟩; obtain ⟨g5, g6⟩ := unhide HG w1 hb; have HB := hide hb; clear hb)
              go_region
              all_goals
                go_wp2
                go_ret2
                exact ⟨rfl, (unhide HB).trans ((((Below.refl _ _).alloc (Nat.le_refl _) _).drew).mono (unhide HB).size)⟩
            · have h4 : n > (r.txt.length : Int) - a := by omega
              have h5 : 0 ≤ a := by omega
              have h6 : 0 ≤ n := by omega
              have h7 : a ≤ r.txt.length := by omega
              clear hbad h1 h2 h3
              go_enter Tryz.func41, Tryz.ntmps41
              go_wp2_with (go_at_call 61; refine (unhide HF).mono ?_; rintro e w1 ⟨rfl, hb⟩; obtain ⟨g5, g6⟩ := unhide HG w1 hb; have HB := hide hb; clear hb)
              go_region
              all_goals
                go_wp2
                go_ret2
                exact ⟨rfl, (unhide HB).trans ((((Below.refl _ _).alloc (Nat.le_refl _) _).drew).mono (unhide HB).size)⟩
      exact go True trivial
    · have HR : rea m k a n = ((r.txt.drop a.toNat).take n.toNat, 0) := by unfold rea; rw [hl]; simp only [hs, if_true]; rw [if_neg hbad]
      have HF := hide hf
      rw [HR]
      obtain ⟨A, hA⟩ : ∃ A : Nat, a = (A : Int) := ⟨a.toNat, by omega⟩
      obtain ⟨N, hN⟩ : ∃ N : Nat, n = (N : Int) := ⟨n.toNat, by omega⟩
      subst hA hN
      have hAN : A + N ≤ r.txt.length := by omega
      have e1 : ((A : Int)).toNat = A := by omega
      have e2 : ((N : Int)).toNat = N := by omega
      rw [e1, e2]
      have hA2 : (A : Int) ≤ (r.txt.length : Int) := by omega
      have hN3 : (N : Int) ≤ (r.txt.length : Int) - (A : Int) := by omega
      have hAN2 : (A : Int) + (N : Int) ≤ (r.txt.length : Int) := by omega
      clear h G hl HR V hF hf hin ev hrow hs hbad e1 e2 HG
      rcases a0 with _ | ⟨g, o, sp⟩
      · have h0 : r.txt.length = 0 := by
          obtain ⟨_, ⟨_, e⟩ | ⟨g', cap', cur, e, _⟩⟩ := unhide HRW w (Below.refl _ w)
          · exact e
          · cases e
        obtain rfl : A = 0 := by omega
        obtain rfl : N = 0 := by omega
        have ht : r.txt = [] := List.eq_nil_of_length_eq_zero h0
        rw [ht] at HF ⊢
        have hcv := conv_none
        clear HRW hAN hA2 hN3 hAN2 h0 ht
        go_enter Tryz.func41, Tryz.ntmps41
        go_wp2_with (go_at_call 61; refine (unhide HF).mono ?_; rintro e w1 ⟨rfl, hb⟩; have HB := hide hb; clear hb)
        go_ret2
        exact ⟨rfl, (unhide HB).trans (((Below.refl _ _).alloc (Nat.le_refl _) _).mono (unhide HB).size)⟩
      · obtain ⟨rfl, rfl⟩ : o = 0 ∧ sp = none := by
          obtain ⟨_, ⟨e, _⟩ | ⟨g', cap', cur, e, _⟩⟩ := unhide HRW w (Below.refl _ w)
          · cases e
          · injection e with e _ _
            injection e with e
            injection e with _ e1 e2
            exact ⟨e1, e2⟩
        have hcap : r.txt.length ≤ c := by
          obtain ⟨_, ⟨e, _⟩ | ⟨g', cap', cur, e, _, _, hx, _⟩⟩ := unhide HRW w (Below.refl _ w)
          · cases e
          · injection e with _ _ e; omega
        by_cases hcA : c = A
        · obtain rfl : N = 0 := by omega
          have HCV : Hid (∀ w1 o c, Below w.heap.size w w1 → (cvB (.slice (some ⟨g, 0, none⟩) 0 c)).run Tryz.prog (w1.alloc o) = .ok (.string (strB ((r.txt.drop A).take 0))) (w1.alloc o)) := fun w1 o c hb => conv_row ((unhide HRW w1 hb).alloc o) 0 0 c (by omega)
          subst hcA
          generalize ((r.txt.drop c).take 0) = T at *
          generalize r.txt.length = Z at *
          clear HRW
          go_enter Tryz.func41, Tryz.ntmps41
          go_wp2_with (go_at_call 61; refine (unhide HF).mono ?_; rintro e w1 ⟨rfl, hb⟩; have hcv := (fun o c => unhide HCV w1 o c hb); have HB := hide hb; clear hb)
          go_ret2
          exact ⟨rfl, (unhide HB).trans (((Below.refl _ _).alloc (Nat.le_refl _) _).mono (unhide HB).size)⟩
        · have HCV : Hid (∀ w1 o c, Below w.heap.size w w1 → (cvB (.slice (some ⟨g, A, none⟩) N c)).run Tryz.prog (w1.alloc o) = .ok (.string (strB ((r.txt.drop A).take N))) (w1.alloc o)) := fun w1 o c hb => conv_row ((unhide HRW w1 hb).alloc o) A N c hAN
          have hcA2 : ¬ A = c := fun e => hcA e.symm
          have hcA3 : ¬ c - A = 0 := by omega
          generalize ((r.txt.drop A).take N) = T at *
          generalize r.txt.length = Z at *
          clear HRW
          go_enter Tryz.func41, Tryz.ntmps41
          go_wp2_with (go_at_call 61; refine (unhide HF).mono ?_; rintro e w1 ⟨rfl, hb⟩; have hcv := (fun o c => unhide HCV w1 o c hb); have HB := hide hb; clear hb)
          go_ret2
          exact ⟨rfl, (unhide HB).trans (((Below.refl _ _).alloc (Nat.le_refl _) _).mono (unhide HB).size)⟩
  · have hs : r.shut = false := by simpa using hs
    have HR : rea m k a n = ([], 5) := by unfold rea; rw [hl]; simp only [hs]; rfl
    rw [hs] at hf
    have HF := hide hf
    rw [HR]
    clear h G hl HR V hF hf hin ev hrow hs HRW
    go_enter Tryz.func41, Tryz.ntmps41
    go_wp2_with (go_at_call 61; refine (unhide HF).mono ?_; rintro e w1 ⟨rfl, hb⟩; obtain ⟨g5, g6⟩ := unhide HG w1 hb; have HB := hide hb; clear hb)
    go_region
    all_goals
      go_wp2
      go_ret2
      exact ⟨rfl, (unhide HB).trans ((((Below.refl _ _).alloc (Nat.le_refl _) _).drew).mono (unhide HB).size)⟩
end Rs
end Go.Proofs.YtohfhkdhccpoaaaGreatDoor
