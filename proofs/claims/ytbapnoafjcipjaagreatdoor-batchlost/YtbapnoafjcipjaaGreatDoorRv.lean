/- Layer 5: Live of a store with runs. -/
import Derived.Test.YtbapnoafjcipjaaGreatDoorRl
import Derived.Sort.OwnSortedInts
namespace Go.Proofs.YtbapnoafjcipjaaGreatDoor
open Go.RowKit Go.Sort
namespace Rs
theorem invK (key : Value) (kl : Lit) (h : keyOf Tryz.prog 3 key = some kl) : ∃ x, key = Value.int .i64 x := by
  obtain ⟨x, rfl, _⟩ := Maps.keyOf_int_inv Tryz.underlying3 h
  exact ⟨x, rfl⟩
theorem invV (v : Value) (y : DV × List MemPlace) (_ : Rh v = some y) : ∃ c : Value, v = (fun u : Value => u) c := ⟨v, rfl⟩
structure Lv (w wr : World) (bm : Nat) (D : DV) (l : List Run) (v : Value) (left : Lit → Bool) (cnt : Nat) (ks : List Int) : Prop where
  rg : wr.ranges Tryz.prog 3 Rh bm w.heap.size l.length D left cnt
  got : Got l left ks
  own : wr.ownsRow w.heap.size 3 1 v ks.length (ks.map (Value.int .i64))
  len : ks.length + cnt ≤ l.length
  bel : Below w.heap.size w wr
  nil : ks = [] → v = .slice none 0 0
theorem look_at {sl : Nat → Value} {fl : Nat → Bool} {l : List Run} {x : Int} {y : DV} (h : ∀ zd, (dat (el sl fl) l).atKey (.int .i64 x) zd = y) : (look l x).isSome = true := by
  have hh := Maps.has_true_of_atKey h
  rw [dat_has] at hh
  exact hh
set_option maxRecDepth 100000 in
set_option maxHeartbeats 1000000 in
theorem live_some {w : World} {sb : Nat} {m : Sto} {F : Nat → Prop} {bm : Nat} {sl : Nat → Value} {fl : Nat → Bool} (h : In w sb m F bm sl fl) :
    Calls Tryz.prog 22 #[.pointer (some ⟨sb, 0, none⟩)] w fun e w' => ∃ v, e = .returned v ∧ w'.ownsRow w.heap.size 3 1 v (nums m.runs).length ((nums m.runs).map (Value.int .i64)) ∧ Below w.heap.size w w' := by
  obtain ⟨-, c1, -⟩ := cells_sto h.sto
  have hsb := h.lt _ h.own
  have hbm := h.lt _ h.bmF
  have hown := h.map
  have HSO := hide h.ok.sorted
  have hlen : m.runs.length ≤ 16777216 := by have := h.ok.len; have := h.ok.made; omega
  have HLEN := hide hlen
  have HD : Hid (∀ {x : Int} {y : DV}, (∀ zd, (dat (el sl fl) m.runs).atKey (.int .i64 x) zd = y) → (look m.runs x).isSome = true) := fun {x y} hh => look_at hh
  have HST : Hid (Got m.runs (Maps.has (dat (el sl fl) m.runs)) []) := ⟨List.nodup_nil, fun x => by rw [dat_has]; cases (look m.runs x).isSome <;> simp⟩
  have HSZ : Hid (Maps.size (dat (el sl fl) m.runs) = m.runs.length) := hide (dat_size _ _)
  generalize dat (el sl fl) m.runs = D at *
  generalize m.runs = l at *
  have HBM := hide hbm
  obtain ⟨i0, hi, hz0⟩ := Option.map_eq_some_iff.1 row3
  simp only [Prod.mk.injEq] at hz0
  obtain ⟨hz0, hz1, hz2⟩ := hz0
  have HOWN := hide hown
  clear h hown hlen hbm
  go_enter Tryz.func22, Tryz.ntmps22
  go_wp2_with (at_range; refine wpList_range_own _ rfl _ 64 rfl 3 93 law3 Tryz.underlying64 Rh bm l.length D rfl (unhide HOWN) ?_; intro w0 hrg0 hg0 hs0; have HLV : Hid (Lv w w0 bm D l (.slice none 0 0) (Maps.has D) (Maps.size D) []) := ⟨hrg0, unhide HST, World.ownsRow_nil w0 w.heap.size 3 1, by rw [unhide HSZ]; simp, (Below.refl _ w).grown hg0 (Nat.le_refl _) (fun k hk => by cases hk), fun _ => rfl⟩; clear hrg0 hg0 hs0)
  go_frame
  go_loopw [3] (fun v wr => ∃ left cnt ks, Hid (Lv w wr bm D l v left cnt ks)) (fun _ wr => wr.rangeLeft bm w.heap.size)
  case atStart => exact ⟨_, _, _, HLV⟩
  case round =>
    obtain ⟨left, cnt, ks, HL⟩ := hrel
    have HRG := hide (unhide HL).rg
    obtain ⟨a3, c3, rfl⟩ := own_slice (unhide HL).own
    go_wp2_with (at_next; refine wpList_next_ranges _ rfl _ rfl 3 law3 Rh (Value.int .i64) (fun u : Value => u) invK invV bm w.heap.size l.length D left cnt rfl (unhide HRG) ?_ ?_)
    · intro hc0 hl0
      have HNM := hide (got_nums (unhide HSO) (unhide HL).got hl0)
      have HOW := hide (unhide HL).own
      have HBE := hide (unhide HL).bel
      by_cases hks : ks = []
      · have e1 := (unhide HL).nil hks
        subst hks
        simp only [List.length_nil] at e1
        obtain ⟨rfl, rfl⟩ : a3 = none ∧ c3 = 0 := by injection e1 with e1 _ e2; exact ⟨e1, e2⟩
        have HS := hide (sort_nil wr)
        clear hc0 hl0 e1 HL HRG
        go_wp2_with (go_at_call 38; refine (unhide HS).mono ?_; rintro e w1 ⟨rfl, rfl⟩)
        go_ret
        refine ⟨_, rfl, ?_, unhide HBE⟩
        have e0 : nums l = [] := by rw [← unhide HNM]; simp
        rw [e0]
        exact World.ownsRow_nil _ _ _ _
      · obtain ⟨g, cap, cur, ev, hbase, hb, h1, h2, h3, h4⟩ : ∃ g cap cur, Value.slice a3 ks.length c3 = .slice (some ⟨g, 0, none⟩) ks.length cap ∧ w.heap.size ≤ g ∧ wr.heap[g]? = some (.cells cur 3 (0, 0)) ∧ ks.length ≤ cap ∧ cap ≤ maxLen ∧ cur.size = cap * 1 ∧ cur.toList.take (ks.length * 1) = ks.map (Value.int .i64) := by
          rcases (unhide HOW).2 with ⟨_, e⟩ | hx
          · exact absurd (List.eq_nil_of_length_eq_zero e) hks
          · exact hx
        injection ev with ev1 _ ev2
        subst ev1 ev2
        rw [Nat.mul_one] at h4
        have HS := hide (Tryz.slices_Sort_int g 0 c3 ks wr (holds_of_blockI hb h4) (Array.getElem?_eq_some_iff.1 hb).1 (by have := unhide HLEN; have := (unhide HL).len; omega))
        have HFIN : Hid (∀ n os, (grow (putRow (Value.int .i64) (Sort.ahead wr n) g 0 (ks.mergeSort fun x y => decide (x ≤ y)).toArray) os).ownsRow w.heap.size 3 1 (.slice (some ⟨g, 0, none⟩) ks.length c3) (nums l).length ((nums l).map (Value.int .i64)) ∧ Below w.heap.size w (grow (putRow (Value.int .i64) (Sort.ahead wr n) g 0 (ks.mergeSort fun x y => decide (x ≤ y)).toArray) os)) := fun n os => by
          have hl := List.length_mergeSort (le := fun x y : Int => decide (x ≤ y)) ks
          have q := ownsRow_sortedI (n := n) (os := os) (ts := ks.mergeSort fun x y => decide (x ≤ y)) hl hbase hb h1 h2 h3
          rw [← unhide HNM, hl]
          exact ⟨q, (unhide HBE).grown (grownBy_sortedI _) (unhide HBE).size (fun k hk => by cases hk; exact hbase)⟩
        generalize (ks.mergeSort fun x y => decide (x ≤ y)) = ts at *
        clear hc0 hl0 HL HRG hb h1 h2 h3 h4 hks hbase
        go_wp2_with (go_at_call 38; refine (unhide HS).mono ?_; rintro e w1 ⟨rfl, n, os, hw1⟩; have HW := hide hw1; clear hw1)
        go_ret
        refine ⟨_, rfl, ?_⟩
        rw [unhide HW]
        exact unhide HFIN n os
    · intro x c kl yd yp w2 cnt2 hkey hlk hv hat hrg2 hlt hg2 hs2 hen
      obtain ⟨x', ex, rfl, hwx⟩ := Maps.keyOf_int_inv Tryz.underlying3 hkey
      obtain rfl : x = x' := by injection ex with _ ex
      have hL := unhide HL
      have HG2 := hide (hL.got.step hlk (unhide HD hat))
      have HOW2 : Hid (w2.ownsRow w.heap.size 3 1 (.slice a3 ks.length c3) ks.length (ks.map (Value.int .i64))) := hide (hL.own.kept hg2 (.inr fun e => row_ne_iter hL.own hL.rg e.symm))
      have HBE2 : Hid (Below w.heap.size w w2) := hide (hL.bel.grown hg2 hL.bel.size (fun k hk => by cases hk; exact Nat.le_refl _))
      have HRG2 := hide hrg2
      have hle : ks.length + cnt2 + 1 ≤ 16777216 := by have := hL.len; have := unhide HLEN; omega
      have HLE : Hid (ks.length + 1 + cnt2 ≤ l.length) := hide (by have := hL.len; omega)
      have HLT : Hid (w2.rangeLeft bm w.heap.size < wr.rangeLeft bm w.heap.size) := hide (by rw [hrg2.left_eq, hL.rg.left_eq]; exact hlt)
      have HS2 := hide (unhide HBE2).size
      clear hkey hlk hv hat hrg2 hlt hg2 hs2 hL HL HRG ex hwx
      go_wp2_with (at_builtin; refine wpList_append_own _ rfl _ _ 56 rfl w.heap.size 3 i0 (.int .i64 0) 1 8 Tryz.underlying56 hi hz0 hz1 hz2 rfl (by decide) _ _ _ rfl ((unhide HOW2).alloc _) ⟨w2.heap.size, 0, none⟩ 1 1 [.int .i64 x] rfl rfl (cell_one_new _ _ _) (by simp [Value.oneCell']) (by unfold maxLen; omega) (by omega) (by have := unhide HS2; simp; omega) ?_; intro v3 w3 hown3 hgrow3 hnil3; obtain ⟨a4, c4, rfl⟩ := own_slice hown3; have HN3 := hide hnil3; have HO3 := hide hown3; have HG3 := hide hgrow3; clear hown3 hgrow3 hnil3)
      have hrg3 := ((unhide HRG2).alloc (.cells #[.int .i64 x] 3)).kept (unhide HG3) (row_ne_low (unhide HOW2) (unhide HBM)) (row_ne_iter (unhide HOW2) (unhide HRG2))
      refine ⟨⟨_, _, ks ++ [x], ⟨hrg3, unhide HG2, ?_, ?_, ?_, fun e => by simp at e⟩⟩, ?_⟩
      · rw [List.length_append, List.map_append]; exact unhide HO3
      · rw [List.length_append]; exact unhide HLE
      · exact ((unhide HBE2).alloc (unhide HS2) _).grown (unhide HG3) (by have := unhide HS2; simp; omega) (fun k hk => ((unhide HOW2).lt k hk).1)
      · rw [hrg3.left_eq, ← (unhide HRG2).left_eq]; exact unhide HLT
theorem live_any {w : World} {sb : Nat} {m : Sto} {F : Nat → Prop} (h : At w sb m F) :
    Calls Tryz.prog 22 #[.pointer (some ⟨sb, 0, none⟩)] w fun e w' => ∃ v, e = .returned v ∧ w'.ownsRow w.heap.size 3 1 v (nums m.runs).length ((nums m.runs).map (Value.int .i64)) ∧ Below w.heap.size w w' := by
  rcases h.open with ⟨hs, he⟩ | ⟨bm, sl, fl, hin⟩
  · refine (live_none hs).mono ?_
    rintro e w' ⟨rfl, hb⟩
    exact ⟨_, rfl, by rw [he]; exact World.ownsRow_nil _ _ _ _, hb⟩
  · exact live_some hin
end Rs
end Go.Proofs.YtbapnoafjcipjaaGreatDoor
