/- tables: named, of one flag whose class begins at rule 0. -/
import Derived.Test.YtlajdmjpobckhaaGreatDoorEe7
import Derived.Test.YtlajdmjpobckhaaGreatDoorShSo
import Derived.Test.YtlajdmjpobckhaaGreatDoorGd06
import Derived.Deep.LoopGhost
import Derived.Sort.OwnSorted
import Derived.Sort.OwnSortedInts
namespace Go.Proofs.YtlajdmjpobckhaaGreatDoor
open Go.Sort Go.RowKit
namespace Af
open RowB
/-- the numbers of the rules from 0 on -/
def upto (j : Nat) : List Value := (List.range j).map fun i => .int .i64 (i : Nat)
theorem upto_snoc (j : Nat) : upto (j + 1) = upto j ++ [.int .i64 (j : Nat)] := by simp [upto, List.range_succ]
theorem upto_ints (j : Nat) : upto j = ((List.range j).map fun i : Nat => (i : Int)).map (Value.int .i64) := by simp [upto]
theorem range_sorted (j : Nat) : ((List.range j).map fun i : Nat => (i : Int)).mergeSort (fun x y => decide (x ≤ y)) = (List.range j).map fun i : Nat => (i : Int) := by
  apply List.mergeSort_of_pairwise
  rw [List.pairwise_map]
  exact List.pairwise_lt_range.imp (fun h => by simp only [decide_eq_true_eq]; omega)
set_option maxRecDepth 100000 in
set_option maxHeartbeats 4000000 in
theorem named_1 {w : World} {tb B n wb : Nat} {F : Fil} {P : Pts} {E : List Ent} {Q : WPts} {vu ve : Value} {nv fv : List Value} (h : TbAt w tb B F P n wb E Q vu ve nv fv) {v : Value} {x : Int} (hv : So.FArg w v [x]) (hx0 : 0 ≤ x) (hx1 : x ≤ 65535) {i : Nat} {c : Cls} (hf : findC F.classes x = some i) (hc : F.classes[i]? = some c) (h0 : c.first = 0) (hm : c.count ≤ 1000) (hm0 : 0 < c.count) :
    Calls Tryz.prog 49 #[.pointer (some ⟨tb, 0, none⟩), v, .int .i64 c.kind] w fun e w' => ∃ u, e = .returned u ∧ w'.ownsRow w.heap.size 3 1 u c.count (upto c.count) ∧ Below w.heap.size w w' := by
  obtain ⟨i0, hi, hz0, hz1, hz2⟩ := info_parts So.infoI
  obtain ⟨ao, cap, rfl, hcp, hmx, -, hcell⟩ := hv
  obtain ⟨g, off, rfl, hg, hcl⟩ := hcell (by simp)
  have c0 := hcl 0 x rfl
  obtain ⟨d0, -, -, -, -, -, -, -, hlt⟩ := h.cells
  have HK := hide (class_some h.file x hx0 hx1 hf hc)
  unfold clsV at HK
  rw [h0] at HK
  generalize c.count = m at *
  generalize c.flag = cf at *
  generalize c.kind = ck at *
  generalize c.cross = cx at *
  simp only [So.encF, Nat.add_zero] at c0
  unfold maxLen at hmx
  clear h hcell hcl hf hc h0
  have hlen : ([x] : List Int).length = 1 := rfl
  rw [hlen] at hcp ⊢
  go_enter Tryz.func49, Tryz.ntmps49
  go_wp2
  go_loopw [7, 15] (fun s7 s15 wr => (s15 = .int .i64 0 ∧ s7 = .slice none 0 0 ∧ wr = w) ∨ (s15 = .int .i64 1 ∧ Hid (wr.ownsRow w.heap.size 3 1 s7 m (upto m) ∧ Below w.heap.size w wr))) (fun _ s15 _ => 1 - (intOf s15).toNat)
  case atStart => exact .inl ⟨rfl, rfl, rfl⟩
  case round =>
    rcases hrel with ⟨rfl, rfl, hw⟩ | ⟨rfl, HR⟩
    · obtain rfl := hw.symm
      go_wp2_with (go_at_call 64; refine (unhide HK).mono ?_; rintro e w1 ⟨rfl, b1⟩; have B1 := hide b1; clear b1)
      have HB2 := hide ((unhide B1).alloc (unhide B1).size (.cells #[.int .u16 cf, .int .i64 ck, .bool cx, .int .i64 0, .int .i64 (m : Nat)] 117))
      obtain ⟨V, hV⟩ : ∃ V, V = w1.alloc (.cells #[.int .u16 cf, .int .i64 ck, .bool cx, .int .i64 0, .int .i64 (m : Nat)] 117) := ⟨_, rfl⟩
      have hb : V.heap[w1.heap.size]? = some (.cells #[.int .u16 cf, .int .i64 ck, .bool cx, .int .i64 0, .int .i64 (m : Nat)] 117 (0, 0)) := by rw [hV]; exact alloc_new _ _
      have e3 : V.cell? ⟨w1.heap.size, 3, none⟩ = some (.int .i64 0) := by simp [World.cell?, hb]
      have hbl := lt_some hb
      rw [← hV] at HB2
      have hcut : ∃ q : Prop, q := ⟨True, trivial⟩
      clear hcut
      refine gen_world ?_
      intro V' hV'
      obtain rfl : V' = V := hV'.trans hV.symm
      clear hV hV' hb
      go_loopw [7, 38] (fun s7 s38 wr => ∃ j : Nat, j ≤ m ∧ s38 = .int .i64 j ∧ Hid (wr.ownsRow V'.heap.size 3 1 s7 j (upto j)) ∧ Hid (Below V'.heap.size V' wr)) (fun _ s38 _ => m - (intOf s38).toNat)
      case atStart => exact ⟨0, Nat.zero_le _, rfl, World.ownsRow_nil _ _ _ _, Below.refl _ _⟩
      case round =>
        obtain ⟨j, hj, rfl, HR, HB⟩ := hrel
        by_cases hlt2 : j < m
        · have hltz : (j : Int) < (m : Int) := by omega
          have e3w := ((unhide HB).cell (p := ⟨w1.heap.size, 3, none⟩) hbl).trans e3
          have hsz := (unhide HB).size
          go_wp2_with (at_builtin; refine wpList_append_own _ rfl _ _ 75 rfl V'.heap.size 3 i0 (.int .i64 0) 1 8 Tryz.underlying75 hi hz0 hz1 hz2 rfl (by decide) _ _ _ rfl ((unhide HR).alloc _) ⟨wr.heap.size, 0, none⟩ 1 1 [.int .i64 (j : Nat)] rfl rfl (cell_one_new _ _ _) (fun x hx => by simp at hx; subst hx; rfl) (by unfold maxLen; omega) (by omega) (by simp; omega) ?_; intro v' w2 hown' hgrow _; have HO1 := hide hown'; have HB1 := hide (So.irow_push (unhide HR) (unhide HB) hgrow); clear hown' hgrow)
          go_roundw
          case rel => exact ⟨j + 1, by omega, by go_num, by rw [upto_snoc]; exact HO1, HB1⟩
          case measure => simp [intOf]; omega
        · obtain rfl : j = m := by omega
          have hltz : ¬ (j : Int) < (j : Int) := by omega
          have HF : Hid (wr.ownsRow w.heap.size 3 1 u7 j (upto j) ∧ Below w.heap.size w wr) := ⟨own_low (unhide HR) (unhide HB2).size, btr (unhide HB2) (unhide HB)⟩
          go_wp2
          go_roundw
          case rel => exact .inr ⟨by go_num, HF⟩
          case measure => simp [intOf]
    · obtain ⟨hR, hB⟩ := unhide HR
      obtain ⟨g2, cap2, cur, e2, hbase, hb, q1, q2, q3, q4⟩ : ∃ g2 cap2 cur, u7 = .slice (some ⟨g2, 0, none⟩) m cap2 ∧ w.heap.size ≤ g2 ∧ wr.heap[g2]? = some (.cells cur 3 (0, 0)) ∧ m ≤ cap2 ∧ cap2 ≤ maxLen ∧ cur.size = cap2 * 1 ∧ cur.toList.take (m * 1) = upto m := by
        rcases hR.2 with ⟨_, z⟩ | ⟨g2, cap2, cur, z⟩
        · omega
        · exact ⟨g2, cap2, cur, z⟩
      subst e2
      rw [upto_ints, Nat.mul_one] at q4
      have hL : ((List.range m).map fun i : Nat => (i : Int)).length = m := by simp
      have HS := hide (Tryz.slices_Sort_int g2 0 cap2 ((List.range m).map fun i : Nat => (i : Int)) wr (holds_of_blockI hb (by rw [hL]; exact q4)) (lt_some hb) (by rw [hL]; omega))
      rw [hL, range_sorted] at HS
      have HFIN : Hid (∀ n os, (Go.Sort.grow (putRow (Value.int .i64) (Sort.ahead wr n) g2 0 ((List.range m).map fun i : Nat => (i : Int)).toArray) os).ownsRow w.heap.size 3 1 (.slice (some ⟨g2, 0, none⟩) m cap2) m (upto m) ∧ Below w.heap.size w (Go.Sort.grow (putRow (Value.int .i64) (Sort.ahead wr n) g2 0 ((List.range m).map fun i : Nat => (i : Int)).toArray) os)) := fun n os => by
        have q := ownsRow_sortedI (n := n) (os := os) (ts := (List.range m).map fun i : Nat => (i : Int)) (ss := (List.range m).map fun i : Nat => (i : Int)) rfl hbase hb (by rw [hL]; exact q1) q2 q3
        rw [hL, ← upto_ints] at q
        exact ⟨q, hB.grown (grownBy_sortedI _) hB.size (fun k hk => by cases hk; exact hbase)⟩
      generalize ((List.range m).map fun i : Nat => (i : Int)).toArray = ts at *
      have hltz : ¬ (1 : Int) < 1 := by omega
      clear hR hB HR hb q1 q2 q3 q4 hbase
      go_wp2_with (go_at_call 65; refine (unhide HS).mono ?_; rintro e w1 ⟨rfl, n, os, hw1⟩; have HW := hide hw1; clear hw1)
      go_ret
      refine ⟨_, rfl, ?_⟩
      rw [unhide HW]
      exact unhide HFIN n os
end Af
end Go.Proofs.YtlajdmjpobckhaaGreatDoor
