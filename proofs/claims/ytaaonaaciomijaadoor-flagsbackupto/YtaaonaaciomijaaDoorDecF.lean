/- Contract: the document's Decimal answers the numeral of every int, and turns nothing old in memory. -/
import Derived.Test.YtaaonaaciomijaaDoorIntW
import Derived.Test.YtaaonaaciomijaaDoorDec
import Derived.Laws.IdiomStrings
import Derived.Laws.BytesArg
namespace Go.Proofs.YtaaonaaciomijaaDoor
open Go.RowKit
namespace DecW
theorem hide {p : Prop} (h : p) : Hid p := h
theorem unhide {p : Prop} (h : Hid p) : p := h
theorem info_parts {P : Program} {e : TypeId} {z : Value} {s b : Nat} (h : (P.info? e).map (fun i => (i.zero, i.size, i.bytes)) = some (some z, s, b)) : ∃ i, P.info? e = some i ∧ i.zero = some z ∧ i.size = s ∧ i.bytes = b := So.info_parts h
theorem below_push {w wr w1 : World} {e : TypeId} {v : Value} {n : Nat} {xs : List Value} {o : Obj} (hown : wr.ownsRow w.heap.size e 1 v n xs) (hB : Below w.heap.size w wr) (hg : (wr.alloc o).grownBy w1 v.ownBlock) : Below w.heap.size w w1 := So.irow_push hown hB hg

def bytes (l : List UInt8) : List Value := l.map fun b => Value.int .u8 (b.toNat : Int)
theorem bytes_length (l : List UInt8) : (bytes l).length = l.length := by simp [bytes]
theorem bytes_snoc (l : List UInt8) (c : UInt8) : bytes (l ++ [c]) = bytes l ++ [.int .u8 (c.toNat : Int)] := by simp [bytes]
theorem info5 : (Tryd.prog.info? 5).map (fun i => (i.zero, i.size, i.bytes)) = some (some (.int .u8 0), 1, 1) := by kernel_rfl

theorem add_zero_off (g j : Nat) : (⟨g, 0, none⟩ : Addr).add j = ⟨g, j, none⟩ := by
  unfold Addr.add
  split
  · rename_i h; subst h; rfl
  · simp
theorem owns_cells {w : World} {B : Nat} {v : Value} {L : List UInt8} (h : w.ownsRow B 5 1 v L.length (bytes L)) (h0 : 0 < L.length) :
    ∃ g cap, v = .slice (some ⟨g, 0, none⟩) L.length cap ∧ g < w.heap.size ∧ ∀ j x, L[j]? = some x → w.cell? ⟨g, j, none⟩ = some (.int .u8 (x.toNat : Int)) := by
  have hc := h
  obtain ⟨hl, ⟨rfl, h1⟩ | ⟨g, cap, cur, rfl, hg, hh, hc1, hm, hsz, htk⟩⟩ := h
  · omega
  · refine ⟨g, cap, rfl, (Array.getElem?_eq_some_iff.1 hh).1, fun j x hj => ?_⟩
    have := hc.cells (g := g) rfl j (.int .u8 (x.toNat : Int)) (by simp [bytes, hj])
    rwa [add_zero_off] at this
theorem conv_owns {w : World} {B : Nat} {v : Value} {L : List UInt8} (h : w.ownsRow B 5 1 v L.length (bytes L)) :
    (convert 66 9 v).run Tryd.prog w = .ok (.string ⟨L.toArray⟩) w := by
  by_cases h0 : 0 < L.length
  · obtain ⟨g, cap, rfl, _, hcell⟩ := owns_cells h h0
    exact run_convert_bytes_back w 66 9 5 ⟨g, 0, none⟩ cap L Tryd.underlying66 Tryd.underlying5 Tryd.underlying9 (fun j hj => by rw [add_zero_off]; exact hcell j _ (List.getElem?_eq_getElem hj))
  · have : L = [] := List.eq_nil_of_length_eq_zero (by omega)
    subst this
    obtain ⟨hl, ⟨rfl, h1⟩ | ⟨g, cap, cur, rfl, hg, hh, hc1, hm, hsz, htk⟩⟩ := h
    · exact run_convert_bytes_nil w 66 5 Tryd.underlying66 Tryd.underlying5 0 0 9 Tryd.underlying9
    · exact run_convert_bytes_back w 66 9 5 ⟨g, 0, none⟩ cap [] Tryd.underlying66 Tryd.underlying5 Tryd.underlying9 (fun j hj => absurd hj (by simp))

set_option maxHeartbeats 1000000 in
theorem dec_zero (w : World) : Calls Tryd.prog 38 #[.int .i64 0] w fun e w' => e = .returned (.string ⟨#[48]⟩) ∧ w' = w := by
  go_enter Tryd.func38, Tryd.ntmps38
  go_wp2
  go_ret
  exact ⟨rfl, rfl⟩
set_option maxHeartbeats 2000000 in
set_option maxRecDepth 100000 in
theorem dec_pos (u : Nat) (hu : 0 < u) (hm : (u : Int) ≤ 9223372036854775807) (w : World) : Calls Tryd.prog 38 #[.int .i64 (u : Int)] w fun e w' => e = .returned (.string ⟨(Lib.decDigits u).toArray⟩) ∧ Below w.heap.size w w' := by
  obtain ⟨i0, hi, hz0, hz1, hz2⟩ := info_parts info5
  have hu0 : ((u : Int) == 0) = false := by rw [beq_eq_false_iff_ne]; omega
  go_enter Tryd.func38, Tryd.ntmps38
  go_wp2
  go_loopw [3, 4] (fun v m wr => ∃ (r : Nat) (D : List UInt8), r ≤ u ∧ m = .int .i64 ((r : Int)) ∧ wr.ownsRow w.heap.size 5 1 v D.length (bytes D) ∧ Below w.heap.size w wr ∧ Hid (D ++ Dec.low r = Dec.low u)) (fun _ m _ => (intOf m).natAbs)
  case atStart => exact ⟨u, [], Nat.le_refl _, rfl, World.ownsRow_made w #[] 0 (Nat.le_refl _) (by simp) rfl, (Below.refl _ _).alloc (Nat.le_refl _) _, rfl⟩
  case round =>
    obtain ⟨r, D, hr, rfl, hown, hB, HD⟩ := hrel
    have hlen := Dec.len_of HD.out (by omega)
    by_cases hr0 : 0 < r
    · have hrb : (((r : Int)) != 0) = true := by rw [bne_iff_ne]; omega
      have HST := hide (Dec.step HD.out hr0)
      have HBY := hide (Dec.byte_of (r % 10) (by omega))
      have hm10 : (0 : Int) ≤ (r : Int) % 10 := by omega
      have hm11 : (r : Int) % 10 ≤ 9 := by omega
      go_wp2_with (at_builtin; refine wpList_append_own _ rfl _ _ 66 rfl w.heap.size 5 i0 (.int .u8 0) 1 1 Tryd.underlying66 hi hz0 hz1 hz2 rfl (by decide) _ _ _ rfl (hown.alloc _) ⟨wr.heap.size, 0, none⟩ 1 1 [.int .u8 (48 + (r : Int) % 10)] rfl rfl (cell_one_new _ _ _) (fun x hx => by simp at hx; subst hx; rfl) (by unfold maxLen; omega) (by omega) (by have := hB.size; simp; omega) ?_; intro v' w1 hown' hgrow hnil; clear hnil)
      have HB1 := hide (below_push hown hB hgrow)
      have HO1 : Hid (w1.ownsRow w.heap.size 5 1 v' (D ++ [UInt8.ofNat (48 + r % 10)]).length (bytes (D ++ [UInt8.ofNat (48 + r % 10)]))) := by
        show w1.ownsRow w.heap.size 5 1 v' (D ++ [UInt8.ofNat (48 + r % 10)]).length (bytes (D ++ [UInt8.ofNat (48 + r % 10)]))
        rw [bytes_snoc, unhide HBY, List.length_append]
        exact hown'
      clear hown hB hgrow hown' HBY
      go_wp2
      go_roundw
      case rel => exact ⟨r / 10, D ++ [UInt8.ofNat (48 + r % 10)], by omega, by go_num, unhide HO1, unhide HB1, unhide HST⟩
      case measure => simp [intOf]; omega
    · have hr1 : r = 0 := by omega
      subst hr1
      rw [show ((0 : Nat) : Int) = 0 from rfl]
      obtain ⟨w2, rfl⟩ : ∃ w2, w2 = wr := ⟨wr, rfl⟩
      have hD : D = Dec.low u := by have := HD.out; rwa [Dec.low_zero, List.append_nil] at this
      clear HD
      subst hD
      have hL0 : 0 < (Dec.low u).length := by rw [Dec.low_pos hu]; simp
      have HRV := hide (Dec.low_rev hu)
      generalize hL : Dec.low u = L at *
      clear hL
      obtain ⟨g, cap, rfl, hg, hcell⟩ := owns_cells hown hL0
      have HC := hide hcell
      have hB0 := hB.size
      clear hcell hown
      generalize hz : L.length = z at *
      have HZ := hide hz
      clear hz
      go_wp2
      go_loopw [6, 7] (fun v i wr => ∃ k : Nat, k ≤ z ∧ i = .int .i64 ((k : Int) - 1) ∧ wr.ownsRow w2.heap.size 5 1 v ([] ++ (L.drop k).reverse).length (bytes ([] ++ (L.drop k).reverse)) ∧ Below w2.heap.size w2 wr) (fun _ i _ => (intOf i + 1).toNat)
      case atStart => exact ⟨z, Nat.le_refl _, rfl, by rw [show L.drop z = [] from by rw [← unhide HZ]; exact List.drop_length]; exact World.ownsRow_made w2 #[] 0 (Nat.le_refl _) (by simp) rfl, (Below.refl _ _).alloc (Nat.le_refl _) _⟩
      case round =>
        obtain ⟨k, hk, rfl, hownq, hBq⟩ := hrel
        by_cases hk0 : 0 < k
        · obtain ⟨j, rfl⟩ : ∃ j, k = j + 1 := ⟨k - 1, by omega⟩
          have hjl : j < L.length := by rw [unhide HZ]; omega
          have hcj : wr.cell? ⟨g, j, none⟩ = some (.int .u8 (L[j].toNat : Int)) := (hBq.cell (p := ⟨g, j, none⟩) hg).trans (unhide HC j _ (List.getElem?_eq_getElem hjl))
          have HDR := hide (Dec.drop_rev L j hjl)
          generalize L[j] = x at *
          have hlenq : ([] ++ (L.drop (j + 1)).reverse).length ≤ 20 := by simp; have := unhide HZ; omega
          have e1 : ((j + 1 : Nat) : Int) - 1 = (j : Int) := by omega
          rw [e1]
          have hjz : (j : Int) < (z : Int) := by omega
          clear e1 hjl
          go_wp2_with (at_builtin; refine wpList_append_own _ rfl _ _ 66 rfl w2.heap.size 5 i0 (.int .u8 0) 1 1 Tryd.underlying66 hi hz0 hz1 hz2 rfl (by decide) _ _ _ rfl (hownq.alloc _) ⟨wr.heap.size, 0, none⟩ 1 1 [.int .u8 (x.toNat : Int)] rfl rfl (cell_one_new _ _ _) (fun x hx => by simp at hx; subst hx; rfl) (by unfold maxLen; omega) (by omega) (by have := hBq.size; simp; omega) ?_; intro v' w1 hown' hgrow hnil; clear hnil)
          have HB1 := hide (below_push hownq hBq hgrow)
          have HO1 : Hid (w1.ownsRow w2.heap.size 5 1 v' ([] ++ (L.drop j).reverse).length (bytes ([] ++ (L.drop j).reverse))) := by
            show w1.ownsRow w2.heap.size 5 1 v' ([] ++ (L.drop j).reverse).length (bytes ([] ++ (L.drop j).reverse))
            rw [unhide HDR, ← List.append_assoc, bytes_snoc, List.length_append]
            exact hown'
          clear hownq hBq hgrow hown' hcj hlenq HDR
          go_wp2
          go_roundw
          case rel => exact ⟨j, by omega, by go_num, unhide HO1, unhide HB1⟩
          case measure => simp [intOf]
        · have hk1 : k = 0 := by omega
          subst hk1
          rw [List.drop_zero, unhide HRV] at hownq
          have hcv := conv_owns hownq
          clear hownq
          go_wp2
          go_ret
          exact ⟨rfl, hB.trans (hBq.mono hB0)⟩
set_option maxHeartbeats 2000000 in
set_option maxRecDepth 100000 in
theorem dec_neg (u : Nat) (hu : 0 < u) (hm : (u : Int) ≤ 9223372036854775808) (w : World) : Calls Tryd.prog 38 #[.int .i64 (-(u : Int))] w fun e w' => e = .returned (.string ⟨(45 :: Lib.decDigits u).toArray⟩) ∧ Below w.heap.size w w' := by
  obtain ⟨i0, hi, hz0, hz1, hz2⟩ := info_parts info5
  have hu0 : ((-(u : Int)) == 0) = false := by rw [beq_eq_false_iff_ne]; omega
  go_enter Tryd.func38, Tryd.ntmps38
  go_wp2
  go_loopw [3, 4] (fun v m wr => ∃ (r : Nat) (D : List UInt8), r ≤ u ∧ m = .int .i64 (-(r : Int)) ∧ wr.ownsRow w.heap.size 5 1 v D.length (bytes D) ∧ Below w.heap.size w wr ∧ Hid (D ++ Dec.low r = Dec.low u)) (fun _ m _ => (intOf m).natAbs)
  case atStart => exact ⟨u, [], Nat.le_refl _, rfl, World.ownsRow_made w #[] 0 (Nat.le_refl _) (by simp) rfl, (Below.refl _ _).alloc (Nat.le_refl _) _, rfl⟩
  case round =>
    obtain ⟨r, D, hr, rfl, hown, hB, HD⟩ := hrel
    have hlen := Dec.len_of HD.out (by omega)
    by_cases hr0 : 0 < r
    · have hrb : ((-(r : Int)) != 0) = true := by rw [bne_iff_ne]; omega
      have HST := hide (Dec.step HD.out hr0)
      have HBY := hide (Dec.byte_of (r % 10) (by omega))
      have hm10 : (-(r : Int)).tmod 10 = -((r % 10 : Nat) : Int) := by rw [Int.neg_tmod]; rfl
      have hm11 : (-(r : Int)).tdiv 10 = -((r / 10 : Nat) : Int) := by rw [Int.neg_tdiv]; rfl
      by_cases hd0 : r % 10 = 0
      · have hd1 : (r : Int) % 10 = 0 := by omega
        have HD1 := hide hd0
        clear hd0
        go_wp2_with (at_builtin; go_must (refine wpList_append_own _ rfl _ _ 66 rfl w.heap.size 5 i0 (.int .u8 0) 1 1 Tryd.underlying66 hi hz0 hz1 hz2 rfl (by decide) _ _ _ rfl (hown.alloc _) ⟨wr.heap.size, 0, none⟩ 1 1 [.int .u8 (48)] rfl rfl (cell_one_new _ _ _) (fun x hx => by simp at hx; subst hx; rfl) (by unfold maxLen; omega) (by omega) (by have := hB.size; simp; omega) ?_); intro v' w1 hown' hgrow hnil; clear hnil)
        have HB1 := hide (below_push hown hB hgrow)
        have HO1 : Hid (w1.ownsRow w.heap.size 5 1 v' (D ++ [UInt8.ofNat (48 + r % 10)]).length (bytes (D ++ [UInt8.ofNat (48 + r % 10)]))) := by
          show w1.ownsRow w.heap.size 5 1 v' (D ++ [UInt8.ofNat (48 + r % 10)]).length (bytes (D ++ [UInt8.ofNat (48 + r % 10)]))
          rw [bytes_snoc, unhide HBY, List.length_append]
          rw [unhide HD1]; exact hown'
        clear hown hB hgrow hown' HBY
        go_wp2
        go_roundw
        case rel => exact ⟨r / 10, D ++ [UInt8.ofNat (48 + r % 10)], by omega, by go_num, unhide HO1, unhide HB1, unhide HST⟩
        case measure => simp [intOf]; omega
      · have hd1 : 0 < (r : Int) % 10 := by omega
        have hd2 : (r : Int) % 10 ≤ 9 := by omega
        clear hd0
        go_wp2_with (at_builtin; go_must (refine wpList_append_own _ rfl _ _ 66 rfl w.heap.size 5 i0 (.int .u8 0) 1 1 Tryd.underlying66 hi hz0 hz1 hz2 rfl (by decide) _ _ _ rfl (hown.alloc _) ⟨wr.heap.size, 0, none⟩ 1 1 [.int .u8 (48 + (r : Int) % 10)] rfl rfl (cell_one_new _ _ _) (fun x hx => by simp at hx; subst hx; rfl) (by unfold maxLen; omega) (by omega) (by have := hB.size; simp; omega) ?_); intro v' w1 hown' hgrow hnil; clear hnil)
        have HB1 := hide (below_push hown hB hgrow)
        have HO1 : Hid (w1.ownsRow w.heap.size 5 1 v' (D ++ [UInt8.ofNat (48 + r % 10)]).length (bytes (D ++ [UInt8.ofNat (48 + r % 10)]))) := by
          show w1.ownsRow w.heap.size 5 1 v' (D ++ [UInt8.ofNat (48 + r % 10)]).length (bytes (D ++ [UInt8.ofNat (48 + r % 10)]))
          rw [bytes_snoc, unhide HBY, List.length_append]
          exact hown'
        clear hown hB hgrow hown' HBY
        go_wp2
        go_roundw
        case rel => exact ⟨r / 10, D ++ [UInt8.ofNat (48 + r % 10)], by omega, by go_num, unhide HO1, unhide HB1, unhide HST⟩
        case measure => simp [intOf]; omega
    · have hr1 : r = 0 := by omega
      subst hr1
      rw [show -((0 : Nat) : Int) = 0 from rfl]
      obtain ⟨w2, rfl⟩ : ∃ w2, w2 = wr := ⟨wr, rfl⟩
      have hD : D = Dec.low u := by have := HD.out; rwa [Dec.low_zero, List.append_nil] at this
      clear HD
      subst hD
      have hL0 : 0 < (Dec.low u).length := by rw [Dec.low_pos hu]; simp
      have HRV := hide (Dec.low_rev hu)
      generalize hL : Dec.low u = L at *
      clear hL
      obtain ⟨g, cap, rfl, hg, hcell⟩ := owns_cells hown hL0
      have HC := hide hcell
      have hB0 := hB.size
      clear hcell hown
      generalize hz : L.length = z at *
      have HZ := hide hz
      clear hz
      go_wp2_with (at_builtin; refine wpList_append_own _ rfl _ _ 66 rfl w2.heap.size 5 i0 (.int .u8 0) 1 1 Tryd.underlying66 hi hz0 hz1 hz2 rfl (by decide) _ _ _ rfl ((World.ownsRow_made w2 #[] 0 (Nat.le_refl _) (by simp) rfl).alloc _) ⟨w2.heap.size + 1, 0, none⟩ 1 1 [.int .u8 45] rfl rfl (by have := cell_one_new (w2.alloc (.cells #[] 5)) (.int .u8 45) 5; simpa using this) (fun x hx => by simp at hx; subst hx; rfl) (by unfold maxLen; omega) (by omega) (by simp; omega) ?_; intro v'' w'' hown'' hgrow'' hnil; clear hnil)
      have HO2 : Hid (w''.ownsRow w2.heap.size 5 1 v'' ([45] ++ ([] : List UInt8).reverse).length (bytes ([45] ++ ([] : List UInt8).reverse))) := hown''
      have HB2 : Hid (Below w2.heap.size w2 w'') := below_push (World.ownsRow_made w2 #[] 0 (Nat.le_refl _) (by simp) rfl) ((Below.refl _ _).alloc (Nat.le_refl _) _) hgrow''
      clear hown'' hgrow''
      go_wp2
      go_loopw [6, 7] (fun v i wr => ∃ k : Nat, k ≤ z ∧ i = .int .i64 ((k : Int) - 1) ∧ wr.ownsRow w2.heap.size 5 1 v ([45] ++ (L.drop k).reverse).length (bytes ([45] ++ (L.drop k).reverse)) ∧ Below w2.heap.size w2 wr) (fun _ i _ => (intOf i + 1).toNat)
      case atStart => exact ⟨z, Nat.le_refl _, rfl, by rw [show L.drop z = [] from by rw [← unhide HZ]; exact List.drop_length]; exact unhide HO2, unhide HB2⟩
      case round =>
        obtain ⟨k, hk, rfl, hownq, hBq⟩ := hrel
        by_cases hk0 : 0 < k
        · obtain ⟨j, rfl⟩ : ∃ j, k = j + 1 := ⟨k - 1, by omega⟩
          have hjl : j < L.length := by rw [unhide HZ]; omega
          have hcj : wr.cell? ⟨g, j, none⟩ = some (.int .u8 (L[j].toNat : Int)) := (hBq.cell (p := ⟨g, j, none⟩) hg).trans (unhide HC j _ (List.getElem?_eq_getElem hjl))
          have HDR := hide (Dec.drop_rev L j hjl)
          generalize L[j] = x at *
          have hlenq : ([45] ++ (L.drop (j + 1)).reverse).length ≤ 20 := by simp; have := unhide HZ; omega
          have e1 : ((j + 1 : Nat) : Int) - 1 = (j : Int) := by omega
          rw [e1]
          have hjz : (j : Int) < (z : Int) := by omega
          clear e1 hjl
          go_wp2_with (at_builtin; refine wpList_append_own _ rfl _ _ 66 rfl w2.heap.size 5 i0 (.int .u8 0) 1 1 Tryd.underlying66 hi hz0 hz1 hz2 rfl (by decide) _ _ _ rfl (hownq.alloc _) ⟨wr.heap.size, 0, none⟩ 1 1 [.int .u8 (x.toNat : Int)] rfl rfl (cell_one_new _ _ _) (fun x hx => by simp at hx; subst hx; rfl) (by unfold maxLen; omega) (by omega) (by have := hBq.size; simp; omega) ?_; intro v' w1 hown' hgrow hnil; clear hnil)
          have HB1 := hide (below_push hownq hBq hgrow)
          have HO1 : Hid (w1.ownsRow w2.heap.size 5 1 v' ([45] ++ (L.drop j).reverse).length (bytes ([45] ++ (L.drop j).reverse))) := by
            show w1.ownsRow w2.heap.size 5 1 v' ([45] ++ (L.drop j).reverse).length (bytes ([45] ++ (L.drop j).reverse))
            rw [unhide HDR, ← List.append_assoc, bytes_snoc, List.length_append]
            exact hown'
          clear hownq hBq hgrow hown' hcj hlenq HDR
          go_wp2
          go_roundw
          case rel => exact ⟨j, by omega, by go_num, unhide HO1, unhide HB1⟩
          case measure => simp [intOf]
        · have hk1 : k = 0 := by omega
          subst hk1
          rw [List.drop_zero, unhide HRV] at hownq
          have hcv := conv_owns hownq
          clear hownq
          go_wp2
          go_ret
          exact ⟨rfl, hB.trans (hBq.mono hB0)⟩
theorem dec_any (n : Int) (h0 : -9223372036854775808 ≤ n) (h1 : n ≤ 9223372036854775807) (w : World) :
    Calls Tryd.prog 38 #[.int .i64 n] w fun e w' => e = .returned (.string ⟨(Lib.itoa n).toArray⟩) ∧ Below w.heap.size w w' := by
  by_cases hn : n < 0
  · obtain ⟨u, rfl⟩ : ∃ u : Nat, n = -(u : Int) := ⟨n.natAbs, by omega⟩
    have e : Lib.itoa (-(u : Int)) = 45 :: Lib.decDigits u := by
      unfold Lib.itoa
      rw [if_pos hn]
      simp
    rw [e]
    exact dec_neg u (by omega) (by omega) w
  · obtain ⟨u, rfl⟩ : ∃ u : Nat, n = (u : Int) := ⟨n.toNat, by omega⟩
    have e : Lib.itoa (u : Int) = Lib.decDigits u := by
      unfold Lib.itoa
      rw [if_neg hn, Int.toNat_natCast]
    rw [e]
    by_cases hu : 0 < u
    · exact dec_pos u hu h1 w
    · have : u = 0 := by omega
      subst this
      rw [Lib.decDigits_one (by decide)]
      exact (dec_zero w).mono fun e w' ⟨h, hw⟩ => by
        subst hw
        exact ⟨h, Below.refl _ _⟩
end DecW
end Go.Proofs.YtaaonaaciomijaaDoor
