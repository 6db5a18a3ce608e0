import Derived.Test.YtidhbhdcoanfcaaGreatDoorGo39
set_option maxHeartbeats 8000000
set_option maxRecDepth 100000
namespace Go.Proofs.YtidhbhdcoanfcaaGreatDoor
open Go.Sort Go.RowKit
namespace Af
open RowB
def upto (j : Nat) : List Value := (List.range j).map fun i => .int .i64 (i : Nat)
theorem upto_snoc (j : Nat) : upto (j + 1) = upto j ++ [.int .i64 (j : Nat)] := by simp [upto, List.range_succ]
theorem upto_ints (j : Nat) : upto j = ((List.range j).map fun i : Nat => (i : Int)).map (Value.int .i64) := by simp [upto]
theorem range_sorted (j : Nat) : ((List.range j).map fun i : Nat => (i : Int)).mergeSort (fun x y => decide (x ≤ y)) = (List.range j).map fun i : Nat => (i : Int) := by
 apply List.mergeSort_of_pairwise
 rw [List.pairwise_map]
 exact List.pairwise_lt_range.imp (fun h => by simp only [decide_eq_true_eq]; omega)
theorem named_1 {w : World} {tb B n wb : Nat} {F : Fil} {P : Pts} {E : List Ent} {Q : WPts} {vu ve : Value} {nv fv : List Value} (h : TbAt w tb B F P n wb E Q vu ve nv fv) {v : Value} {x : Int} (hv : So.FArg w v [x]) (hx0 : 0 ≤ x) (hx1 : x ≤ 65535) {i : Nat} {c : Cls} (hf : findC F.classes x = some i) (hc : F.classes[i]? = some c) (h0 : c.first = 0) (hm : c.count ≤ 1000) (hm0 : 0 < c.count) :
  Calls Tryz.prog 53 #[.pointer (some ⟨tb, 0, none⟩), v, .int .i64 c.kind] w fun e w' => ∃ u, e = .returned u ∧ w'.ownsRow w.heap.size 3 1 u c.count (upto c.count) ∧ Below w.heap.size w w' := by
 obtain ⟨i0, hi, hz0, hz1, hz2⟩ := info_parts So.infoI
 obtain ⟨ao, cap, rfl, hcp, hmx, -, hcell⟩ := hv
 obtain ⟨g, off, rfl, hg, hcl⟩ := hcell (by simp)
 have c0 := hcl 0 x rfl
 obtain ⟨d0, -, -, -, -, -, -, -, hlt⟩ := h.cells
 have HK := hide (class_some h.file x hx0 hx1 hf hc)
 unfold clsV at HK
 rw [h0] at HK
 generalize c.count = m at *
 generalize c.flag = cf at *
 generalize c.kind = ck at *
 generalize c.cross = cx at *
 simp only [So.encF, Nat.add_zero] at c0
 unfold maxLen at hmx
 clear h hcell hcl hf hc h0
 have hlen : ([x] : List Int).length = 1 := rfl
 rw [hlen] at hcp ⊢
 go_enter Tryz.func53, Tryz.ntmps53
 go_wp2
 go_loopw [7, 15] (fun s7 s15 wr => (s15 = .int .i64 0 ∧ s7 = .slice none 0 0 ∧ wr = w) ∨ (s15 = .int .i64 1 ∧ Hid (wr.ownsRow w.heap.size 3 1 s7 m (upto m) ∧ Below w.heap.size w wr))) (fun _ s15 _ => 1 - (intOf s15).toNat)
 case atStart => exact .inl ⟨rfl, rfl, rfl⟩
 case round =>
  rcases hrel with ⟨rfl, rfl, hw⟩ | ⟨rfl, HR⟩
  ·obtain rfl := hw.symm
   go_wp2_with (go_at_call 68; refine (unhide HK).mono ?_; rintro e w1 ⟨rfl, b1⟩; have B1 := hide b1; clear b1)
   have HB2 := hide ((unhide B1).alloc (unhide B1).size (.cells #[.int .u16 cf, .int .i64 ck, .bool cx, .int .i64 0, .int .i64 (m : Nat)] 94))
   obtain ⟨V, hV⟩ : ∃ V, V = w1.alloc (.cells #[.int .u16 cf, .int .i64 ck, .bool cx, .int .i64 0, .int .i64 (m : Nat)] 94) := ⟨_, rfl⟩
   have hb : V.heap[w1.heap.size]? = some (.cells #[.int .u16 cf, .int .i64 ck, .bool cx, .int .i64 0, .int .i64 (m : Nat)] 94 (0, 0)) := by rw [hV]; exact alloc_new _ _
   have e3 : V.cell? ⟨w1.heap.size, 3, none⟩ = some (.int .i64 0) := by simp [World.cell?, hb]
   have hbl := lt_some hb
   rw [← hV] at HB2
   have hcut : ∃ q : Prop, q := ⟨True, trivial⟩
   clear hcut
   refine gen_world ?_
   intro V' hV'
   obtain rfl : V' = V := hV'.trans hV.symm
   clear hV hV' hb
   go_loopw [7, 38] (fun s7 s38 wr => ∃ j : Nat, j ≤ m ∧ s38 = .int .i64 j ∧ Hid (wr.ownsRow V'.heap.size 3 1 s7 j (upto j)) ∧ Hid (Below V'.heap.size V' wr)) (fun _ s38 _ => m - (intOf s38).toNat)
   case atStart => exact ⟨0, Nat.zero_le _, rfl, World.ownsRow_nil _ _ _ _, Below.refl _ _⟩
   case round =>
    obtain ⟨j, hj, rfl, HR, HB⟩ := hrel
    by_cases hlt2 : j < m
    ·have hltz : (j : Int) < (m : Int) := by omega
     have e3w := ((unhide HB).cell (p := ⟨w1.heap.size, 3, none⟩) hbl).trans e3
     have hsz := (unhide HB).size
     go_wp2_with (at_builtin; refine wpList_append_own _ rfl _ _ 76 rfl V'.heap.size 3 i0 (.int .i64 0) 1 8 Tryz.underlying76 hi hz0 hz1 hz2 rfl (by decide) _ _ _ rfl ((unhide HR).alloc _) ⟨wr.heap.size, 0, none⟩ 1 1 [.int .i64 (j : Nat)] rfl rfl (cell_one_new _ _ _) (fun x hx => by simp at hx; subst hx; rfl) (by unfold maxLen; omega) (by omega) (by simp; omega) ?_; intro v' w2 hown' hgrow _; have HO1 := hide hown'; have HB1 := hide (So.irow_push (unhide HR) (unhide HB) hgrow); clear hown' hgrow)
     go_roundw
     case rel => exact ⟨j + 1, by omega, by go_num, by rw [upto_snoc]; exact HO1, HB1⟩
     case measure => simp [intOf]; omega
    ·obtain rfl : j = m := by omega
     have hltz : ¬ (j : Int) < (j : Int) := by omega
     have HF : Hid (wr.ownsRow w.heap.size 3 1 u7 j (upto j) ∧ Below w.heap.size w wr) := ⟨own_low (unhide HR) (unhide HB2).size, btr (unhide HB2) (unhide HB)⟩
     go_wp2
     go_roundw
     case rel => exact .inr ⟨by go_num, HF⟩
     case measure => simp [intOf]
  ·obtain ⟨hR, hB⟩ := unhide HR
   obtain ⟨g2, cap2, cur, e2, hbase, hb, q1, q2, q3, q4⟩ : ∃ g2 cap2 cur, u7 = .slice (some ⟨g2, 0, none⟩) m cap2 ∧ w.heap.size ≤ g2 ∧ wr.heap[g2]? = some (.cells cur 3 (0, 0)) ∧ m ≤ cap2 ∧ cap2 ≤ maxLen ∧ cur.size = cap2 * 1 ∧ cur.toList.take (m * 1) = upto m := by
    rcases hR.2 with ⟨_, z⟩ | ⟨g2, cap2, cur, z⟩
    ·omega
    ·exact ⟨g2, cap2, cur, z⟩
   subst e2
   rw [upto_ints, Nat.mul_one] at q4
   have hL : ((List.range m).map fun i : Nat => (i : Int)).length = m := by simp
   have HS := hide (Tryz.slices_Sort_int g2 0 cap2 ((List.range m).map fun i : Nat => (i : Int)) wr (holds_of_blockI hb (by rw [hL]; exact q4)) (lt_some hb) (by rw [hL]; omega))
   rw [hL, range_sorted] at HS
   have HFIN : Hid (∀ n os, (Go.Sort.grow (putRow (Value.int .i64) (Sort.ahead wr n) g2 0 ((List.range m).map fun i : Nat => (i : Int)).toArray) os).ownsRow w.heap.size 3 1 (.slice (some ⟨g2, 0, none⟩) m cap2) m (upto m) ∧ Below w.heap.size w (Go.Sort.grow (putRow (Value.int .i64) (Sort.ahead wr n) g2 0 ((List.range m).map fun i : Nat => (i : Int)).toArray) os)) := fun n os => by
    have q := ownsRow_sortedI (n := n) (os := os) (ts := (List.range m).map fun i : Nat => (i : Int)) (ss := (List.range m).map fun i : Nat => (i : Int)) rfl hbase hb (by rw [hL]; exact q1) q2 q3
    rw [hL, ← upto_ints] at q
    exact ⟨q, hB.grown (grownBy_sortedI _) hB.size (fun k hk => by cases hk; exact hbase)⟩
   generalize ((List.range m).map fun i : Nat => (i : Int)).toArray = ts at *
   have hltz : ¬ (1 : Int) < 1 := by omega
   clear hR hB HR hb q1 q2 q3 q4 hbase
   go_wp2_with (go_at_call 69; refine (unhide HS).mono ?_; rintro e w1 ⟨rfl, n, os, hw1⟩; have HW := hide hw1; clear hw1)
   go_ret
   refine ⟨_, rfl, ?_⟩
   rw [unhide HW]
   exact unhide HFIN n os
end Af
end Go.Proofs.YtidhbhdcoanfcaaGreatDoor
namespace Go.Proofs.YtidhbhdcoanfcaaGreatDoor
open Go.RowKit
namespace Af
open RowB
theorem suf_1 {w : World} {tb B n wb : Nat} {F : Fil} {P : Pts} {E : List Ent} {Q : WPts} {vu ve : Value} {nv fv : List Value} (h : TbAt w tb B F P n wb E Q vu ve nv fv) (hm : E.length ≤ 1000000) {k : Nat} {y : Ent} (hy : E[k]? = some y) {x : Int} (hfl : y.flags = [x]) (hx0 : 0 ≤ x) (hx1 : x ≤ 65535) {i : Nat} {c : Cls} (hf : findC F.classes x = some i) (hc : F.classes[i]? = some c) (hk : c.kind = 2) (h0 : c.first = 0) (hcm : c.count ≤ 1000) (hm0 : 0 < c.count) :
  Calls Tryz.prog 29 #[.pointer (some ⟨tb, 0, none⟩), .int .i64 (k : Nat)] w fun e w' => ∃ u, e = .returned u ∧ w'.ownsRow w.heap.size 3 1 u c.count (upto c.count) ∧ Below w.heap.size w w' := by
 have HE := hide (entry_in h hm hy)
 have HN := hide (fun W (b : Below w.heap.size w W) v (hv : So.FArg W v [x]) => named_1 (h.below b) hv hx0 hx1 hf hc h0 hcm hm0)
 rw [hk] at HN
 rw [hfl] at HE
 clear h hm hy hfl hx0 hx1 hf hc hk h0 hcm hm0
 generalize c.count = m at *
 go_enter Tryz.func29, Tryz.ntmps29
 go_wp2_with fail
 refine (unhide HE).mono ?_
 rintro e w1 ⟨a, c, rfl, hA, b1⟩
 have B1 := hide b1
 have HV := hide (hA.below ((unhide B1).alloc (unhide B1).size (.cells #[.string (Wd.str y.word), .slice a 1 c] 56)))
 have hlen : ([x] : List Int).length = 1 := rfl
 rw [hlen] at *
 clear hA b1
 go_wp2_with fail
 refine (unhide HN _ ((unhide B1).alloc (unhide B1).size _) _ (unhide HV)).mono ?_
 rintro e w2 ⟨u, rfl, hr, b2⟩
 have HR := hide hr
 have b1w : Below w1.heap.size w1 (w1.alloc (.cells #[.string (Wd.str y.word), .slice a 1 c] 56)) := (Below.refl _ _).alloc (Nat.le_refl _) _
 have HB := hide (btr (unhide B1) (b1w.trans (b2.mono b1w.size)))
 have hsz := b1w.size
 have hsz2 := (unhide B1).size
 clear hr b2 b1w
 go_wp2
 go_ret
 exact ⟨_, rfl, own_low (unhide HR) (by omega), unhide HB⟩
theorem ints13 {w : World} {g g' c c' m : Nat} (h1 : ∀ j, j < m → w.cell? ⟨g, j, none⟩ = some (.int .i64 (j : Nat))) (h2 : ∀ j, j < m → w.cell? ⟨g', j, none⟩ = some (.int .i64 (j : Nat))) (hm : m ≤ 1000) :
  Calls Tryz.prog 50 #[.slice (some ⟨g, 0, none⟩) m c, .slice (some ⟨g', 0, none⟩) m c'] w fun e w' => e = .returned (.bool true) ∧ Below w.heap.size w w' := by
 have H1 := hide h1
 have H2 := hide h2
 clear h1 h2
 go_enter Tryz.func50, Tryz.ntmps50
 go_wp2
 go_loopw [13] (fun s wr => ∃ k q : Nat, k ≤ m ∧ s = .int .i64 k ∧ wr = w.drewN q) (fun s _ => m - (intOf s).toNat)
 case atStart => exact ⟨0, 0, Nat.zero_le _, rfl, rfl⟩
 case round =>
  obtain ⟨k, q, hk, rfl, rfl⟩ := hrel
  by_cases hlt : k < m
  ·have hltz : (k : Int) < (m : Int) := by omega
   have c1 := unhide H1 k hlt
   have c2 := unhide H2 k hlt
   go_wp2
   go_quiet (fail)
   go_wp2
   go_roundw
   case rel => exact ⟨k + 1, _, by omega, by go_num, rfl⟩
   case measure => simp [intOf]; omega
  ·obtain rfl : k = m := by omega
   have hltz : ¬ (k : Int) < (k : Int) := by omega
   go_wp2
   go_ret
   exact ⟨rfl, So.drew_below _ _ _⟩
def wkT3 : Bs := [83, 70, 88, 32, 65, 32, 89, 32, 50, 10, 83, 70, 88, 32, 65, 32, 48, 32, 115, 10, 83, 70, 88, 32, 65, 32, 48, 32, 101, 114, 10]
def wkD3 : Bs := [49, 10, 100, 111, 47, 65, 10]
def wkF3 : Fil := ⟨1, [], [], [0, 0, 0, 0, 0], 3, [], [], [⟨65, 2, true, 0, 2⟩], [⟨2, 65, true, [], [115], [46], [], 2⟩, ⟨2, 65, true, [], [101, 114], [46], [], 3⟩]⟩
theorem wk_aff3 : affR wkT3 = .ok wkF3 := by kernel_rfl
theorem wk_dic3 : dicR wkF3 wkD3 = .ok [⟨[100, 111], [65]⟩] := by kernel_rfl
def WkT (tb : Nat) (w1 : World) : Prop := ∀ W, Below w1.heap.size w1 W → (Calls Tryz.prog 29 #[.pointer (some ⟨tb, 0, none⟩), .int .i64 0] W fun e W' => ∃ g c, e = .returned (.slice (some ⟨g, 0, none⟩) 2 c) ∧ g < W'.heap.size ∧ (∀ j, j < 2 → W'.cell? ⟨g, j, none⟩ = some (.int .i64 (j : Nat))) ∧ Below W.heap.size W W') ∧ (Calls Tryz.prog 51 #[.pointer (some ⟨tb, 0, none⟩), .int .i64 1] W fun e W' => e = .returned (.bool true) ∧ Below W.heap.size W W')
theorem wk_read (w : World) (hM : Mx w.heap.size w) : Calls Tryz.prog 26 #[.string ⟨#[83, 70, 88, 32, 65, 32, 89, 32, 50, 10, 83, 70, 88, 32, 65, 32, 48, 32, 115, 10, 83, 70, 88, 32, 65, 32, 48, 32, 101, 114, 10]⟩, .string ⟨#[49, 10, 100, 111, 47, 65, 10]⟩] w fun e w1 => ∃ tb, e = .returned (.tuple #[.pointer (some ⟨tb, 0, none⟩), .agg #[.int .i64 0, .int .i64 0, .int .i64 0]]) ∧ Below w.heap.size w w1 ∧ WkT tb w1 := by
 refine (tread_ok ⟨#[83, 70, 88, 32, 65, 32, 89, 32, 50, 10, 83, 70, 88, 32, 65, 32, 48, 32, 115, 10, 83, 70, 88, 32, 65, 32, 48, 32, 101, 114, 10]⟩ ⟨#[49, 10, 100, 111, 47, 65, 10]⟩ hM (F := wkF3) wk_aff3 (E := [⟨[100, 111], [65]⟩]) wk_dic3).mono ?_
 rintro e w1 ⟨b, tb, B, P, n, wb, Q, vu, ve, nv, fv, rfl, h⟩
 refine ⟨tb, rfl, b, fun W bW => ⟨?_, ?_⟩⟩
 ·refine (suf_1 (h.below bW) (by decide) (k := 0) (y := ⟨[100, 111], [65]⟩) rfl (x := 65) rfl (by decide) (by decide) (i := 0) (c := ⟨65, 2, true, 0, 2⟩) rfl rfl rfl rfl (by decide) (by decide)).mono ?_
  rintro e W' ⟨u, rfl, hr, b2⟩
  obtain ⟨g, cap, rfl, -, hg, -, -, -, hc⟩ := own_at hr (by decide)
  refine ⟨g, cap, rfl, hg, fun j hj => ?_, b2⟩
  rw [hc j (by simp only [Nat.mul_one]; exact hj)]
  match j, hj with
  | 0, _ => rfl
  | 1, _ => rfl
 ·exact ends_0 (h.below bW) (by decide) (k := 1) (r := ⟨2, 65, true, [], [101, 114], [46], [], 3⟩) rfl rfl
theorem wakes13_any (w : World) (hM : Mx w.heap.size w) : Calls Tryz.prog 25 #[] w fun e w' => e = .returned (.bool true) ∧ Below w.heap.size w w' := by
 have HR := hide (wk_read w hM)
 clear hM
 go_enter Tryz.func25, Tryz.ntmps25
 go_wp2_with fail
 refine (unhide HR).mono ?_
 rintro e w1 ⟨tb, rfl, b1, hk⟩
 have B1 := hide b1
 have HK := hide hk
 unfold WkT at HK
 have h0 : Below w1.heap.size w1 (w1.alloc (.cells #[.int .i64 0, .int .i64 0, .int .i64 0] 31)) := (Below.refl _ _).alloc (Nat.le_refl _) _
 have H0 := hide h0
 clear b1 hk h0
 go_wp2_with fail
 refine (unhide HK _ (unhide H0)).1.mono ?_
 rintro e w2 ⟨g, c, rfl, hg, hc, b2⟩
 have B2 := hide (btr (unhide H0) b2)
 obtain ⟨V, hV⟩ : ∃ V, V = w2.alloc (.cells #[.int .i64 0, .int .i64 1] 3) := ⟨_, rfl⟩
 have bV : Below w2.heap.size w2 V := by rw [hV]; exact (Below.refl _ _).alloc (Nat.le_refl _) _
 have hn : V.heap[w2.heap.size]? = some (.cells #[.int .i64 0, .int .i64 1] 3 (0, 0)) := by rw [hV]; exact alloc_new _ _
 have HI := hide (fun c' => ints13 (w := V) (g := g) (g' := w2.heap.size) (c := c) (c' := c') (m := 2) (fun j hj => (bV.cell (p := ⟨g, j, none⟩) hg).trans (hc j hj)) (fun j hj => by
  match j, hj with
  | 0, _ => simp [World.cell?, hn]
  | 1, _ => simp [World.cell?, hn]) (by decide))
 have BV := hide (btr (unhide B2) bV)
 rw [hV] at HI BV
 clear hg hc b2 hn bV hV
 go_wp2_with fail
 refine (unhide HI _).mono ?_
 rintro e w3 ⟨rfl, b3⟩
 have B3 := hide (btr (unhide BV) b3)
 clear b3 HI
 go_wp2_with fail
 refine (unhide HK _ (unhide B3)).2.mono ?_
 rintro e w4 ⟨rfl, b4⟩
 have B4 := hide (btr (unhide B1) (btr (unhide B3) b4))
 clear b4
 go_wp2
 go_ret
 exact ⟨rfl, unhide B4⟩
abbrev TNm (a s : ByteArray) (w : World) : Prop := Calls Tryz.prog 7 #[.string a, .string s] w fun e w' => e = .returned (.bool true) ∧ Below w.heap.size w w'
theorem tnames_err (a s : ByteArray) (w : World) (hM : Mx w.heap.size w) {f : Nat} {er : Er} (hx : tabR a.data.toList s.data.toList = .error (f, er)) : TNm a s w := by
 have HF := tabR_flt a.data.toList s.data.toList
 rw [hx] at HF
 obtain ⟨hf, hc⟩ : (f = 1 ∨ f = 2) ∧ er.2 ≠ 0 := HF
 have HW := hide (wakes13_any w hM)
 have HT : Hid (∀ W, Below w.heap.size w W → Calls Tryz.prog 26 #[.string a, .string s] W fun e w' => e = .returned (.tuple #[.pointer none, .agg #[.int .i64 (f : Nat), .int .i64 (er.1 : Nat), .int .i64 (er.2 : Nat)]]) ∧ Below W.heap.size W w') := fun W b => by
  have := tread_any a s (hM.up b)
  rw [hx] at this
  refine this.mono ?_
  rintro e w' ⟨q1, q2⟩
  exact ⟨q2, q1⟩
 clear hM hx
 obtain ⟨l, c⟩ := er
 simp only at hc HT
 have hcz : ((c : Int) != 0) = true := by simp; omega
 clear hc
 go_enter Tryz.func7, Tryz.ntmps7
 go_wp2_with fail
 refine (unhide HW).mono ?_
 rintro e w1 ⟨rfl, b1⟩
 have B1 := hide b1
 clear b1
 go_wp2_with fail
 refine (unhide HT _ (unhide B1)).mono ?_
 rintro e w2 ⟨rfl, b2⟩
 have B2 := hide (btr (unhide B1) b2)
 clear b2
 rcases hf with rfl | rfl
 ·go_wp2
  go_ret
  exact ⟨rfl, (unhide B2).alloc (unhide B2).size _⟩
 ·go_wp2
  go_ret
  exact ⟨rfl, (unhide B2).alloc (unhide B2).size _⟩
structure TNd (w2 : World) (tb fb wb : Nat) (F : Fil) (E : List Ent) : Prop where
 d0 : w2.cell? ⟨tb, 0, none⟩ = some (.pointer (some ⟨fb, 0, none⟩))
 d1 : w2.cell? ⟨tb, 1, none⟩ = some (.pointer (some ⟨wb, 0, none⟩))
 lt : tb < w2.heap.size
 aff : ∀ W, Below w2.heap.size w2 W → Calls Tryz.prog 14 #[.pointer (some ⟨fb, 0, none⟩)] W fun e w' => ∃ x0 x1 x2 x3 x4 x5 x6 x7 x8 x9 x10 x11 u, e = .returned (.agg #[x0, x1, x2, x3, x4, x5, x6, x7, x8, x9, x10, x11, u]) ∧ RlsAt w' u F ∧ Below W.heap.size W w'
 len : ∀ W, Below w2.heap.size w2 W → Calls Tryz.prog 24 #[.pointer (some ⟨wb, 0, none⟩)] W fun e w' => e = .returned (.int .i64 (E.length : Nat)) ∧ w' = W
 ent : ∀ W, Below w2.heap.size w2 W → ∀ (k : Nat) x, E[k]? = some x → Calls Tryz.prog 27 #[.pointer (some ⟨tb, 0, none⟩), .int .i64 (k : Nat)] W fun e w' => ∃ a c, e = .returned (.tuple #[.agg #[.string (Wd.str x.word), .slice a x.flags.length c], .bool true]) ∧ So.FArg w' (.slice a x.flags.length c) x.flags ∧ Below W.heap.size W w'
 suf : ∀ W, Below w2.heap.size w2 W → ∀ (k : Nat) x, E[k]? = some x → Calls Tryz.prog 29 #[.pointer (some ⟨tb, 0, none⟩), .int .i64 (k : Nat)] W fun e w' => ∃ u, e = .returned u ∧ w'.ownsRow W.heap.size 3 1 u (goesL F 2 x.flags).length (nV (goesL F 2 x.flags)) ∧ Below W.heap.size W w'
 pre : ∀ W, Below w2.heap.size w2 W → ∀ (k : Nat) x, E[k]? = some x → Calls Tryz.prog 30 #[.pointer (some ⟨tb, 0, none⟩), .int .i64 (k : Nat)] W fun e w' => ∃ u, e = .returned u ∧ w'.ownsRow W.heap.size 3 1 u (goesL F 1 x.flags).length (nV (goesL F 1 x.flags)) ∧ Below W.heap.size W w'
 sec : ∀ W, Below w2.heap.size w2 W → ∀ (k : Nat) x, F.rules[k]? = some x → Calls Tryz.prog 31 #[.pointer (some ⟨tb, 0, none⟩), .int .i64 (k : Nat)] W fun e w' => ∃ u, e = .returned u ∧ w'.ownsRow W.heap.size 3 1 u (goesL F 2 x.next).length (nV (goesL F 2 x.next)) ∧ Below W.heap.size W w'
 few : E.length ≤ 1000000 ∧ F.rules.length ≤ 1000000
theorem tnd_of {a s : Bs} {F : Fil} {E : List Ent} (hx : tabR a s = .ok (F, E)) {w : World} {tb B n wb : Nat} {P : Pts} {Q : WPts} {vu ve : Value} {nv fv : List Value} (h : TbAt w tb B F P n wb E Q vu ve nv fv) : TNd w tb P.fb wb F E := by
 have HF := tabR_flt a s
 rw [hx] at HF
 obtain ⟨h1, h2, h3, h4, h5, h6⟩ := HF
 have hcr : CR F := by
  unfold tabR at hx
  cases ha : affR a with
  | error e => rw [ha] at hx; cases hx
  | ok F2 =>
   rw [ha] at hx
   simp only at hx
   cases hd : dicR F2 s with
   | error e => rw [hd] at hx; cases hx
   | ok E2 =>
    rw [hd] at hx
    injection hx with hx
    injection hx with q1 q2
    subst q1
    exact affR_cr ha
 have hru : F.rules.length ≤ 1000000 := by have := h.file.ok.rul; omega
 have hE : E.length ≤ 1000000 := by omega
 refine ⟨h.cells.1, by simp [World.cell?, h.hd, tbC], lt_some h.hd, fun W b => ?_, fun W b => ?_, fun W b k x hk => ?_, fun W b k x hk => ?_, fun W b k x hk => ?_, fun W b k x hk => ?_, hE, hru⟩
 ·refine (Affixes_any (h.below b).file h2 (by omega)).mono ?_
  rintro e w' ⟨b2, v, rfl, vr, va, vc, vu2, av, nv2, rfl, -, -, -, h4⟩
  exact ⟨_, _, _, _, _, _, _, _, _, _, _, _, vu2, rfl, h4.rls, b2⟩
 ·exact len_any (h.below b).wa
 ·exact Entry_any (h.below b) hE hk (by have := (h4 x (List.mem_of_getElem? hk)).2; omega)
 ·exact suf_any (h.below b) hcr hru hE hk (sd_nodup (h4 x (List.mem_of_getElem? hk))) (h5 x (List.mem_of_getElem? hk))
 ·exact pre_any (h.below b) hcr hru hE hk (sd_nodup (h4 x (List.mem_of_getElem? hk))) (h5 x (List.mem_of_getElem? hk))
 ·exact sec_any (h.below b) hcr hru hk (sd_nodup (h2.nx x (List.mem_of_getElem? hk))) (h3.nx x (List.mem_of_getElem? hk))
theorem below_cell {w w' : World} {g k : Nat} {v : Value} (hg : g < w.heap.size) (b : Below w.heap.size w w') (h : w.cell? ⟨g, k, none⟩ = some v) : w'.cell? ⟨g, k, none⟩ = some v := (b.cell (p := ⟨g, k, none⟩) hg).trans h
theorem field8 (a b c s0 s1 s2 s3 s4 l vr va vc vu : Value) (W : World) : (Instr.field 43 (.agg #[a, b, c, s0, s1, s2, s3, s4, l, vr, va, vc, vu]) 8).run Tryz.prog W = .ok vu W := by kernel_rfl
theorem tnames_ok (a s : ByteArray) (w : World) (hM : Mx w.heap.size w) {F : Fil} {E : List Ent} (hx : tabR a.data.toList s.data.toList = .ok (F, E)) : TNm a s w := by
 have HW := hide (wakes13_any w hM)
 have HT : Hid (∀ W, Below w.heap.size w W → Calls Tryz.prog 26 #[.string a, .string s] W fun e w' => ∃ tb fb wb, e = .returned (.tuple #[.pointer (some ⟨tb, 0, none⟩), .agg #[.int .i64 0, .int .i64 0, .int .i64 0]]) ∧ TNd w' tb fb wb F E ∧ Below W.heap.size W w') := fun W b => by
  have := tread_any a s (hM.up b)
  rw [hx] at this
  refine this.mono ?_
  rintro e w' ⟨b2, tb, B, P, n, wb, Q, vu, ve, nv, fv, rfl, h⟩
  exact ⟨tb, P.fb, wb, rfl, tnd_of hx h, b2⟩
 clear hM hx
 go_enter Tryz.func7, Tryz.ntmps7
 go_wp2_with fail
 refine (unhide HW).mono ?_
 rintro e w1 ⟨rfl, b1⟩
 have B1 := hide b1
 clear b1
 go_wp2_with fail
 refine (unhide HT _ (unhide B1)).mono ?_
 rintro e w2 ⟨tb, fb, wb, rfl, hD, b2⟩
 have B2 := hide (btr (unhide B1) b2)
 have HD := hide hD
 obtain ⟨hE, hR⟩ := hD.few
 have d0 := hD.d0
 have hlt := hD.lt
 have b3 : Below w2.heap.size w2 (w2.alloc (.cells #[.int .i64 0, .int .i64 0, .int .i64 0] 31)) := (Below.refl _ _).alloc (Nat.le_refl _) _
 have B3 := hide b3
 clear hD b2 b3 HT HW
 go_wp2_with fail
 refine ((unhide HD).aff _ (unhide B3)).mono ?_
 rintro e w4 ⟨x0, x1, x2, x3, x4, x5, x6, x7, x8, x9, x10, x11, u, rfl, hr, b4⟩
 have B4 := hide (btr (unhide B3) b4)
 have HR := hide hr
 obtain ⟨ar, cr, rfl, -, -⟩ := id hr
 have d1 := below_cell (unhide HD).lt (unhide B4) (unhide HD).d1
 have hlt4 := Nat.lt_of_lt_of_le hlt (unhide B4).size
 have hfd := field8 x0 x1 x2 x3 x4 x5 x6 x7 x8 x9 x10 x11 (.slice ar F.rules.length cr) w4
 clear hr b4 d0
 go_wp2_with fail
 refine ((unhide HD).len _ (unhide B4)).mono ?_
 rintro e w5 ⟨rfl, hw5⟩
 obtain rfl := hw5.symm
 clear d1
 generalize hm : E.length = m at *
 have HM := hide hm
 generalize hn : F.rules.length = N at *
 have HN := hide hn
 clear hm hn
 go_wp2
 go_loopw [47] (fun s47 wr => ∃ k : Nat, k ≤ m ∧ s47 = .int .i64 k ∧ Hid (Below w4.heap.size w4 wr)) (fun s47 _ => m - (intOf s47).toNat)
 case atStart => exact ⟨0, Nat.zero_le _, rfl, Below.refl _ _⟩
 case round =>
  obtain ⟨k, hk, rfl, HB⟩ := hrel
  by_cases hltk : k < m
  ·have hltz : (k : Int) < (m : Int) := by omega
   obtain ⟨x, hx⟩ : ∃ x, E[k]? = some x := ⟨_, List.getElem?_eq_getElem (by rw [unhide HM]; exact hltk)⟩
   have HE := hide (fun W (b : Below w2.heap.size w2 W) => (unhide HD).ent W b k x hx)
   have HSU := hide (fun W (b : Below w2.heap.size w2 W) => (unhide HD).suf W b k x hx)
   have HPR := hide (fun W (b : Below w2.heap.size w2 W) => (unhide HD).pre W b k x hx)
   have HGO := hide (fun W vf vl kk n0 (b : Below w4.heap.size w4 W) (h1 : So.FArg W vf x.flags) (h2 : W.ownsRow n0 3 1 vl (goesL F kk x.flags).length (nV (goesL F kk x.flags))) => goes_any (k := kk) (B := n0) ((unhide HR).below b) (by rw [unhide HN]; exact hR) h1 h2)
   have HB2 := hide (btr (unhide B4) (unhide HB))
   clear hx
   generalize x.flags.length = nf at *
   generalize Wd.str x.word = sw at *
   go_wp2_with fail
   refine (unhide HE _ (unhide HB2)).mono ?_
   rintro e w6 ⟨a6, c6, rfl, hf6, b6⟩
   have B6 := hide b6
   have HF6 := hide hf6
   clear hf6 b6
   go_wp2
   obtain ⟨V, hV⟩ : ∃ V, V = w6.alloc (.cells #[.string sw, .slice a6 nf c6] 56) := ⟨_, rfl⟩
   have hb : V.heap[w6.heap.size]? = some (.cells #[.string sw, .slice a6 nf c6] 56 (0, 0)) := by rw [hV]; exact alloc_new _ _
   have bV : Below w6.heap.size w6 V := by rw [hV]; exact (Below.refl _ _).alloc (Nat.le_refl _) _
   have e1 : V.cell? ⟨w6.heap.size, 1, none⟩ = some (.slice a6 nf c6) := by simp [World.cell?, hb]
   have hlV := lt_some hb
   have BV := hide (btr (unhide HB) (btr (unhide B6) bV))
   have HFV := hide ((unhide HF6).below bV)
   refine gen_world ?_
   intro V' hV'
   obtain rfl : V' = V := hV'.trans hV.symm
   clear hV hV' hb bV HE HF6 B6
   generalize w6.heap.size = bx at *
   have tok1 : True := trivial
   have h4 : V'.drew.cell? ⟨bx, 1, none⟩ = some (.slice a6 nf c6) := e1
   go_region_held2 (fun w' => w'.cell? ⟨bx, 1, none⟩ = some (.slice a6 nf c6)) (first | (with_reducible exact h8) | (with_reducible exact h7) | (with_reducible exact h6) | (with_reducible exact h5) | (with_reducible exact h4)) (first
    | (go_at_call 29; refine (unhide HSU _ (btr (unhide B4) (btr (unhide BV) (Below.refl V'.heap.size V').drew))).mono ?_; rintro e w8 ⟨u8, rfl, hr8, b8⟩; have B8 := hide ((Below.refl V'.heap.size V').drew.trans b8); have HR8 := hide hr8; have h5 : w8.cell? ⟨bx, 1, none⟩ = some (.slice a6 nf c6) := below_cell hlV (unhide B8) e1; clear hr8 b8)
    | (go_at_call 28; have _t := tok1; refine (unhide HGO _ _ _ 2 _ (btr (unhide BV) (unhide B8)) ((unhide HFV).below (unhide B8)) (unhide HR8)).mono ?_; rintro e w9 ⟨rfl, b9⟩; clear tok1 _t; have B9 := hide (btr (unhide B8) b9); have h6 : w9.cell? ⟨bx, 1, none⟩ = some (.slice a6 nf c6) := below_cell hlV (unhide B9) e1; clear b9)
    | (go_at_call 30; refine (unhide HPR _ (btr (unhide B4) (btr (unhide BV) (unhide B9)))).mono ?_; rintro e w10 ⟨u10, rfl, hr10, b10⟩; have B10 := hide (btr (unhide B9) b10); have HR10 := hide hr10; have h7 : w10.cell? ⟨bx, 1, none⟩ = some (.slice a6 nf c6) := below_cell hlV (unhide B10) e1; clear hr10 b10)
    | (go_at_call 28; refine (unhide HGO _ _ _ 1 _ (btr (unhide BV) (unhide B10)) ((unhide HFV).below (unhide B10)) (unhide HR10)).mono ?_; rintro e w11 ⟨rfl, b11⟩; have B11 := hide (btr (unhide B10) b11); have h8 : w11.cell? ⟨bx, 1, none⟩ = some (.slice a6 nf c6) := below_cell hlV (unhide B11) e1; clear b11))
   go_wp2
   go_roundw
   case rel => exact ⟨k + 1, by omega, by go_num, btr (unhide BV) (unhide B11)⟩
   case measure => simp [intOf]; omega
  ·obtain rfl : k = m := by omega
   have hltz : ¬ (k : Int) < (k : Int) := by omega
   go_wp2
   go_loopw [81] (fun s81 wr2 => ∃ j : Nat, j ≤ N ∧ s81 = .int .i64 j ∧ Hid (Below w4.heap.size w4 wr2)) (fun s81 _ => N - (intOf s81).toNat)
   case atStart => exact ⟨0, Nat.zero_le _, rfl, HB⟩
   case round =>
    obtain ⟨j, hj, rfl, HC⟩ := hrel
    by_cases hltj : j < N
    ·have hltz2 : (j : Int) < (N : Int) := by omega
     obtain ⟨r, hr⟩ : ∃ r, F.rules[j]? = some r := ⟨_, List.getElem?_eq_getElem (by rw [unhide HN]; exact hltj)⟩
     obtain ⟨g, an, cn, rfl, hg, q0, q1, q2, q3, q4, q5, q6, hfn⟩ : ∃ g a c, ar = some ⟨g, 0, none⟩ ∧ g < wr.heap.size ∧ wr.cell? ⟨g, j * 7, none⟩ = some (.int .i64 r.kind) ∧ wr.cell? ⟨g, j * 7 + 1, none⟩ = some (.int .u16 r.flag) ∧ wr.cell? ⟨g, j * 7 + 2, none⟩ = some (.bool r.cross) ∧ wr.cell? ⟨g, j * 7 + 3, none⟩ = some (.string (Wd.str r.strip)) ∧ wr.cell? ⟨g, j * 7 + 4, none⟩ = some (.string (Wd.str r.add)) ∧ wr.cell? ⟨g, j * 7 + 5, none⟩ = some (.string (Wd.str r.cond)) ∧ wr.cell? ⟨g, j * 7 + 6, none⟩ = some (.slice a r.next.length c) ∧ So.FArg wr (.slice a r.next.length c) r.next := by
      obtain ⟨ao', cap', e, -, h3⟩ := (unhide HR).below (unhide HC)
      injection e with e
      subst e
      exact h3 j r hr
     have HSE := hide (fun W (b : Below w2.heap.size w2 W) => (unhide HD).sec W b j r hr)
     have HGO := hide (fun W vf vl kk n0 (b : Below w4.heap.size w4 W) (h1 : So.FArg W vf r.next) (h2 : W.ownsRow n0 3 1 vl (goesL F kk r.next).length (nV (goesL F kk r.next))) => goes_any (k := kk) (B := n0) ((unhide HR).below b) (by rw [unhide HN]; exact hR) h1 h2)
     have HFN := hide hfn
     clear hr hfn
     generalize r.kind = rk at *
     generalize r.flag = rf at *
     generalize r.cross = rx at *
     generalize Wd.str r.strip = rs at *
     generalize Wd.str r.add = ra at *
     generalize Wd.str r.cond = rc at *
     generalize r.next.length = rn at *
     go_wp2
     obtain ⟨V, hV⟩ : ∃ V, V = wr.alloc (.cells #[.int .i64 rk, .int .u16 rf, .bool rx, .string rs, .string ra, .string rc, .slice an rn cn] 79) := ⟨_, rfl⟩
     have hb : V.heap[wr.heap.size]? = some (.cells #[.int .i64 rk, .int .u16 rf, .bool rx, .string rs, .string ra, .string rc, .slice an rn cn] 79 (0, 0)) := by rw [hV]; exact alloc_new _ _
     have bV : Below wr.heap.size wr V := by rw [hV]; exact (Below.refl _ _).alloc (Nat.le_refl _) _
     have e1 : V.cell? ⟨wr.heap.size, 6, none⟩ = some (.slice an rn cn) := by simp [World.cell?, hb]
     have hlV := lt_some hb
     have BV := hide (btr (unhide HC) bV)
     have HFV := hide ((unhide HFN).below bV)
     refine gen_world ?_
     intro V' hV'
     obtain rfl : V' = V := hV'.trans hV.symm
     clear hV hV' hb bV HFN q0 q1 q2 q3 q4 q5 q6
     generalize wr.heap.size = bx at *
     have h4 : V'.drew.cell? ⟨bx, 6, none⟩ = some (.slice an rn cn) := e1
     go_region_held2 (fun w' => w'.cell? ⟨bx, 6, none⟩ = some (.slice an rn cn)) (first | (with_reducible exact h6) | (with_reducible exact h5) | (with_reducible exact h4)) (first
      | (go_at_call 31; refine (unhide HSE _ (btr (unhide B4) (btr (unhide BV) (Below.refl V'.heap.size V').drew))).mono ?_; rintro e w8 ⟨u8, rfl, hr8, b8⟩; have B8 := hide ((Below.refl V'.heap.size V').drew.trans b8); have HR8 := hide hr8; have h5 : w8.cell? ⟨bx, 6, none⟩ = some (.slice an rn cn) := below_cell hlV (unhide B8) e1; clear hr8 b8)
      | (go_at_call 28; refine (unhide HGO _ _ _ 2 _ (btr (unhide BV) (unhide B8)) ((unhide HFV).below (unhide B8)) (unhide HR8)).mono ?_; rintro e w9 ⟨rfl, b9⟩; have B9 := hide (btr (unhide B8) b9); have h6 : w9.cell? ⟨bx, 6, none⟩ = some (.slice an rn cn) := below_cell hlV (unhide B9) e1; clear b9))
     go_wp2
     go_roundw
     case rel => exact ⟨j + 1, by omega, by go_num, btr (unhide BV) (unhide B9)⟩
     case measure => simp [intOf]; omega
    ·obtain rfl : j = N := by omega
     have hltz2 : ¬ (j : Int) < (j : Int) := by omega
     go_wp2
     go_ret
     exact ⟨rfl, btr (unhide B2) (btr (unhide B4) (unhide HC))⟩
theorem tnames_walk (a s : ByteArray) (w : World) (hM : Mx w.heap.size w) : TNm a s w := by
 cases hx : tabR a.data.toList s.data.toList with
 | error e => exact tnames_err a s w hM (f := e.1) (er := e.2) hx
 | ok p => exact tnames_ok a s w hM (F := p.1) (E := p.2) hx
end Af
end Go.Proofs.YtidhbhdcoanfcaaGreatDoor
