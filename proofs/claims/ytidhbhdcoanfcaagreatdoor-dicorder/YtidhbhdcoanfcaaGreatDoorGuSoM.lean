import Derived.Test.YtidhbhdcoanfcaaGreatDoorGq03
import Derived.Sort.Walk7
set_option maxHeartbeats 8000000
set_option maxRecDepth 100000
namespace Go.Proofs.YtidhbhdcoanfcaaGreatDoor
open Go.Sort Go.RowKit
namespace So

def Cnt (w : World) (s : Nat) (W : World) : Prop := ∃ n, W = grow (Sort.ahead w n) #[Obj.cells #[.int .i64 (s : Int)] 3]
section
variable {w W : World} {s : Nat}
theorem Cnt.cell (h : Cnt w s W) : W.cell? ⟨w.heap.size, 0, none⟩ = some (.int .i64 (s : Int)) ∧ W.frozen? ⟨w.heap.size, 0, none⟩ = false := by
 obtain ⟨n, rfl⟩ := h
 exact ⟨grow_one_cell (Sort.ahead w n) _ 3, grow_one_frozen (Sort.ahead w n) _ 3⟩
theorem Cnt.drewN (h : Cnt w s W) (q : Nat) : Cnt w s (W.drewN q) := by
 obtain ⟨n, rfl⟩ := h
 exact ⟨n + q, by rw [← ahead_ahead]; rfl⟩
theorem Cnt.set (h : Cnt w s W) (t : Nat) : Cnt w t (W.setCell ⟨w.heap.size, 0, none⟩ (.int .i64 (t : Int))) := by
 obtain ⟨n, rfl⟩ := h
 exact ⟨n, setCell_grow_one (Sort.ahead w n) _ _ 3⟩
theorem Cnt.holds (h : Cnt w s W) {blk off : Nat} {d : Array Int} (hH : Holds encF w blk off d) (hb : blk < w.heap.size) : Holds encF W blk off d := by
 obtain ⟨n, rfl⟩ := h
 exact holds_grow encF _ _ blk off d (by simpa using hb) (holds_ahead encF w n blk off d hH)
theorem Cnt.grown (h : Cnt w s W) : ∃ n os, W = grow (Sort.ahead w n) os := by
 obtain ⟨n, rfl⟩ := h
 exact ⟨n, _, rfl⟩
theorem Cnt.new (w : World) : Cnt w 0 (w.alloc (.cells #[.int .i64 0] 3)) := ⟨0, by rw [alloc_eq_grow, ahead_zero]; rfl⟩
end

set_option maxRecDepth 1000000 in
theorem order2_any (blk off cap len x y s lo hi : Nat) (d : Array Int) (w W : World) (hlen : d.size = len) (hH : Holds encF w blk off d) (hblk : blk < w.heap.size) (hC : Cnt w s W) (hs : s ≤ 1000) (hx : lo ≤ x ∧ x < hi) (hy : lo ≤ y ∧ y < hi) (hhi : hi ≤ len) (_hsz : len < 4611686018427387904) :
  Calls Tryz.prog 203 #[.slice (some ⟨blk, off, none⟩) len cap, .int .i64 x, .int .i64 y, .pointer (some ⟨w.heap.size, 0, none⟩)] W fun e w' =>
   ∃ x' y' s' : Nat, e = .returned (.tuple #[.int .i64 x', .int .i64 y']) ∧ (lo ≤ x' ∧ x' < hi) ∧ (lo ≤ y' ∧ y' < hi) ∧ s' ≤ s + 1 ∧ Cnt w s' w' := by
 have hh := hC.holds hH hblk
 obtain ⟨G, hG⟩ : ∃ G : Nat → Int, ∀ t, G t = d[t]! := ⟨fun t => d[t]!, fun _ => rfl⟩
 have hc : ∀ t, t < len → W.cell? ⟨blk, off + t, none⟩ = some (.int .u16 (G t)) := fun t ht => by rw [hG]; exact (hh t (by omega)).1
 obtain ⟨hn1, hn2⟩ := hC.cell
 have HC := hide hC
 clear hG hh hH hC
 have hxl : x < len := by omega
 have hyl : y < len := by omega
 obtain ⟨B, hB⟩ : ∃ B, B = w.heap.size := ⟨_, rfl⟩
 have HSET : Hid (∀ q, Cnt w (s + 1) ((W.drewN q).setCell ⟨B, 0, none⟩ (.int .i64 ((s : Int) + 1)))) := fun q => by
  have := ((unhide HC).drewN q).set (s + 1)
  rw [hB]
  exact this
 rw [← hB] at hn1 hn2 ⊢
 clear hB hblk
 go_enter Tryz.func203, Tryz.ntmps203
 go_wp2_with fail
 go_quiet (first | (go_at_call 184; refine Calls.quiet_of_same (less_any _ _ _)))
 go_wp2
 ·go_ret2
  exact ⟨y, x, s + 1, rfl, hy, hx, Nat.le_refl _, unhide HSET _⟩
 ·go_ret2
  exact ⟨x, y, s, rfl, hx, hy, by omega, (unhide HC).drewN _⟩

set_option maxRecDepth 1000000 in
theorem median_any (blk off cap len x y z s lo hi : Nat) (d : Array Int) (w W : World) (hlen : d.size = len) (hH : Holds encF w blk off d) (hblk : blk < w.heap.size) (hC : Cnt w s W) (hs : s ≤ 900) (hx : lo ≤ x ∧ x < hi) (hy : lo ≤ y ∧ y < hi) (hz : lo ≤ z ∧ z < hi) (hhi : hi ≤ len) (hsz : len < 4611686018427387904) :
  Calls Tryz.prog 199 #[.slice (some ⟨blk, off, none⟩) len cap, .int .i64 x, .int .i64 y, .int .i64 z, .pointer (some ⟨w.heap.size, 0, none⟩)] W fun e w' =>
   ∃ m s' : Nat, e = .returned (.int .i64 m) ∧ (lo ≤ m ∧ m < hi) ∧ s' ≤ s + 3 ∧ Cnt w s' w' := by
 have HO := hide (fun (x y s : Nat) W h1 h2 h3 h4 => order2_any blk off cap len x y s lo hi d w W hlen hH hblk h1 h2 h3 h4 hhi hsz)
 have HC := hide hC
 obtain ⟨B, hB⟩ : ∃ B, B = w.heap.size := ⟨_, rfl⟩
 rw [← hB] at HO ⊢
 clear hH hC hB hblk
 go_enter Tryz.func199, Tryz.ntmps199
 go_wp2_with (go_at_call 203; first
  | (refine (unhide HO x y s _ (unhide HC) (by omega) hx hy).mono ?_; rintro e w1 ⟨x1, y1, s1, rfl, hx1, hy1, hs1, hC1⟩; have HC1 := hide hC1; clear hC1 HC)
  | (refine (unhide HO y1 z s1 _ (unhide HC1) (by omega) hy1 hz).mono ?_; rintro e w2 ⟨x2, y2, s2, rfl, hx2, hy2, hs2, hC2⟩; have HC2 := hide hC2; clear hC2 HC1)
  | (refine (unhide HO x1 x2 s2 _ (unhide HC2) (by omega) hx1 hx2).mono ?_; rintro e w3 ⟨x3, y3, s3, rfl, hx3, hy3, hs3, hC3⟩; have HC3 := hide hC3; clear hC3 HC2))
 go_ret
 exact ⟨y3, s3, rfl, hy3, by omega, unhide HC3⟩

set_option maxRecDepth 1000000 in
theorem medianAdj_any (blk off cap len x s lo hi : Nat) (d : Array Int) (w W : World) (hlen : d.size = len) (hH : Holds encF w blk off d) (hblk : blk < w.heap.size) (hC : Cnt w s W) (hs : s ≤ 900) (hx : lo + 1 ≤ x ∧ x + 1 < hi) (hhi : hi ≤ len) (hsz : len < 4611686018427387904) :
  Calls Tryz.prog 198 #[.slice (some ⟨blk, off, none⟩) len cap, .int .i64 x, .pointer (some ⟨w.heap.size, 0, none⟩)] W fun e w' =>
   ∃ m s' : Nat, e = .returned (.int .i64 m) ∧ (lo ≤ m ∧ m < hi) ∧ s' ≤ s + 3 ∧ Cnt w s' w' := by
 obtain ⟨p, hp⟩ : ∃ p : Nat, p = x - 1 := ⟨_, rfl⟩
 obtain ⟨n, hn⟩ : ∃ n : Nat, n = x + 1 := ⟨_, rfl⟩
 have hpz : (x : Int) - 1 = (p : Int) := by omega
 have hnz : (x : Int) + 1 = (n : Int) := by omega
 have HM := hide (median_any blk off cap len p x n s lo hi d w W hlen hH hblk hC hs (by omega) (by omega) (by omega) hhi hsz)
 obtain ⟨B, hB⟩ : ∃ B, B = w.heap.size := ⟨_, rfl⟩
 rw [← hB] at HM ⊢
 clear hH hC hB hblk hp hn
 go_enter Tryz.func198, Tryz.ntmps198
 go_wp2_with (go_at_call 199; refine (unhide HM).mono ?_; rintro e w1 ⟨m, s', rfl, hm, hs', hC'⟩)
 go_ret
 exact ⟨m, s', rfl, hm, hs', hC'⟩

set_option maxRecDepth 1000000 in
theorem pivot_any (blk off cap len a b : Nat) (d : Array Int) (w : World) (hlen : d.size = len) (hH : Holds encF w blk off d) (hblk : blk < w.heap.size) (hab : a < b) (hb : b ≤ len) (hsz : len < 4611686018427387904) :
  Calls Tryz.prog 181 #[.slice (some ⟨blk, off, none⟩) len cap, .int .i64 a, .int .i64 b] w fun e w' =>
   ∃ (m : Nat) (h : Int), e = .returned (.tuple #[.int .i64 m, .int .i64 h]) ∧ (a ≤ m ∧ m < b) ∧ ∃ n os, w' = grow (Sort.ahead w n) os := by
 obtain ⟨l, hl⟩ : ∃ l, l = b - a := ⟨_, rfl⟩
 obtain ⟨q, hq⟩ : ∃ q, q = l / 4 := ⟨_, rfl⟩
 obtain ⟨i, hi⟩ : ∃ i, i = a + q := ⟨_, rfl⟩
 obtain ⟨j, hj⟩ : ∃ j, j = a + q * 2 := ⟨_, rfl⟩
 obtain ⟨k, hk⟩ : ∃ k, k = a + q * 3 := ⟨_, rfl⟩
 have hlz : (b : Int) - (a : Int) = (l : Int) := by omega
 have hqz : (l : Int).tdiv 4 = (q : Int) := by rw [Int.tdiv_eq_ediv_of_nonneg (by omega)]; omega
 have hqz2 : (l : Int) / 4 = (q : Int) := by omega
 have hiz : (a : Int) + (q : Int) = (i : Int) := by omega
 have hjz : (a : Int) + (q : Int) * 2 = (j : Int) := by omega
 have hkz : (a : Int) + (q : Int) * 3 = (k : Int) := by omega
 have hjr : a ≤ j ∧ j < b := by omega
 have h8 : 8 ≤ l → (a ≤ i ∧ i < b) ∧ (a ≤ k ∧ k < b) := by omega
 have h50 : 50 ≤ l → (a + 1 ≤ i ∧ i + 1 < b) ∧ (a + 1 ≤ j ∧ j + 1 < b) ∧ (a + 1 ≤ k ∧ k + 1 < b) := by omega
 have hql : q ≤ l := by omega
 have hll : l ≤ len := by omega
 have HA := hide (fun (x s : Nat) W h1 h2 h3 => medianAdj_any blk off cap len x s a b d w W hlen hH hblk h1 h2 h3 hb hsz)
 have HM := hide (fun (x y z s : Nat) W h1 h2 h3 h4 h5 => median_any blk off cap len x y z s a b d w W hlen hH hblk h1 h2 h3 h4 h5 hb hsz)
 have HN := hide (Cnt.new w)
 clear hl hq hi hj hk hH
 go_enter Tryz.func181, Tryz.ntmps181
 by_cases c8 : 8 ≤ l
 ·have c8z : (8 : Int) ≤ (l : Int) := by omega
  by_cases c50 : 50 ≤ l
  ·have c50z : (50 : Int) ≤ (l : Int) := by omega
   obtain ⟨r1, r2, r3⟩ := h50 c50
   go_wp2_with (first
    | (go_at_call 198; first
     | (refine (unhide HA i 0 _ (unhide HN) (by omega) r1).mono ?_; rintro e w1 ⟨m1, s1, rfl, hm1, hs1, hC1⟩; have HC1 := hide hC1; clear hC1 HN)
     | (refine (unhide HA j s1 _ (unhide HC1) (by omega) r2).mono ?_; rintro e w2 ⟨m2, s2, rfl, hm2, hs2, hC2⟩; have HC2 := hide hC2; clear hC2 HC1)
     | (refine (unhide HA k s2 _ (unhide HC2) (by omega) r3).mono ?_; rintro e w3 ⟨m3, s3, rfl, hm3, hs3, hC3⟩; have HC3 := hide hC3; clear hC3 HC2))
    | (go_at_call 199; refine (unhide HM m1 m2 m3 s3 _ (unhide HC3) (by omega) hm1 hm2 hm3).mono ?_; rintro e w4 ⟨m4, s4, rfl, hm4, hs4, hC4⟩; have HC4 := hide hC4; obtain ⟨cc, _⟩ := hC4.cell; clear hC4 HC3))
   all_goals go_ret2
   all_goals exact ⟨m4, _, rfl, hm4, (unhide HC4).grown⟩
  ·have c50z : ¬ (50 : Int) ≤ (l : Int) := by omega
   obtain ⟨r1, r3⟩ := h8 c8
   go_wp2_with (go_at_call 199; refine (unhide HM i j k 0 _ (unhide HN) (by omega) r1 hjr r3).mono ?_; rintro e w4 ⟨m4, s4, rfl, hm4, hs4, hC4⟩; have HC4 := hide hC4; obtain ⟨cc, _⟩ := hC4.cell; clear hC4 HN)
   all_goals go_ret2
   all_goals exact ⟨m4, _, rfl, hm4, (unhide HC4).grown⟩
 ·have c8z : ¬ (8 : Int) ≤ (l : Int) := by omega
  go_wp2
  go_ret2
  exact ⟨j, ⟨_, rfl⟩, hjr, (unhide HN).grown⟩
end So
end Go.Proofs.YtidhbhdcoanfcaaGreatDoor
