import Derived.Shelf.SlicesE.Compact
import Derived.Test.YtidhbhdcoanfcaaGreatDoorGuSoD
import Derived.Test.YtidhbhdcoanfcaaGreatDoorGq14
set_option maxHeartbeats 8000000
set_option maxRecDepth 100000
namespace Go.Proofs
open Go.Shelf
def Tryz.laysCo_ren : Go.Shelf.Ren := ⟨fun | 43 => 156 | n => n, fun | 0 => 0 | 3 => 3 | 4 => 4 | 22 => 179 | 23 => 36 | n => n, fun | n => n⟩
theorem Tryz.laysCo : Go.Proofs.SlLaysE.n43 Tryz.prog Tryz.laysCo_ren := {
 mixed := by kernel_rfl
 f43 := ⟨"slices.Compact[hornbook/flags.Set,hornbook/api.Flag]", by decide, Tryz.func156.trans (congrArg some (by kernel_rfl))⟩
 t0 := Tryz.underlying0
 a0 := Tryz.isAgg0
 z0 := Tryz.sizeOf0
 v0 := Tryz.zeroValue0
 t3 := Tryz.underlying3
 a3 := Tryz.isAgg3
 z3 := Tryz.sizeOf3
 v3 := Tryz.zeroValue3
 t4 := Tryz.underlying4
 a4 := Tryz.isAgg4
 z4 := Tryz.sizeOf4
 v4 := Tryz.zeroValue4
 t22 := Tryz.underlying179
 a22 := Tryz.isAgg179
 z22 := Tryz.sizeOf179
 v22 := Tryz.zeroValue179
 a23 := Tryz.isAgg36
 z23 := Tryz.sizeOf36 }
open Go.RowKit Go.Lib Go.Sort in
theorem Tryz.flag_Compact (blk off cap : Nat) (d : Array Int) (w : World) (hH : Holds (Value.int .u16) w blk off d) (hsz : d.size ≤ 9223372036854775807) (hcap : d.size ≤ cap) :
  Calls Tryz.prog 156 #[.slice (some ⟨blk, off, none⟩) d.size cap] w fun e w' => e = .returned (.slice (some ⟨blk, off, none⟩) (compactUpTo d d.size).length cap) ∧ ∃ q, w' = putRow (Value.int .u16) (Sort.ahead w q) blk off (compactUpTo d d.size ++ List.replicate (d.size - (compactUpTo d d.size).length) 0).toArray :=
 AnyE.slices_Compact Tryz.laysCo (Value.int .u16) (fun _ => rfl) (EqlAt.intD _ _ .u16) (NeqAt.intD _ _ .u16) 0 Tryz.zeroValue36 blk off cap d w hH hsz hcap
end Go.Proofs
namespace Go.Proofs.YtidhbhdcoanfcaaGreatDoor
open Go.Sort Go.RowKit
namespace So

set_option maxRecDepth 1000000 in
theorem sort_at (blk off cap len : Nat) (d : Array Int) (w : World) (hlen : d.size = len) (hH : Holds encF w blk off d) (hblk : blk < w.heap.size) (hsz : len < 4611686018427387904) :
  Calls Tryz.prog 155 #[.slice (some ⟨blk, off, none⟩) len cap] w fun e w' =>
   e = .returned (.tuple #[]) ∧ ∃ d', At encF w blk off d' w' ∧ PermIn 0 len d d' ∧ SortedIn ltInt 0 len d' := by
 have hL : ∀ w, Calls Tryz.prog 96 #[.int .u64 (len : Int)] w fun e w' => e = .returned (.int .i64 (bitsLen len : Nat)) ∧ w' = w := fun w => by
  have h := Tryz.bits_Len (len : Int) w (by omega) (by omega)
  rwa [Int.toNat_natCast, bitLen_eq _ (by omega)] at h
 have hk : bitsLen len ≤ 62 := (bitsLen_le_iff len 62).2 (by omega)
 have hw : IntKind.u64.wrap (len : Int) = len := by simp [IntKind.wrap, IntKind.bits, IntKind.signed]; omega
 have HP := hide (pdq_any (len + 1) blk off cap len 0 len (bitsLen len) d w (by omega) hlen hH hblk (Nat.zero_le _) (Nat.le_refl _) hsz (by omega) (.inl rfl))
 have HL := hide hL
 clear hL hH
 generalize bitsLen len = k at *
 go_enter Tryz.func155, Tryz.ntmps155
 go_wp2_with (first
  | (go_at_call 96; refine (unhide HL _).mono ?_; rintro e w1 ⟨rfl, hw1⟩; obtain rfl := hw1.symm)
  | (go_at_call 166; refine (unhide HP).mono ?_; rintro e w2 ⟨rfl, h2⟩))
 go_end0
 exact ⟨rfl, h2⟩

theorem infoF : (Tryz.prog.info? 36).map (fun i => (i.zero, i.size, i.bytes)) = some (some (.int .u16 0), 1, 2) := by kernel_rfl
theorem info_parts {P : Program} {e : TypeId} {z : Value} {s b : Nat} (h : (P.info? e).map (fun i => (i.zero, i.size, i.bytes)) = some (some z, s, b)) : ∃ i, P.info? e = some i ∧ i.zero = some z ∧ i.size = s ∧ i.bytes = b := by
 cases hi : P.info? e with
 | none => rw [hi] at h; cases h
 | some i => rw [hi] at h; simp at h; exact ⟨i, rfl, h.1, h.2.1, h.2.2⟩
theorem copy_run (dT sT : TypeId) (hu : Tryz.prog.underlying dT = some (.slice 36)) (W : World) (g n cap : Nat) (ao : Option Addr) (cur : Array Value) (cs : List Value) (hh : W.heap[g]? = some (.cells cur 36 (0, 0))) (hcl : cs.length = n)
  (hsrc : 0 < n → ∃ ad, ao = some ad ∧ ∀ j v, cs[j]? = some v → W.cell? (ad.add j) = some v) (hfit : n ≤ cur.size) (hone : ∀ v ∈ cs, v.oneCell' = true) :
  ∃ W2, (Builtin.copy_ #[dT, sT] 3 #[.slice (some ⟨g, 0, none⟩) n n, .slice ao n cap]).run Tryz.prog W = .ok (goInt n) W2 ∧ W2.heap[g]? = some (.cells (cs ++ cur.toList.drop n).toArray 36 (0, 0)) ∧ Go.RowKit.Below g W W2 := by
 have hgs : g < W.heap.size := (Array.getElem?_eq_some_iff.1 hh).1
 by_cases h0 : n = 0
 ·subst h0
  refine ⟨W, ?_, ?_, Go.RowKit.Below.refl _ _⟩
  ·exact run_copy_none W dT sT 3 36 _ _ 0 0 0 cap hu (by kernel_rfl) (by simp)
  ·have : cs = [] := List.eq_nil_of_length_eq_zero hcl
   rw [this, hh]
   simp
 ·obtain ⟨ad, rfl, hs⟩ := hsrc (by omega)
  have hr := run_copy_row (P := Tryz.prog) W dT sT 3 36 g 0 n n ad n cap cur 36 cs hu (by kernel_rfl) hh (by rw [hcl]; simp) hs (by omega) hone
  rw [hcl] at hr
  refine ⟨_, hr, ?_, ?_⟩
  ·rw [setRow_heap W g cur _ _ _ hh]
   simp
  ·exact ⟨rfl, rfl, rfl, by simp [World.setRow], fun k hk => setRow_other W g k _ (by omega)⟩

set_option maxRecDepth 1000000 in
theorem own_any (v : Value) (L : List Int) (w : World) (hA : FArg w v L) (hn : L.length ≤ 1099511627776) :
  Calls Tryz.prog 154 #[v] w fun e w' => ∃ u, e = .returned u ∧ FRow w.heap.size w' u L ∧ Go.RowKit.Below w.heap.size w w' := by
 obtain ⟨i0, hi, hz0, hz1, hz2⟩ := info_parts infoF
 obtain ⟨ao, cap, rfl, hc, hm, _, hcell⟩ := hA
 obtain ⟨w1, hrun, hown, hgrow⟩ := run_make_full (P := Tryz.prog) w w.heap.size 179 36 i0 (.int .u16 0) 1 Tryz.underlying179 hi hz0 hz1 .i64 .i64 L.length (by rw [hz2]; omega) (by unfold maxLen; omega) (Nat.le_refl _)
 have hB1 : Go.RowKit.Below w.heap.size w w1 := (Go.RowKit.Below.refl _ w).grown hgrow (Nat.le_refl _) (fun k e => by cases e)
 obtain ⟨_, ⟨e0, _⟩ | ⟨g, cap1, cur, e1, hg, hh, hc1, hm1, hs1, _⟩⟩ := hown
 ·cases e0
 ·injection e1 with e1 _ e3
  injection e1 with e1
  injection e1 with e1 _ _
  subst e3
  rw [← e1] at hh
  obtain ⟨w2, hcopy, hw2, hB2⟩ := copy_run 179 54 Tryz.underlying179 w1 w.heap.size L.length cap ao cur (L.map encF) hh (by simp) (fun h0 => by
   obtain ⟨g, off, e, hg, hx⟩ := hcell h0
   refine ⟨_, e, fun j v hv => ?_⟩
   simp only [List.getElem?_map, Option.map_eq_some_iff] at hv
   obtain ⟨x, hx2, rfl⟩ := hv
   rw [Go.WideShapes.add_plain]
   exact (hB1.cell (p := ⟨g, off + j, none⟩) hg).trans (hx j x hx2)) (by omega) (fun v hv => by
   obtain ⟨x, _, rfl⟩ := List.mem_map.1 hv
   rfl)
  have HFIN : Hid (FRow w.heap.size w2 (.slice (some ⟨w.heap.size, 0, none⟩) L.length L.length) L) := by
   refine ⟨w.heap.size, L.length, _, rfl, Nat.le_refl _, hw2, Nat.le_refl _, by unfold maxLen; omega, ?_, ?_⟩
   ·simp; omega
   ·simp
  have HB2 : Hid (Go.RowKit.Below w.heap.size w w2) := hB1.trans hB2
  have hlen : (L.length : Int) ≤ 1099511627776 := by omega
  clear hcell hgrow hi hz0 hz1 hz2 e1 hg hs1 hc1 hm1 hc hm hh hw2 hB1 hB2
  generalize L.length = n at *
  go_enter Tryz.func154, Tryz.ntmps154
  go_wp2
  go_ret
  exact ⟨_, rfl, unhide HFIN, unhide HB2⟩

set_option maxRecDepth 1000000 in
theorem of_any (v : Value) (L : List Int) (w : World) (hA : FArg w v L) (hn : L.length ≤ 1099511627776) :
  Calls Tryz.prog 135 #[v] w fun e w' => ∃ u l, e = .returned u ∧ IsSet l L ∧ FRow w.heap.size w' u l ∧ Go.RowKit.Below w.heap.size w w' := by
 have HO := hide (own_any v L w hA hn)
 have HS : Hid (∀ W u, FRow w.heap.size W u L → Go.RowKit.Below w.heap.size w W → Calls Tryz.prog 155 #[u] W fun e w' => e = .returned (.tuple #[]) ∧ ∃ d' : Array Int, d'.size = L.length ∧ d'.toList.Perm L ∧ SortedIn ltInt 0 L.length d' ∧ FRow w.heap.size w' u d'.toList ∧ Go.RowKit.Below w.heap.size w w') := fun W u hF hB => by
  obtain ⟨g, cap, rfl, hg, hgs, h1, h2, hH⟩ := hF.cells
  refine (sort_at g 0 cap L.length L.toArray W (by simp) hH hgs (by omega)).mono ?_
  rintro e w' ⟨rfl, d', hat, hp, hs⟩
  have hsz : d'.size = L.length := by rw [hp.1]; simp
  refine ⟨rfl, d', hsz, ?_, hs, hF.at hat hsz, hB.trans (at_below hat hg hB.size)⟩
  have := hp.2.2
  rw [Array.extract_eq_self_of_le (by omega), Array.extract_eq_self_of_le (by simp)] at this
  simpa using this
 have HC : Hid (∀ W u (d : Array Int), d.size = L.length → d.toList.Perm L → SortedIn ltInt 0 L.length d → FRow w.heap.size W u d.toList → Go.RowKit.Below w.heap.size w W → Calls Tryz.prog 156 #[u] W fun e w' => ∃ u l, e = .returned u ∧ IsSet l L ∧ FRow w.heap.size w' u l ∧ Go.RowKit.Below w.heap.size w w') := fun W u d hd hp hs hF hB => by
  obtain ⟨g, cap, rfl, hg, hgs, h1, h2, hH⟩ := hF.cells
  simp only [Array.toArray_toList, Array.length_toList] at hH h1 ⊢
  have hset : IsSet (Lib.compactUpTo d d.size) d.toList := compact_set fun i j hij hj => lt_false.1 (hs i j (Nat.zero_le _) hij (by omega))
  refine (Tryz.flag_Compact g 0 cap d W hH (by omega) h1).mono ?_
  rintro e w' ⟨rfl, q, rfl⟩
  have hl := hset.len
  generalize hCq : Lib.compactUpTo d d.size = C at *
  simp only [Array.length_toList] at hl
  have hat : At encF W g 0 (C ++ List.replicate (d.size - C.length) 0).toArray (putRow encF (Sort.ahead W q) g 0 (C ++ List.replicate (d.size - C.length) 0).toArray) := ⟨q, #[], by rw [grow_empty]⟩
  have hF2 := hF.at hat (by simp; omega)
  simp only [Array.length_toList] at hF2
  have e3 : d.size = (C ++ List.replicate (d.size - C.length) 0).length := by simp; omega
  have hF3 : FRow w.heap.size (putRow encF (Sort.ahead W q) g 0 (C ++ List.replicate (d.size - C.length) 0).toArray) (.slice (some ⟨g, 0, none⟩) (C ++ List.replicate (d.size - C.length) (0 : Int)).length cap) (C ++ List.replicate (d.size - C.length) 0) := by
   rw [← e3]
   exact hF2
  refine ⟨_, C, rfl, hset.congr fun x => hp.mem_iff, hF3.take (List.prefix_append _ _), hB.trans (at_below hat hg hB.size)⟩
 clear hA hn
 go_enter Tryz.func135, Tryz.ntmps135
 go_wp2_with (first
  | (go_at_call 154; refine (unhide HO).mono ?_; rintro e w1 ⟨u, rfl, hF, hB⟩; have HF := hide hF; have HB := hide hB; clear hF hB)
  | (go_at_call 155; refine (unhide HS _ _ (unhide HF) (unhide HB)).mono ?_; rintro e w2 ⟨rfl, d', hd, hp, hs, hF2, hB2⟩; have HX := hide (unhide HC _ _ d' hd hp hs hF2 hB2); clear hd hp hs hF2 hB2)
  | (go_at_call 156; refine (unhide HX).mono ?_; rintro e w3 ⟨u3, l, rfl, h3⟩; have H3 := hide h3; clear h3))
 go_ret
 exact ⟨u3, l, rfl, unhide H3⟩
theorem of_set (v : Value) (L : List Int) (w : World) (hA : FArg w v L) (hn : L.length ≤ 1099511627776) :
  Calls Tryz.prog 135 #[v] w fun e w' => ∃ u, e = .returned u ∧ FRow w.heap.size w' u (setOf L) ∧ Go.RowKit.Below w.heap.size w w' := by
 refine (of_any v L w hA hn).mono ?_
 rintro e w' ⟨u, l, rfl, h1, h2, h3⟩
 rw [h1.eq] at h2
 exact ⟨u, rfl, h2, h3⟩

def readE (V : List Int) : Int := if 0 ∈ V then 31 else if 64 < V.length then 32 else 0
def Fill (g n : Nat) (V : List Int) (k : Nat) (W : World) : Prop := ∃ cur, W.heap[g]? = some (.cells cur 36 (0, 0)) ∧ n = cur.size ∧ cur.toList.take k = (V.take k).map encF
theorem set_heap {W : World} {g k : Nat} {cur : Array Value} {t : TypeId} {fr : Nat × Nat} (h : W.heap[g]? = some (.cells cur t fr)) (v : Value) : (W.setCell ⟨g, k, none⟩ v).heap[g]? = some (.cells (cur.setIfInBounds k v) t fr) := by
 rw [setCell_eq]
 show (W.heap.modify g _)[g]? = _
 rw [Array.getElem?_modify, if_pos rfl, h]
 rfl
theorem set_below {W : World} {g k : Nat} (v : Value) : Go.RowKit.Below g W (W.setCell ⟨g, k, none⟩ v) := by
 rw [setCell_eq]
 refine ⟨rfl, rfl, rfl, ?_, fun j hj => ?_⟩
 ·show W.heap.size ≤ (W.heap.modify g _).size
  simp
 ·show (W.heap.modify g _)[j]? = _
  rw [Array.getElem?_modify, if_neg (by omega)]
theorem Fill.cell {g n k : Nat} {V : List Int} {W : World} (h : Fill g n V k W) (hk : k < n) : (∃ u, W.cell? ⟨g, k, none⟩ = some u) ∧ W.frozen? ⟨g, k, none⟩ = false := by
 obtain ⟨cur, h1, h2, _⟩ := h
 constructor
 ·refine ⟨cur[k], ?_⟩
  simp only [World.cell?, h1]
  simp
 ·simp [World.frozen?, h1]
theorem Fill.drewN {g n k : Nat} {V : List Int} {W : World} (h : Fill g n V k W) (q : Nat) : Fill g n V k (W.drewN q) := h
theorem Fill.set {g n k : Nat} {V : List Int} {W : World} (h : Fill g n V k W) (hk : k < n) {x : Int} (hx : V[k]? = some x) : Fill g n V (k + 1) (W.setCell ⟨g, k, none⟩ (encF x)) := by
 obtain ⟨cur, h1, h2, h3⟩ := h
 refine ⟨_, set_heap h1 _, by simpa using h2, ?_⟩
 have hkl : k < V.length := (List.getElem?_eq_some_iff.1 hx).1
 have hkx : V[k] = x := (List.getElem?_eq_some_iff.1 hx).2
 rw [List.take_succ_eq_append_getElem hkl, hkx, List.map_append, ← h3]
 have hks : k < cur.size := by omega
 rw [List.take_succ_eq_append_getElem (by simpa using hks)]
 congr 1
 ·simp [List.take_set_of_le]
 ·simp
theorem Fill.row {g n : Nat} {V : List Int} {W : World} (h : Fill g n V n W) (hn : V.length = n) (hm : n ≤ maxLen) : FRow g W (.slice (some ⟨g, 0, none⟩) n n) V := by
 obtain ⟨cur, h1, h2, h3⟩ := h
 exact ⟨g, n, cur, by rw [hn], Nat.le_refl _, h1, by omega, hm, h2, by rw [hn, h3, ← hn, List.take_length]⟩

theorem read_with (kind : Int) (s : ByteArray) (P : List ByteArray) (w : World) (hk : One.isK kind = true) (hn : P.length ≤ 1099511627776) (hz : ∀ p ∈ P, p.size ≤ maxLen)
  (hcut : Calls Tryz.prog 134 #[.int .i64 kind, .string s] w fun e w' => ∃ u, e = .returned u ∧ ArgS.StrsAt w' u P ∧ Go.RowKit.Below w.heap.size w w') :
  Calls Tryz.prog 105 #[.int .i64 kind, .string s] w fun e w' => ∃ u, e = .returned (.tuple #[u, .int .i64 (readE (P.map fun p => One.val kind p.data.toList))]) ∧ Go.RowKit.Below w.heap.size w w' ∧
   (readE (P.map fun p => One.val kind p.data.toList) = 0 → ∃ l, IsSet l (P.map fun p => One.val kind p.data.toList) ∧ FRow w.heap.size w' u l) ∧ (readE (P.map fun p => One.val kind p.data.toList) ≠ 0 → u = .slice none 0 0) := by
 obtain ⟨i0, hi, hz0, hz1, hz2⟩ := info_parts infoF
 obtain ⟨V, hV⟩ : ∃ V, V = P.map fun p => One.val kind p.data.toList := ⟨_, rfl⟩
 have hVl : V.length = P.length := by rw [hV]; simp
 have HO : Hid (∀ (k : Nat) p x W, P[k]? = some p → V[k]? = some x → Calls Tryz.prog 130 #[.int .i64 kind, .string p] W fun e w' => e = .returned (.tuple #[.int .u16 x, .int .i64 (if x = 0 then 31 else 0)]) ∧ ∃ n, w' = W.drewN n) := fun k p x W hp hx => by
  refine (One.one_any kind p W (hz p (List.mem_of_getElem? hp))).mono ?_
  rintro e w' ⟨rfl, h⟩
  have ex : x = One.val kind p.data.toList := by
   rw [hV] at hx
   simp [hp] at hx
   exact hx.symm
  rw [One.oneF, One.oneE, if_pos hk, if_pos hk, ex]
  exact ⟨rfl, h⟩
 have HKK := hide (fun W => One.kind_any kind W)
 rw [hk] at HKK
 rw [← hV]
 have HC := hide hcut
 clear hV hcut hk hz
 generalize hnn : P.length = n at *
 have HN := hide hnn
 have HVL := hide hVl
 clear hnn hVl
 have hnz : (n : Int) ≤ 1099511627776 := by omega
 go_enter Tryz.func105, Tryz.ntmps105
 go_wp2_with (first
  | (go_at_call 133; refine (unhide HKK _).mono ?_; rintro e w0 ⟨rfl, hw0⟩; obtain rfl := hw0.symm)
  | (go_at_call 134; refine (unhide HC).mono ?_; rintro e w1 ⟨u, rfl, hP, hB1⟩; obtain ⟨ao, cap, rfl, hcp, hcell⟩ := hP.form; rw [unhide HN] at hcp ⊢; have HCE := hide hcell; obtain ⟨w2, hrun, hown, hgrow⟩ := run_make_full (P := Tryz.prog) w1 w1.heap.size 54 36 i0 (.int .u16 0) 1 Tryz.underlying54 hi hz0 hz1 .i64 .i64 n (by rw [hz2]; omega) (by unfold maxLen; omega) (Nat.le_refl _); have HOW := hide hown; have HGR := hide hgrow; have HB1 := hide hB1; clear hP hcell hown hgrow hB1))
 have HF0 : Hid (Fill w1.heap.size n V 0 w2) := by
  obtain ⟨_, ⟨e0, _⟩ | ⟨g, cap1, cur, e1, hg, hh, hc1, hm1, hs1, _⟩⟩ := unhide HOW
  ·cases e0
  ·injection e1 with e1 _ e3
   injection e1 with e1
   injection e1 with e1 _ _
   rw [← e1] at hh
   exact ⟨cur, hh, by omega, by simp⟩
 have HB2 : Hid (Go.RowKit.Below w1.heap.size w1 w2) := (Go.RowKit.Below.refl _ w1).grown (unhide HGR) (Nat.le_refl _) (fun k e => by cases e)
 clear HOW HGR hrun hi hz0 hz1 hz2
 have hnm : n ≤ maxLen := by unfold maxLen; omega
 obtain ⟨G, hG⟩ : ∃ G, G = w1.heap.size := ⟨_, rfl⟩
 have HGG := hide hG
 have HGE : Hid (w.heap.size ≤ G) := by rw [Hid, hG]; exact (unhide HB1).size
 have HNV : Hid (∀ (k : Nat) x, V[k]? = some x → (∀ y ∈ V.take k, y ≠ 0) → x ≠ 0 → ∀ y ∈ V.take (k + 1), y ≠ 0) := fun k x hx h h2 y hy => by
  have hkl : k < V.length := (List.getElem?_eq_some_iff.1 hx).1
  rw [List.take_succ_eq_append_getElem hkl, (List.getElem?_eq_some_iff.1 hx).2] at hy
  rcases List.mem_append.1 hy with hy | hy
  ·exact h y hy
  ·simp at hy; subst hy; exact h2
 have HBAD : Hid (∀ k : Nat, V[k]? = some 0 → readE V = 31) := fun k hx => by rw [readE, if_pos (List.mem_of_getElem? hx)]
 rw [← hG] at HF0 HB2 ⊢
 clear hG
 go_loopw [23] (fun vi wr => ∃ k : Nat, vi = .int .i64 k ∧ k ≤ n ∧ Hid (Fill G n V k wr) ∧ Hid (Go.RowKit.Below G w1 wr) ∧ Hid (∀ y ∈ V.take k, y ≠ 0)) (fun vi _ => n - (intOf vi).toNat)
 case atStart => exact ⟨0, rfl, Nat.zero_le _, HF0, HB2, hide (fun y hy => by simp at hy)⟩
 case round =>
  obtain ⟨k, rfl, hk, HF, HB, HNZ⟩ := hrel
  by_cases hlt : k < n
  ·have hltz : (k : Int) < (n : Int) := by omega
   obtain ⟨p, hp⟩ : ∃ p, P[k]? = some p := ⟨_, List.getElem?_eq_getElem (by rw [unhide HN]; exact hlt)⟩
   obtain ⟨gp, op, rfl, hgp, hcp2⟩ := unhide HCE k p hp
   have hcw : wr.cell? ⟨gp, op + k, none⟩ = some (.string p) := ((unhide HB).cell (p := ⟨gp, op + k, none⟩) (by show gp < G; rw [unhide HGG]; exact hgp)).trans hcp2
   obtain ⟨⟨u0, hcu⟩, hfu⟩ := (unhide HF).cell hlt
   obtain ⟨x, hx⟩ : ∃ x, V[k]? = some x := ⟨_, List.getElem?_eq_getElem (by rw [unhide HVL]; exact hlt)⟩
   have HOK := hide (fun W => unhide HO k p x W hp hx)
   have HX := hide hx
   clear hp hcp2 hgp hx
   by_cases hx0 : x = 0
   ·subst hx0
    rw [if_pos rfl] at HOK
    have HR : Hid (readE V = 31) := unhide HBAD k (unhide HX)
    go_wp2_with (go_at_call 130; refine (unhide HOK _).mono ?_; rintro e w3 ⟨rfl, n3, hw3⟩; obtain rfl := hw3.symm)
    have HBF : Hid (Go.RowKit.Below w.heap.size w (wr.drewN n3)) := (unhide HB1).trans (below_drewN ((unhide HB).mono (unhide HGE)) n3)
    go_ret2
    rw [unhide HR]
    exact ⟨_, rfl, unhide HBF, fun h => (by cases h), fun _ => rfl⟩
   ·rw [if_neg hx0] at HOK
    have HNZ2 := hide (unhide HNV k x (unhide HX) (unhide HNZ) hx0)
    clear hx0
    go_wp2_with (go_at_call 130; refine (unhide HOK _).mono ?_; rintro e w3 ⟨rfl, n3, hw3⟩; obtain rfl := hw3.symm)
    go_roundw
    case rel => exact ⟨k + 1, by go_num, by omega, hide (((unhide HF).drewN n3).set hlt (unhide HX)), hide ((below_drewN (unhide HB) n3).trans (set_below _)), HNZ2⟩
    case measure => simp [intOf]; omega
  ·obtain rfl : k = n := by omega
   have hltz : ¬ (k : Int) < (k : Int) := by omega
   have HROW := hide ((unhide HF).row (unhide HVL) hnm)
   have hno : 0 ∉ V := fun h => unhide HNZ 0 (by rw [← unhide HVL, List.take_length]; exact h) rfl
   have HBW : Hid (Go.RowKit.Below w.heap.size w wr) := (unhide HB1).trans ((unhide HB).mono (unhide HGE))
   by_cases h64 : 64 < k
   ·have h64z : (64 : Int) < (k : Int) := by omega
    have HR : Hid (readE V = 32) := by rw [Hid, readE, if_neg hno, if_pos (by rw [unhide HVL]; exact h64)]
    clear hno
    go_wp2
    go_ret2
    rw [unhide HR]
    exact ⟨_, rfl, unhide HBW, fun h => (by cases h), fun _ => rfl⟩
   ·have h64z : ¬ (64 : Int) < (k : Int) := by omega
    have HR : Hid (readE V = 0) := by rw [Hid, readE, if_neg hno, if_neg (by rw [unhide HVL]; exact h64)]
    have HOF := hide (of_any _ V wr (unhide HROW).arg (by rw [unhide HVL]; omega))
    clear hno
    go_wp2_with (go_at_call 135; refine (unhide HOF).mono ?_; rintro e w4 ⟨u4, l, rfl, h4, hF4, hB4⟩; have H4 := hide h4; have HF4 := hide hF4; have HB4 := hide hB4; clear h4 hF4 hB4)
    go_ret2
    rw [unhide HR]
    exact ⟨u4, rfl, (unhide HBW).trans ((unhide HB4).mono (unhide HBW).size), fun _ => ⟨l, unhide H4, (unhide HF4).low (unhide HBW).size⟩, fun h => absurd rfl h⟩
end So
end Go.Proofs.YtidhbhdcoanfcaaGreatDoor
