/- Contracts: slices.Sort at flags, flags.own and flags.Of: the set of the flags, in memory of its own. -/
import Derived.Test.YtgaagbjbolfbjaaDoorFs
import Derived.Test.YtgaagbjbolfbjaaDoorSoD
import Derived.Test.YtgaagbjbolfbjaaDoorShCo
import Derived.Laws.OwnMore
import Derived.Laws.CopyOwn
import Derived.WalkKit
namespace Go.Proofs.YtgaagbjbolfbjaaDoor
open Go.Sort Go.RowKit
namespace So

set_option maxRecDepth 1000000 in
set_option maxHeartbeats 4000000 in
theorem sort_at (blk off cap len : Nat) (d : Array Int) (w : World) (hlen : d.size = len) (hH : Holds encF w blk off d) (hblk : blk < w.heap.size) (hsz : len < 4611686018427387904) :
    Calls Tryd.prog 17 #[.slice (some ⟨blk, off, none⟩) len cap] w fun e w' =>
      e = .returned (.tuple #[]) ∧ ∃ d', At encF w blk off d' w' ∧ PermIn 0 len d d' ∧ SortedIn ltInt 0 len d' := by
  have hL : ∀ w, Calls Tryd.prog 23 #[.int .u64 (len : Int)] w fun e w' => e = .returned (.int .i64 (bitsLen len : Nat)) ∧ w' = w := fun w => by
    have h := Tryd.bits_Len (len : Int) w (by omega) (by omega)
    rwa [Int.toNat_natCast, bitLen_eq _ (by omega)] at h
  have hk : bitsLen len ≤ 62 := (bitsLen_le_iff len 62).2 (by omega)
  have hw : IntKind.u64.wrap (len : Int) = len := by simp [IntKind.wrap, IntKind.bits, IntKind.signed]; omega
  have HP := hide (pdq_any (len + 1) blk off cap len 0 len (bitsLen len) d w (by omega) hlen hH hblk (Nat.zero_le _) (Nat.le_refl _) hsz (by omega) (.inl rfl))
  have HL := hide hL
  clear hL hH
  generalize bitsLen len = k at *
  go_enter Tryd.func17, Tryd.ntmps17
  go_wp2_with (first
    | (go_at_call 23; refine (unhide HL _).mono ?_; rintro e w1 ⟨rfl, hw1⟩; obtain rfl := hw1.symm)
    | (go_at_call 22; refine (unhide HP).mono ?_; rintro e w2 ⟨rfl, h2⟩))
  go_end0
  exact ⟨rfl, h2⟩

theorem infoF : (Tryd.prog.info? 25).map (fun i => (i.zero, i.size, i.bytes)) = some (some (.int .u16 0), 1, 2) := by kernel_rfl
theorem info_parts {P : Program} {e : TypeId} {z : Value} {s b : Nat} (h : (P.info? e).map (fun i => (i.zero, i.size, i.bytes)) = some (some z, s, b)) : ∃ i, P.info? e = some i ∧ i.zero = some z ∧ i.size = s ∧ i.bytes = b := by
  cases hi : P.info? e with
  | none => rw [hi] at h; cases h
  | some i => rw [hi] at h; simp at h; exact ⟨i, rfl, h.1, h.2.1, h.2.2⟩
theorem copy_run (dT sT : TypeId) (hu : Tryd.prog.underlying dT = some (.slice 25)) (W : World) (g n cap : Nat) (ao : Option Addr) (cur : Array Value) (cs : List Value) (hh : W.heap[g]? = some (.cells cur 25 (0, 0))) (hcl : cs.length = n)
    (hsrc : 0 < n → ∃ ad, ao = some ad ∧ ∀ j v, cs[j]? = some v → W.cell? (ad.add j) = some v) (hfit : n ≤ cur.size) (hone : ∀ v ∈ cs, v.oneCell' = true) :
    ∃ W2, (Builtin.copy_ #[dT, sT] 3 #[.slice (some ⟨g, 0, none⟩) n n, .slice ao n cap]).run Tryd.prog W = .ok (goInt n) W2 ∧ W2.heap[g]? = some (.cells (cs ++ cur.toList.drop n).toArray 25 (0, 0)) ∧ Go.RowKit.Below g W W2 := by
  have hgs : g < W.heap.size := (Array.getElem?_eq_some_iff.1 hh).1
  by_cases h0 : n = 0
  · subst h0
    refine ⟨W, ?_, ?_, Go.RowKit.Below.refl _ _⟩
    · exact run_copy_none W dT sT 3 25 _ _ 0 0 0 cap hu (by kernel_rfl) (by simp)
    · have : cs = [] := List.eq_nil_of_length_eq_zero hcl
      rw [this, hh]
      simp
  · obtain ⟨ad, rfl, hs⟩ := hsrc (by omega)
    have hr := run_copy_row (P := Tryd.prog) W dT sT 3 25 g 0 n n ad n cap cur 25 cs hu (by kernel_rfl) hh (by rw [hcl]; simp) hs (by omega) hone
    rw [hcl] at hr
    refine ⟨_, hr, ?_, ?_⟩
    · rw [setRow_heap W g cur _ _ _ hh]
      simp
    · exact ⟨rfl, rfl, rfl, by simp [World.setRow], fun k hk => setRow_other W g k _ (by omega)⟩

set_option maxRecDepth 1000000 in
set_option maxHeartbeats 4000000 in
theorem own_any (v : Value) (L : List Int) (w : World) (hA : FArg w v L) (hn : L.length ≤ 1099511627776) :
    Calls Tryd.prog 14 #[v] w fun e w' => ∃ u, e = .returned u ∧ FRow w.heap.size w' u L ∧ Go.RowKit.Below w.heap.size w w' := by
  obtain ⟨i0, hi, hz0, hz1, hz2⟩ := info_parts infoF
  obtain ⟨ao, cap, rfl, hc, hm, _, hcell⟩ := hA
  obtain ⟨w1, hrun, hown, hgrow⟩ := run_make_full (P := Tryd.prog) w w.heap.size 26 25 i0 (.int .u16 0) 1 Tryd.underlying26 hi hz0 hz1 .i64 .i64 L.length (by rw [hz2]; omega) (by unfold maxLen; omega) (Nat.le_refl _)
  have hB1 : Go.RowKit.Below w.heap.size w w1 := (Go.RowKit.Below.refl _ w).grown hgrow (Nat.le_refl _) (fun k e => by cases e)
  obtain ⟨_, ⟨e0, _⟩ | ⟨g, cap1, cur, e1, hg, hh, hc1, hm1, hs1, _⟩⟩ := hown
  · cases e0
  · injection e1 with e1 _ e3
    injection e1 with e1
    injection e1 with e1 _ _
    subst e3
    rw [← e1] at hh
    obtain ⟨w2, hcopy, hw2, hB2⟩ := copy_run 26 22 Tryd.underlying26 w1 w.heap.size L.length cap ao cur (L.map encF) hh (by simp) (fun h0 => by
      obtain ⟨g, off, e, hg, hx⟩ := hcell h0
      refine ⟨_, e, fun j v hv => ?_⟩
      simp only [List.getElem?_map, Option.map_eq_some_iff] at hv
      obtain ⟨x, hx2, rfl⟩ := hv
      rw [Go.WideShapes.add_plain]
      exact (hB1.cell (p := ⟨g, off + j, none⟩) hg).trans (hx j x hx2)) (by omega) (fun v hv => by
      obtain ⟨x, _, rfl⟩ := List.mem_map.1 hv
      rfl)
    have HFIN : Hid (FRow w.heap.size w2 (.slice (some ⟨w.heap.size, 0, none⟩) L.length L.length) L) := by
      refine ⟨w.heap.size, L.length, _, rfl, Nat.le_refl _, hw2, Nat.le_refl _, by unfold maxLen; omega, ?_, ?_⟩
      · simp; omega
      · simp
    have HB2 : Hid (Go.RowKit.Below w.heap.size w w2) := hB1.trans hB2
    have hlen : (L.length : Int) ≤ 1099511627776 := by omega
    clear hcell hgrow hi hz0 hz1 hz2 e1 hg hs1 hc1 hm1 hc hm hh hw2 hB1 hB2
    generalize L.length = n at *
    go_enter Tryd.func14, Tryd.ntmps14
    go_wp2
    go_ret
    exact ⟨_, rfl, unhide HFIN, unhide HB2⟩

set_option maxRecDepth 1000000 in
set_option maxHeartbeats 4000000 in
theorem of_any (v : Value) (L : List Int) (w : World) (hA : FArg w v L) (hn : L.length ≤ 1099511627776) :
    Calls Tryd.prog 7 #[v] w fun e w' => ∃ u l, e = .returned u ∧ IsSet l L ∧ FRow w.heap.size w' u l ∧ Go.RowKit.Below w.heap.size w w' := by
  have HO := hide (own_any v L w hA hn)
  have HS : Hid (∀ W u, FRow w.heap.size W u L → Go.RowKit.Below w.heap.size w W → Calls Tryd.prog 17 #[u] W fun e w' => e = .returned (.tuple #[]) ∧ ∃ d' : Array Int, d'.size = L.length ∧ d'.toList.Perm L ∧ SortedIn ltInt 0 L.length d' ∧ FRow w.heap.size w' u d'.toList ∧ Go.RowKit.Below w.heap.size w w') := fun W u hF hB => by
    obtain ⟨g, cap, rfl, hg, hgs, h1, h2, hH⟩ := hF.cells
    refine (sort_at g 0 cap L.length L.toArray W (by simp) hH hgs (by omega)).mono ?_
    rintro e w' ⟨rfl, d', hat, hp, hs⟩
    have hsz : d'.size = L.length := by rw [hp.1]; simp
    refine ⟨rfl, d', hsz, ?_, hs, hF.at hat hsz, hB.trans (at_below hat hg hB.size)⟩
    have := hp.2.2
    rw [Array.extract_eq_self_of_le (by omega), Array.extract_eq_self_of_le (by simp)] at this
    simpa using this
  have HC : Hid (∀ W u (d : Array Int), d.size = L.length → d.toList.Perm L → SortedIn ltInt 0 L.length d → FRow w.heap.size W u d.toList → Go.RowKit.Below w.heap.size w W → Calls Tryd.prog 18 #[u] W fun e w' => ∃ u l, e = .returned u ∧ IsSet l L ∧ FRow w.heap.size w' u l ∧ Go.RowKit.Below w.heap.size w w') := fun W u d hd hp hs hF hB => by
    obtain ⟨g, cap, rfl, hg, hgs, h1, h2, hH⟩ := hF.cells
    simp only [Array.toArray_toList, Array.length_toList] at hH h1 ⊢
    have hset : IsSet (Lib.compactUpTo d d.size) d.toList := compact_set fun i j hij hj => lt_false.1 (hs i j (Nat.zero_le _) hij (by omega))
    refine (Tryd.flag_Compact g 0 cap d W hH (by omega) h1).mono ?_
    rintro e w' ⟨rfl, q, rfl⟩
    have hl := hset.len
    generalize hCq : Lib.compactUpTo d d.size = C at *
    simp only [Array.length_toList] at hl
    have hat : At encF W g 0 (C ++ List.replicate (d.size - C.length) 0).toArray (putRow encF (Sort.ahead W q) g 0 (C ++ List.replicate (d.size - C.length) 0).toArray) := ⟨q, #[], by rw [grow_empty]⟩
    have hF2 := hF.at hat (by simp; omega)
    simp only [Array.length_toList] at hF2
    have e3 : d.size = (C ++ List.replicate (d.size - C.length) 0).length := by simp; omega
    have hF3 : FRow w.heap.size (putRow encF (Sort.ahead W q) g 0 (C ++ List.replicate (d.size - C.length) 0).toArray) (.slice (some ⟨g, 0, none⟩) (C ++ List.replicate (d.size - C.length) (0 : Int)).length cap) (C ++ List.replicate (d.size - C.length) 0) := by
      rw [← e3]
      exact hF2
    refine ⟨_, C, rfl, hset.congr fun x => hp.mem_iff, hF3.take (List.prefix_append _ _), hB.trans (at_below hat hg hB.size)⟩
  clear hA hn
  go_enter Tryd.func7, Tryd.ntmps7
  go_wp2_with (first
    | (go_at_call 14; refine (unhide HO).mono ?_; rintro e w1 ⟨u, rfl, hF, hB⟩; have HF := hide hF; have HB := hide hB; clear hF hB)
    | (go_at_call 17; refine (unhide HS _ _ (unhide HF) (unhide HB)).mono ?_; rintro e w2 ⟨rfl, d', hd, hp, hs, hF2, hB2⟩; have HX := hide (unhide HC _ _ d' hd hp hs hF2 hB2); clear hd hp hs hF2 hB2)
    | (go_at_call 18; refine (unhide HX).mono ?_; rintro e w3 ⟨u3, l, rfl, h3⟩; have H3 := hide h3; clear h3))
  go_ret
  exact ⟨u3, l, rfl, unhide H3⟩
theorem of_set (v : Value) (L : List Int) (w : World) (hA : FArg w v L) (hn : L.length ≤ 1099511627776) :
    Calls Tryd.prog 7 #[v] w fun e w' => ∃ u, e = .returned u ∧ FRow w.heap.size w' u (setOf L) ∧ Go.RowKit.Below w.heap.size w w' := by
  refine (of_any v L w hA hn).mono ?_
  rintro e w' ⟨u, l, rfl, h1, h2, h3⟩
  rw [h1.eq] at h2
  exact ⟨u, rfl, h2, h3⟩
end So
end Go.Proofs.YtgaagbjbolfbjaaDoor
