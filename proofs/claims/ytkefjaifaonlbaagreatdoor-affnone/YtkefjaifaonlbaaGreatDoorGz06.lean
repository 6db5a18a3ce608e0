/- Contracts: slices.Sort at flags, flags.own and flags.Of: the set of the flags, in memory of its own. -/
import Derived.Test.YtkefjaifaonlbaaGreatDoorGz02
import Derived.Test.YtkefjaifaonlbaaGreatDoorGz05
import Derived.Laws.OwnMore
import Derived.Laws.CopyOwn
import Derived.WalkKit
import Derived.Shelf.SlicesE.Index
import Derived.Shelf.SlicesE.Compact
import Derived.Test.YtkefjaifaonlbaaGreatDoorProg
import Derived.Laws.AppendOwn
import Derived.Laws.AppendOwnNone
import Derived.WalkSpells
import Derived.WalkLawsBesides
import Derived.Deep.QuietTactic
import Derived.BigQuiet
import Derived.Deep.DeepFit
import Derived.Maps.AppendAt
import Derived.Deep.LoopGhost
import Derived.Deep.CutRange
namespace Go.Proofs.YtkefjaifaonlbaaGreatDoor
open Go.Sort Go.RowKit
namespace So

set_option maxRecDepth 1000000 in
set_option maxHeartbeats 4000000 in
theorem sort_at (blk off cap len : Nat) (d : Array Int) (w : World) (hlen : d.size = len) (hH : Holds encF w blk off d) (hblk : blk < w.heap.size) (hsz : len < 4611686018427387904) :
    Calls Tryz.prog 29 #[.slice (some ⟨blk, off, none⟩) len cap] w fun e w' =>
      e = .returned (.tuple #[]) ∧ ∃ d', At encF w blk off d' w' ∧ PermIn 0 len d d' ∧ SortedIn ltInt 0 len d' := by
  have hL : ∀ w, Calls Tryz.prog 39 #[.int .u64 (len : Int)] w fun e w' => e = .returned (.int .i64 (bitsLen len : Nat)) ∧ w' = w := fun w => by
    have h := Tryz.bits_Len (len : Int) w (by omega) (by omega)
    rwa [Int.toNat_natCast, bitLen_eq _ (by omega)] at h
  have hk : bitsLen len ≤ 62 := (bitsLen_le_iff len 62).2 (by omega)
  have hw : IntKind.u64.wrap (len : Int) = len := by simp [IntKind.wrap, IntKind.bits, IntKind.signed]; omega
  have HP := hide (pdq_any (len + 1) blk off cap len 0 len (bitsLen len) d w (by omega) hlen hH hblk (Nat.zero_le _) (Nat.le_refl _) hsz (by omega) (.inl rfl))
  have HL := hide hL
  clear hL hH
  generalize bitsLen len = k at *
  go_enter Tryz.func29, Tryz.ntmps29
  go_wp2_with (first
    | (go_at_call 39; refine (unhide HL _).mono ?_; rintro e w1 ⟨rfl, hw1⟩; obtain rfl := hw1.symm)
    | (go_at_call 38; refine (unhide HP).mono ?_; rintro e w2 ⟨rfl, h2⟩))
  go_end0
  exact ⟨rfl, h2⟩

theorem infoF : (Tryz.prog.info? 31).map (fun i => (i.zero, i.size, i.bytes)) = some (some (.int .u16 0), 1, 2) := by kernel_rfl
theorem info_parts {P : Program} {e : TypeId} {z : Value} {s b : Nat} (h : (P.info? e).map (fun i => (i.zero, i.size, i.bytes)) = some (some z, s, b)) : ∃ i, P.info? e = some i ∧ i.zero = some z ∧ i.size = s ∧ i.bytes = b := by
  cases hi : P.info? e with
  | none => rw [hi] at h; cases h
  | some i => rw [hi] at h; simp at h; exact ⟨i, rfl, h.1, h.2.1, h.2.2⟩
theorem copy_run (dT sT : TypeId) (hu : Tryz.prog.underlying dT = some (.slice 31)) (W : World) (g n cap : Nat) (ao : Option Addr) (cur : Array Value) (cs : List Value) (hh : W.heap[g]? = some (.cells cur 31 (0, 0))) (hcl : cs.length = n)
    (hsrc : 0 < n → ∃ ad, ao = some ad ∧ ∀ j v, cs[j]? = some v → W.cell? (ad.add j) = some v) (hfit : n ≤ cur.size) (hone : ∀ v ∈ cs, v.oneCell' = true) :
    ∃ W2, (Builtin.copy_ #[dT, sT] 3 #[.slice (some ⟨g, 0, none⟩) n n, .slice ao n cap]).run Tryz.prog W = .ok (goInt n) W2 ∧ W2.heap[g]? = some (.cells (cs ++ cur.toList.drop n).toArray 31 (0, 0)) ∧ Go.RowKit.Below g W W2 := by
  have hgs : g < W.heap.size := (Array.getElem?_eq_some_iff.1 hh).1
  by_cases h0 : n = 0
  · subst h0
    refine ⟨W, ?_, ?_, Go.RowKit.Below.refl _ _⟩
    · exact run_copy_none W dT sT 3 31 _ _ 0 0 0 cap hu (by kernel_rfl) (by simp)
    · have : cs = [] := List.eq_nil_of_length_eq_zero hcl
      rw [this, hh]
      simp
  · obtain ⟨ad, rfl, hs⟩ := hsrc (by omega)
    have hr := run_copy_row (P := Tryz.prog) W dT sT 3 31 g 0 n n ad n cap cur 31 cs hu (by kernel_rfl) hh (by rw [hcl]; simp) hs (by omega) hone
    rw [hcl] at hr
    refine ⟨_, hr, ?_, ?_⟩
    · rw [setRow_heap W g cur _ _ _ hh]
      simp
    · exact ⟨rfl, rfl, rfl, by simp [World.setRow], fun k hk => setRow_other W g k _ (by omega)⟩

set_option maxRecDepth 1000000 in
set_option maxHeartbeats 4000000 in
theorem own_any (v : Value) (L : List Int) (w : World) (hA : FArg w v L) (hn : L.length ≤ 1099511627776) :
    Calls Tryz.prog 28 #[v] w fun e w' => ∃ u, e = .returned u ∧ FRow w.heap.size w' u L ∧ Go.RowKit.Below w.heap.size w w' := by
  obtain ⟨i0, hi, hz0, hz1, hz2⟩ := info_parts infoF
  obtain ⟨ao, cap, rfl, hc, hm, _, hcell⟩ := hA
  obtain ⟨w1, hrun, hown, hgrow⟩ := run_make_full (P := Tryz.prog) w w.heap.size 24 31 i0 (.int .u16 0) 1 Tryz.underlying24 hi hz0 hz1 .i64 .i64 L.length (by rw [hz2]; omega) (by unfold maxLen; omega) (Nat.le_refl _)
  have hB1 : Go.RowKit.Below w.heap.size w w1 := (Go.RowKit.Below.refl _ w).grown hgrow (Nat.le_refl _) (fun k e => by cases e)
  obtain ⟨_, ⟨e0, _⟩ | ⟨g, cap1, cur, e1, hg, hh, hc1, hm1, hs1, _⟩⟩ := hown
  · cases e0
  · injection e1 with e1 _ e3
    injection e1 with e1
    injection e1 with e1 _ _
    subst e3
    rw [← e1] at hh
    obtain ⟨w2, hcopy, hw2, hB2⟩ := copy_run 24 22 Tryz.underlying24 w1 w.heap.size L.length cap ao cur (L.map encF) hh (by simp) (fun h0 => by
      obtain ⟨g, off, e, hg, hx⟩ := hcell h0
      refine ⟨_, e, fun j v hv => ?_⟩
      simp only [List.getElem?_map, Option.map_eq_some_iff] at hv
      obtain ⟨x, hx2, rfl⟩ := hv
      rw [Go.WideShapes.add_plain]
      exact (hB1.cell (p := ⟨g, off + j, none⟩) hg).trans (hx j x hx2)) (by omega) (fun v hv => by
      obtain ⟨x, _, rfl⟩ := List.mem_map.1 hv
      rfl)
    have HFIN : Hid (FRow w.heap.size w2 (.slice (some ⟨w.heap.size, 0, none⟩) L.length L.length) L) := by
      refine ⟨w.heap.size, L.length, _, rfl, Nat.le_refl _, hw2, Nat.le_refl _, by unfold maxLen; omega, ?_, ?_⟩
      · simp; omega
      · simp
    have HB2 : Hid (Go.RowKit.Below w.heap.size w w2) := hB1.trans hB2
    have hlen : (L.length : Int) ≤ 1099511627776 := by omega
    clear hcell hgrow hi hz0 hz1 hz2 e1 hg hs1 hc1 hm1 hc hm hh hw2 hB1 hB2
    generalize L.length = n at *
    go_enter Tryz.func28, Tryz.ntmps28
    go_wp2
    go_ret
    exact ⟨_, rfl, unhide HFIN, unhide HB2⟩

set_option maxRecDepth 1000000 in
set_option maxHeartbeats 4000000 in
theorem of_any (v : Value) (L : List Int) (w : World) (hA : FArg w v L) (hn : L.length ≤ 1099511627776) :
    Calls Tryz.prog 13 #[v] w fun e w' => ∃ u l, e = .returned u ∧ IsSet l L ∧ FRow w.heap.size w' u l ∧ Go.RowKit.Below w.heap.size w w' := by
  have HO := hide (own_any v L w hA hn)
  have HS : Hid (∀ W u, FRow w.heap.size W u L → Go.RowKit.Below w.heap.size w W → Calls Tryz.prog 29 #[u] W fun e w' => e = .returned (.tuple #[]) ∧ ∃ d' : Array Int, d'.size = L.length ∧ d'.toList.Perm L ∧ SortedIn ltInt 0 L.length d' ∧ FRow w.heap.size w' u d'.toList ∧ Go.RowKit.Below w.heap.size w w') := fun W u hF hB => by
    obtain ⟨g, cap, rfl, hg, hgs, h1, h2, hH⟩ := hF.cells
    refine (sort_at g 0 cap L.length L.toArray W (by simp) hH hgs (by omega)).mono ?_
    rintro e w' ⟨rfl, d', hat, hp, hs⟩
    have hsz : d'.size = L.length := by rw [hp.1]; simp
    refine ⟨rfl, d', hsz, ?_, hs, hF.at hat hsz, hB.trans (at_below hat hg hB.size)⟩
    have := hp.2.2
    rw [Array.extract_eq_self_of_le (by omega), Array.extract_eq_self_of_le (by simp)] at this
    simpa using this
  have HC : Hid (∀ W u (d : Array Int), d.size = L.length → d.toList.Perm L → SortedIn ltInt 0 L.length d → FRow w.heap.size W u d.toList → Go.RowKit.Below w.heap.size w W → Calls Tryz.prog 30 #[u] W fun e w' => ∃ u l, e = .returned u ∧ IsSet l L ∧ FRow w.heap.size w' u l ∧ Go.RowKit.Below w.heap.size w w') := fun W u d hd hp hs hF hB => by
    obtain ⟨g, cap, rfl, hg, hgs, h1, h2, hH⟩ := hF.cells
    simp only [Array.toArray_toList, Array.length_toList] at hH h1 ⊢
    have hset : IsSet (Lib.compactUpTo d d.size) d.toList := compact_set fun i j hij hj => lt_false.1 (hs i j (Nat.zero_le _) hij (by omega))
    refine (Tryz.flag_Compact g 0 cap d W hH (by omega) h1).mono ?_
    rintro e w' ⟨rfl, q, rfl⟩
    have hl := hset.len
    generalize hCq : Lib.compactUpTo d d.size = C at *
    simp only [Array.length_toList] at hl
    have hat : At encF W g 0 (C ++ List.replicate (d.size - C.length) 0).toArray (putRow encF (Sort.ahead W q) g 0 (C ++ List.replicate (d.size - C.length) 0).toArray) := ⟨q, #[], by rw [grow_empty]⟩
    have hF2 := hF.at hat (by simp; omega)
    simp only [Array.length_toList] at hF2
    have e3 : d.size = (C ++ List.replicate (d.size - C.length) 0).length := by simp; omega
    have hF3 : FRow w.heap.size (putRow encF (Sort.ahead W q) g 0 (C ++ List.replicate (d.size - C.length) 0).toArray) (.slice (some ⟨g, 0, none⟩) (C ++ List.replicate (d.size - C.length) (0 : Int)).length cap) (C ++ List.replicate (d.size - C.length) 0) := by
      rw [← e3]
      exact hF2
    refine ⟨_, C, rfl, hset.congr fun x => hp.mem_iff, hF3.take (List.prefix_append _ _), hB.trans (at_below hat hg hB.size)⟩
  clear hA hn
  go_enter Tryz.func13, Tryz.ntmps13
  go_wp2_with (first
    | (go_at_call 28; refine (unhide HO).mono ?_; rintro e w1 ⟨u, rfl, hF, hB⟩; have HF := hide hF; have HB := hide hB; clear hF hB)
    | (go_at_call 29; refine (unhide HS _ _ (unhide HF) (unhide HB)).mono ?_; rintro e w2 ⟨rfl, d', hd, hp, hs, hF2, hB2⟩; have HX := hide (unhide HC _ _ d' hd hp hs hF2 hB2); clear hd hp hs hF2 hB2)
    | (go_at_call 30; refine (unhide HX).mono ?_; rintro e w3 ⟨u3, l, rfl, h3⟩; have H3 := hide h3; clear h3))
  go_ret
  exact ⟨u3, l, rfl, unhide H3⟩
theorem of_set (v : Value) (L : List Int) (w : World) (hA : FArg w v L) (hn : L.length ≤ 1099511627776) :
    Calls Tryz.prog 13 #[v] w fun e w' => ∃ u, e = .returned u ∧ FRow w.heap.size w' u (setOf L) ∧ Go.RowKit.Below w.heap.size w w' := by
  refine (of_any v L w hA hn).mono ?_
  rintro e w' ⟨u, l, rfl, h1, h2, h3⟩
  rw [h1.eq] at h2
  exact ⟨u, rfl, h2, h3⟩
end So
end Go.Proofs.YtkefjaifaonlbaaGreatDoor
/- Contract of slices.Contains at flags, of the shelf, laid at this program: no walk of ours. -/
namespace Go.Proofs
open Go.Shelf
end Go.Proofs
/- Contracts: the law's twin, and Has, With and Count of a set of flags. -/
namespace Go.Proofs.YtkefjaifaonlbaaGreatDoor
open Go.Sort Go.RowKit
namespace So

theorem nil_owns (W : World) (n : Nat) (e : TypeId) : W.ownsRow n e 1 (.slice none 0 0) 0 [] := ⟨rfl, .inl ⟨rfl, rfl⟩⟩
theorem below_none {W w' : World} (hg : W.grownBy w' none) : Go.RowKit.Below W.heap.size W w' := (Go.RowKit.Below.refl _ W).grown hg (Nat.le_refl _) (fun k e => by cases e)
theorem ones (l : List Int) : ∀ u ∈ l.map encF, u.oneCell' = true := by
  intro u hu
  obtain ⟨x, _, rfl⟩ := List.mem_map.1 hu
  rfl
/-- a list that came in: nil, or an address with what lies there -/
theorem FArg.cases {W : World} {v : Value} {l : List Int} (h : FArg W v l) : (v = .slice none 0 0 ∧ l = []) ∨ ∃ ad c, v = .slice (some ad) l.length c ∧ l.length ≤ c ∧ c ≤ maxLen ∧ ∀ W', Go.RowKit.Below W.heap.size W W' → ∀ j u, (l.map encF)[j]? = some u → W'.cell? (ad.add j) = some u := by
  obtain ⟨ao, cap, rfl, h1, h2, h3, h4⟩ := h
  cases ao with
  | none =>
    have hc := h3 rfl
    have : l = [] := List.eq_nil_of_length_eq_zero (by omega)
    subst this
    left
    exact ⟨by simp [hc], rfl⟩
  | some ad =>
    right
    refine ⟨ad, cap, rfl, h1, h2, fun W' hB j u hu => ?_⟩
    simp only [List.getElem?_map, Option.map_eq_some_iff] at hu
    obtain ⟨x, hx, rfl⟩ := hu
    have hj : j < l.length := (List.getElem?_eq_some_iff.1 hx).1
    obtain ⟨g, off, e, hg, hc⟩ := h4 (by omega)
    cases e
    rw [Go.WideShapes.add_plain]
    exact (hB.cell (p := ⟨g, off + j, none⟩) hg).trans (hc j x hx)

theorem getBang (l : List Int) (j : Nat) (h : j < l.length) : l[j]? = some l[j]! := by rw [List.getElem?_eq_getElem h, getElem!_pos l j h]
/-- is it among them? -/
def hasB (l : List Int) (x : Int) : Bool := l.any fun y => decide (x = y)
theorem hasB_iff {l : List Int} {x : Int} : hasB l x = true ↔ x ∈ l := by
  unfold hasB
  simp [List.any_eq_true]
theorem wpList_append_run {P : Program} {w : World} {ops : Array Oper} {rest : List Oper} {o : Oper} {a : Act} {Q : Exit → Act → World → Prop} (hgd : o.guard = none) (s x : Operand) (t t' : TypeId)
    (ho : o.op = .call { callee := .builtin .append, args := #[s, x], argTypes := #[t, t'] }) (v f : Value) (hs : a.eval s = v) (hx : a.eval x = f) (v2 : Value) (w2 : World) (hrun : (Builtin.append_ #[t, t'] o.type #[v, f]).run P w = .ok v2 w2)
    (h : wpList P ops Q rest (a.put o.dst v2) w2) : wpList P ops Q (o :: rest) a w := by
  refine wpList_plain hgd fun K hK => ?_
  unfold Oper.wp
  simp [execOp, ho, resolve, invoke, builtin, hs, hx, hrun, Result.andThen]
  exact hK _ _ h
/-- whichever of the two slice types the second operand bears -/
theorem append_types (t t' ty e e' : TypeId) (ht : Tryz.prog.underlying t = some (.slice e)) (ht' : Tryz.prog.underlying t' = some (.slice e')) (b : Option Addr) (n c : Nat) (x : Value) (W : World) : (Builtin.append_ #[t, t'] ty #[.slice b n c, x]).run Tryz.prog W = (Builtin.append_ #[t, t] ty #[.slice b n c, x]).run Tryz.prog W := by
  simp [Builtin.append_, run_underlying ht, run_underlying ht']
/-- flags put behind a row: what the builtin leaves -/
theorem append_run (t t' ty : TypeId) (ht : Tryz.prog.underlying t = some (.slice 31)) (ht' : Tryz.prog.underlying t' = some (.slice 31)) (v f : Value) (S F : List Int) (n₀ : Nat) (W : World) (hS : FRow n₀ W v S) (hF : FArg W f F) (hn : S.length + F.length ≤ 1099511627776) (hb : n₀ ≤ W.heap.size) :
    ∃ u W2, (Builtin.append_ #[t, t'] ty #[v, f]).run Tryz.prog W = .ok u W2 ∧ FArg W2 u (S ++ F) ∧ Go.RowKit.Below n₀ W W2 := by
  obtain ⟨i0, hi, hz0, hz1, hz2⟩ := info_parts infoF
  obtain ⟨g0, c0, ev, _⟩ := hS.cells
  have HT : ∀ x, (Builtin.append_ #[t, t'] ty #[v, x]).run Tryz.prog W = (Builtin.append_ #[t, t] ty #[v, x]).run Tryz.prog W := fun x => by rw [ev]; exact append_types t t' ty _ _ ht ht' _ _ _ x W
  rw [HT]
  rcases hF.cases with ⟨rfl, rfl⟩ | ⟨ad, c, rfl, hc, hm, hcell⟩
  · refine ⟨v, W, ?_, by rw [List.append_nil]; exact hS.arg, Go.RowKit.Below.refl _ _⟩
    exact run_append_owned_none (P := Tryz.prog) (w := W) n₀ t ty 31 i0 1 ht hi v S.length (S.map encF) hS.owns
  · obtain ⟨v2, w2, hrun, hown, hgrow, _⟩ := run_append_own (P := Tryz.prog) W n₀ t ty 31 i0 (.int .u16 0) 1 2 ht hi hz0 hz1 hz2 rfl (by decide) v S.length (S.map encF) hS.owns ad F.length c (F.map encF) (by simp) (hcell W (Go.RowKit.Below.refl _ _)) (ones F) (by unfold maxLen; omega) (by omega) hb
    exact ⟨v2, w2, hrun, (farg_of_owns (by simpa using hown)).1, (Go.RowKit.Below.refl _ W).grown hgrow hb (fun k e => (hS.owns.lt k e).1)⟩

end So
end Go.Proofs.YtkefjaifaonlbaaGreatDoor
/- Contracts: rows of numbers; the law's ints, is and same. -/
namespace Go.Proofs.YtkefjaifaonlbaaGreatDoor
open Go.Sort Go.RowKit
namespace So

def encI (x : Int) : Value := .int .i64 x
/-- numbers in a block of their own, or nil -/
def IRow (n₀ : Nat) (W : World) (v : Value) (l : List Int) : Prop := W.ownsRow n₀ 3 1 v l.length (l.map encI)
theorem infoI : (Tryz.prog.info? 3).map (fun i => (i.zero, i.size, i.bytes)) = some (some (.int .i64 0), 1, 8) := by kernel_rfl
theorem IRow.nil (n₀ : Nat) (W : World) : IRow n₀ W (.slice none 0 0) [] := ⟨rfl, .inl ⟨rfl, rfl⟩⟩
theorem IRow.low {n₀ n₁ : Nat} {W : World} {v : Value} {l : List Int} (h : IRow n₀ W v l) (k : n₁ ≤ n₀) : IRow n₁ W v l := by
  obtain ⟨h1, h2 | ⟨g, cap, cur, e, hg, r⟩⟩ := h
  · exact ⟨h1, .inl h2⟩
  · exact ⟨h1, .inr ⟨g, cap, cur, e, Nat.le_trans k hg, r⟩⟩
theorem IRow.below {n₀ : Nat} {W W' : World} {v : Value} {l : List Int} (h : IRow n₀ W v l) (hB : Go.RowKit.Below W.heap.size W W') : IRow n₀ W' v l := by
  obtain ⟨h1, h2 | ⟨g, cap, cur, e, hg, hh, r⟩⟩ := h
  · exact ⟨h1, .inl h2⟩
  · exact ⟨h1, .inr ⟨g, cap, cur, e, hg, by rw [hB.block g (Array.getElem?_eq_some_iff.1 hh).1]; exact hh, r⟩⟩
theorem IRow.form {n₀ : Nat} {W : World} {v : Value} {l : List Int} (h : IRow n₀ W v l) : ∃ ao cap, v = .slice ao l.length cap ∧ l.length ≤ maxLen ∧ ∀ (k : Nat) x, l[k]? = some x → ∃ g, ao = some ⟨g, 0, none⟩ ∧ g < W.heap.size ∧ W.cell? ⟨g, k, none⟩ = some (.int .i64 x) := by
  obtain ⟨_, ⟨rfl, h0⟩ | ⟨g, cap, cur, e, hg, hh, h1, h2, h3, h4⟩⟩ := h
  · have : l = [] := List.eq_nil_of_length_eq_zero h0
    subst this
    exact ⟨none, 0, rfl, Nat.zero_le _, fun k x hx => by simp at hx⟩
  · refine ⟨_, cap, e, by omega, fun k x hx => ⟨g, rfl, (Array.getElem?_eq_some_iff.1 hh).1, ?_⟩⟩
    have hk : k < l.length := (List.getElem?_eq_some_iff.1 hx).1
    rw [Nat.mul_one] at h4
    have hv : (cur.toList.take l.length)[k]? = some (encI x) := by rw [h4]; simp [hx]
    rw [List.getElem?_take, if_pos hk] at hv
    simp only [World.cell?, hh]
    simpa [encI] using hv
theorem irow_push {w wr w1 : World} {e : TypeId} {v : Value} {n : Nat} {xs : List Value} {o : Obj} (hown : wr.ownsRow w.heap.size e 1 v n xs) (hB : Go.RowKit.Below w.heap.size w wr) (hg : (wr.alloc o).grownBy w1 v.ownBlock) : Go.RowKit.Below w.heap.size w w1 :=
  (hB.alloc hB.size o).grown hg (by have := hB.size; simp; omega) (fun k e => (hown.lt k e).1)
theorem take_snoc {L : List Int} {k : Nat} {x : Int} (hx : L[k]? = some x) : L.take (k + 1) = L.take k ++ [x] := by
  have hk : k < L.length := (List.getElem?_eq_some_iff.1 hx).1
  rw [List.take_succ_eq_append_getElem hk, (List.getElem?_eq_some_iff.1 hx).2]

end So
end Go.Proofs.YtkefjaifaonlbaaGreatDoor
/- Plain mathematics of numbers written in the base ten: no program is named here. -/
namespace Go.Proofs.YtkefjaifaonlbaaGreatDoor.Num

def isDig (c : UInt8) : Bool := decide (48 ≤ c.toNat) && decide (c.toNat ≤ 57)
def numVal (l : List UInt8) : Nat := l.foldl (fun n c => n * 10 + (c.toNat - 48)) 0
def lead (l : List UInt8) : Bool := (l.head? == some 48) && decide (1 < l.length)
def good (l : List UInt8) (most : Int) : Bool := !l.isEmpty && !lead l && l.all isDig && decide ((numVal l : Int) ≤ most)
def numN (l : List UInt8) (most : Int) : Int := if good l most then (numVal l : Int) else 0
def numE (l : List UInt8) (most : Int) : Int := if good l most then 0 else 13

theorem numVal_snoc (l : List UInt8) (c : UInt8) : numVal (l ++ [c]) = numVal l * 10 + (c.toNat - 48) := by
  simp [numVal, List.foldl_append]
theorem numVal_app (l r : List UInt8) : numVal l ≤ numVal (l ++ r) := by
  induction r generalizing l with
  | nil => simp
  | cons c r ih =>
    have h := ih (l ++ [c])
    rw [numVal_snoc] at h
    have e : l ++ c :: r = l ++ [c] ++ r := by simp
    rw [e]
    omega
theorem numVal_take (l : List UInt8) (k : Nat) : numVal (l.take k) ≤ numVal l := by
  have h := numVal_app (l.take k) (l.drop k)
  rwa [List.take_append_drop] at h
theorem take_snoc (s : ByteArray) (k : Nat) (h : k < s.size) : s.data.toList.take (k + 1) = s.data.toList.take k ++ [s[k]] := by
  rw [List.take_succ_eq_append_getElem (by simpa using h)]; rfl
theorem step (s : ByteArray) (k : Nat) (h : k < s.size) : numVal (s.data.toList.take (k + 1)) = numVal (s.data.toList.take k) * 10 + (s[k].toNat - 48) := by
  rw [take_snoc s k h, numVal_snoc]
theorem all_take (s : ByteArray) (k : Nat) (h : k < s.size) : (s.data.toList.take (k + 1)).all isDig = ((s.data.toList.take k).all isDig && isDig s[k]) := by
  rw [take_snoc s k h]; simp

theorem bad_of_empty (l : List UInt8) (most : Int) (h : l.isEmpty = true) : good l most = false := by simp [good, h]
theorem bad_of_lead (l : List UInt8) (most : Int) (h : lead l = true) : good l most = false := by simp [good, h]
theorem bad_of_digit (s : ByteArray) (most : Int) (k : Nat) (h : k < s.size) (hd : isDig s[k] = false) : good s.data.toList most = false := by
  have hm : s[k] ∈ s.data.toList := by
    have e : s[k] = s.data.toList[k]'(by simpa using h) := rfl
    rw [e]; exact List.getElem_mem _
  have : s.data.toList.all isDig = false := by
    rw [List.all_eq_false]
    exact ⟨_, hm, by simp [hd]⟩
  simp [good, this]
theorem bad_of_over (l : List UInt8) (most : Int) (k : Nat) (h : most < (numVal (l.take k) : Int)) : good l most = false := by
  have := numVal_take l k
  have h2 : decide ((numVal l : Int) ≤ most) = false := by simp; omega
  simp [good, h2]
theorem good_of (l : List UInt8) (most : Int) (h0 : l.isEmpty = false) (h1 : lead l = false) (h2 : l.all isDig = true) (h3 : (numVal l : Int) ≤ most) : good l most = true := by
  simp only [good, h0, h1, h2]; simp [h3]
theorem numN_bad {l : List UInt8} {most : Int} (h : good l most = false) : numN l most = 0 := by simp [numN, h]
theorem numE_bad {l : List UInt8} {most : Int} (h : good l most = false) : numE l most = 13 := by simp [numE, h]
theorem numN_good {l : List UInt8} {most : Int} (h : good l most = true) : numN l most = numVal l := by simp [numN, h]
theorem numE_good {l : List UInt8} {most : Int} (h : good l most = true) : numE l most = 0 := by simp [numE, h]
theorem full (s : ByteArray) (k : Nat) (h : s.size ≤ k) : s.data.toList.take k = s.data.toList := List.take_of_length_le (by simpa using h)
theorem isDig_of (c : UInt8) (h1 : 48 ≤ (c.toNat : Int)) (h2 : (c.toNat : Int) ≤ 57) : isDig c = true := by
  simp [isDig]; omega
theorem isDig_lo (c : UInt8) (h1 : (c.toNat : Int) < 48) : isDig c = false := by
  simp [isDig]; omega
theorem isDig_hi (c : UInt8) (h1 : 57 < (c.toNat : Int)) : isDig c = false := by
  simp [isDig]; omega
theorem dig_of_all (s : ByteArray) (k : Nat) (h : k < s.size) (ha : s.data.toList.all isDig = true) : (48 : Int) ≤ (s[k].toNat : Int) ∧ (s[k].toNat : Int) ≤ 57 := by
  have hm : s[k] ∈ s.data.toList := by
    have e : s[k] = s.data.toList[k]'(by simpa using h) := rfl
    rw [e]; exact List.getElem_mem _
  have := List.all_eq_true.1 ha _ hm
  simp [isDig] at this
  omega
end Go.Proofs.YtkefjaifaonlbaaGreatDoor.Num
