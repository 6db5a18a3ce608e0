/- Three rows of flags that are written into, and all that must stay as it was. No walk. -/
import Derived.Test.YtgaagbjbolfbjaaDoorStK
import Derived.Maps.AppendAt
import Derived.ArgAppend
namespace Go.Proofs.YtgaagbjbolfbjaaDoor
open Go.Sort Go.RowKit
namespace So
namespace Keep

structure Blk where
  g : Nat
  n : Nat
  cap : Nat
def Blk.v (b : Blk) : Value := .slice (some ⟨b.g, 0, none⟩) b.n b.cap
def mark (t : Nat) : Value := .int .u16 (50000 + (t : Int))
/-- the rows in front of i are marked, and row i as far as k -/
def Mk (A : List Blk) (i k : Nat) (W : World) : Prop := ∀ (t : Nat) b, A[t]? = some b → ∃ cur, W.heap[b.g]? = some (.cells cur 25 (0, 0)) ∧ cur.size = b.cap ∧ ∀ j, j < b.n → (t < i ∨ (t = i ∧ j < k)) → cur[j]? = some (mark t)
structure Sep (A : List Blk) (B : Nat) (D : List (Nat × Obj)) : Prop where
  lo : ∀ b ∈ A, B ≤ b.g ∧ b.n ≤ b.cap ∧ b.cap ≤ maxLen ∧ b.n ≤ 4194304
  dis : ∀ b ∈ A, ∀ d ∈ D, d.1 ≠ b.g
  one : ∀ (i j : Nat) bi bj, A[i]? = some bi → A[j]? = some bj → bi.g = bj.g → i = j
structure Good (A : List Blk) (V : World) (D : List (Nat × Obj)) (i k : Nat) (W : World) : Prop where
  bel : Go.RowKit.Below V.heap.size V W
  kept : ∀ d ∈ D, W.heap[d.1]? = some d.2
  marks : Mk A i k W
theorem set_other {W : World} {g k h : Nat} (hne : h ≠ g) (v : Value) : (W.setCell ⟨g, k, none⟩ v).heap[h]? = W.heap[h]? := by
  rw [setCell_eq]
  show (W.heap.modify g _)[h]? = _
  rw [Array.getElem?_modify, if_neg (fun e => hne e.symm)]
theorem Good.lt {A : List Blk} {V W : World} {D : List (Nat × Obj)} {i k : Nat} (h : Good A V D i k W) : ∀ b ∈ A, b.g < W.heap.size := fun b hb => by
  obtain ⟨t, ht⟩ := List.getElem?_of_mem hb
  obtain ⟨cur, h1, _⟩ := h.marks t b ht
  exact (Array.getElem?_eq_some_iff.1 h1).1
theorem Good.set {A : List Blk} {V W : World} {D : List (Nat × Obj)} {i k : Nat} {b : Blk} (h : Good A V D i k W) (s : Sep A V.heap.size D) (hb : A[i]? = some b) (hk : k < b.n) : Good A V D i (k + 1) (W.setCell ⟨b.g, k, none⟩ (mark i)) := by
  have hm := List.mem_of_getElem? hb
  refine ⟨h.bel.trans ((set_below _).mono (s.lo b hm).1), fun d hd => by rw [set_other (s.dis b hm d hd)]; exact h.kept d hd, fun t c hc => ?_⟩
  obtain ⟨cur, h1, h2, h3⟩ := h.marks t c hc
  by_cases e : c.g = b.g
  · obtain rfl := s.one t i c b hc hb e
    rw [hb] at hc
    cases hc
    refine ⟨_, set_heap h1 _, by simpa using h2, fun j hj hh => ?_⟩
    have := (s.lo b hm).2.1
    rw [Array.getElem?_setIfInBounds]
    split
    · next e2 => subst e2; rw [if_pos (by omega)]
    · next e2 => exact h3 j hj (.inr ⟨rfl, by omega⟩)
  · refine ⟨cur, by rw [set_other e]; exact h1, h2, fun j hj hh => h3 j hj ?_⟩
    rcases hh with hh | ⟨rfl, hh⟩
    · exact .inl hh
    · rw [hb] at hc
      cases hc
      exact absurd rfl e
theorem Good.next {A : List Blk} {V W : World} {D : List (Nat × Obj)} {i k : Nat} {b : Blk} (h : Good A V D i k W) (hb : A[i]? = some b) (hk : b.n ≤ k) : Good A V D (i + 1) 0 W := by
  refine ⟨h.bel, h.kept, fun t c hc => ?_⟩
  obtain ⟨cur, h1, h2, h3⟩ := h.marks t c hc
  refine ⟨cur, h1, h2, fun j hj hh => h3 j hj ?_⟩
  rcases hh with hh | ⟨_, hh⟩
  · by_cases e : t = i
    · subst e
      rw [hb] at hc
      cases hc
      exact .inr ⟨rfl, by omega⟩
    · exact .inl (by omega)
  · omega
theorem Good.below {A : List Blk} {V W W' : World} {D : List (Nat × Obj)} {i k : Nat} (h : Good A V D i k W) (hb : Go.RowKit.Below W.heap.size W W') : Good A V D i k W' := by
  refine ⟨h.bel.trans (hb.mono h.bel.size), fun d hd => ?_, fun t c hc => ?_⟩
  · have := h.kept d hd
    rw [hb.block d.1 (Array.getElem?_eq_some_iff.1 this).1]; exact this
  · obtain ⟨cur, h1, h2⟩ := h.marks t c hc
    exact ⟨cur, by rw [hb.block c.g (Array.getElem?_eq_some_iff.1 h1).1]; exact h1, h2⟩
theorem Good.alloc {A : List Blk} {V W : World} {D : List (Nat × Obj)} {i k : Nat} (h : Good A V D i k W) (o : Obj) : Good A V D i k (W.alloc o) := h.below ((Go.RowKit.Below.refl _ W).alloc (Nat.le_refl _) o)
theorem Good.put {A : List Blk} {V W : World} {D : List (Nat × Obj)} {i k : Nat} (h : Good A V D i k W) (o : Obj) : Good A V ((W.heap.size, o) :: D) i k (W.alloc o) := by
  refine ⟨(h.alloc o).bel, fun d hd => ?_, (h.alloc o).marks⟩
  rcases List.mem_cons.1 hd with rfl | hd
  · exact heap_alloc_new W o
  · exact (h.alloc o).kept d hd
theorem Sep.put {A : List Blk} {V W : World} {D : List (Nat × Obj)} {i k : Nat} (s : Sep A V.heap.size D) (h : Good A V D i k W) (o : Obj) : Sep A V.heap.size ((W.heap.size, o) :: D) := by
  refine ⟨s.lo, fun b hb d hd => ?_, s.one⟩
  rcases List.mem_cons.1 hd with rfl | hd
  · have := h.lt b hb
    show W.heap.size ≠ b.g
    omega
  · exact s.dis b hb d hd
theorem Good.old {A : List Blk} {V W : World} {D : List (Nat × Obj)} {x : Nat × Obj} {i k : Nat} (h : Good A V (x :: D) i k W) : Good A V D i k W := ⟨h.bel, fun d hd => h.kept d (List.mem_cons_of_mem _ hd), h.marks⟩
theorem Good.cell {A : List Blk} {V W : World} {D : List (Nat × Obj)} {i k : Nat} {b : Blk} {t : Nat} (h : Good A V D i k W) (s : Sep A V.heap.size D) (hb : A[t]? = some b) {j : Nat} (hj : j < b.n) : (∃ u, W.cell? ⟨b.g, j, none⟩ = some u) ∧ W.frozen? ⟨b.g, j, none⟩ = false := by
  obtain ⟨cur, h1, h2, _⟩ := h.marks t b hb
  have := (s.lo b (List.mem_of_getElem? hb)).2.1
  constructor
  · refine ⟨cur[j]'(by omega), ?_⟩
    rw [cell_of_row W b.g j cur _ (0, 0) h1]
    exact Array.getElem?_eq_getElem (by omega)
  · simp [World.frozen?, h1]
theorem Good.seen {A : List Blk} {V W : World} {D : List (Nat × Obj)} {i : Nat} {b : Blk} {t : Nat} (h : Good A V D i 0 W) (hb : A[t]? = some b) (hi : t < i) {j : Nat} (hj : j < b.n) : W.cell? ⟨b.g, j, none⟩ = some (mark t) := by
  obtain ⟨cur, h1, h2, h3⟩ := h.marks t b hb
  rw [cell_of_row W b.g j cur _ (0, 0) h1]
  exact h3 j hj (.inl hi)
/-- a row that is grown: it lies in block i, or in one that is new -/
def Row (A : List Blk) (V : World) (D : List (Nat × Obj)) (b : Blk) (l : Value) (N : Nat) (W : World) : Prop := ∃ xs, W.ownsRow V.heap.size 25 1 l N xs ∧ b.n ≤ N ∧ ∃ g, l.ownBlock = some g ∧ (g = b.g ∨ ((∀ c ∈ A, c.g ≠ g) ∧ ∀ d ∈ D, d.1 ≠ g))
theorem Good.row {A : List Blk} {V W : World} {D : List (Nat × Obj)} {i k t : Nat} {b : Blk} (h : Good A V D i k W) (s : Sep A V.heap.size D) (hb : A[t]? = some b) : Row A V D b b.v b.n W := by
  obtain ⟨cur, h1, h2, _⟩ := h.marks t b hb
  obtain ⟨l1, l2, l3, _⟩ := s.lo b (List.mem_of_getElem? hb)
  exact ⟨cur.toList.take b.n, ⟨by simp; omega, .inr ⟨b.g, b.cap, cur, rfl, l1, h1, l2, l3, by omega, by rw [Nat.mul_one]⟩⟩, Nat.le_refl _, b.g, rfl, .inl rfl⟩
theorem Row.len {A : List Blk} {V W : World} {D : List (Nat × Obj)} {b : Blk} {l : Value} {N : Nat} (h : Row A V D b l N W) : ∃ ao c, l = .slice ao N c := by
  obtain ⟨xs, ⟨_, ⟨e, e2⟩ | ⟨g, cap, cur, e, _⟩⟩, _⟩ := h
  · exact ⟨none, 0, by rw [e, e2]⟩
  · exact ⟨_, cap, e⟩
/-- one flag more behind the row -/
theorem row_push {A : List Blk} {V W : World} {D : List (Nat × Obj)} {i k t : Nat} {b : Blk} {l : Value} {N : Nat} (y : Value) (hy : y.oneCell' = true) (ty : TypeId) (h : Good A V D i k W) (s : Sep A V.heap.size D) (hb : A[t]? = some b) (hr : Row A V D b l N W) (hN : N ≤ 1099511627776) :
    ∃ v' W', (Builtin.append_ #[22, 22] ty #[l, .slice (some ⟨W.heap.size, 0, none⟩) 1 1]).run Tryd.prog (W.alloc (.cells #[y] 25)) = .ok v' W' ∧ Good A V D i k W' ∧ Row A V D b v' (N + 1) W' := by
  obtain ⟨i0, hi, hz0, hz1, hz2⟩ := info_parts infoF
  obtain ⟨xs, ho, hn, g, hg, hgg⟩ := hr
  have ha := h.alloc (.cells #[y] 25)
  have ho' := ho.alloc (.cells #[y] 25)
  have hbm := List.mem_of_getElem? hb
  obtain ⟨hx, ⟨e, e2⟩ | ⟨g', cap, cur, e, hbg, hh, hnc, hcm, hcs, htk⟩⟩ := ho'
  · rw [e] at hg; cases hg
  · subst e
    obtain rfl : g' = g := by simpa [Value.ownBlock] using hg
    have hlt : g' < W.heap.size := (ho.lt g' rfl).2
    have hnews := cell_one_new W y 25
    have h1 : ∀ u ∈ [y], u.oneCell' = true := fun u hu => by simp at hu; subst hu; exact hy
    have hVW : V.heap.size ≤ (W.alloc (.cells #[y] 25)).heap.size := ha.bel.size
    by_cases hroom : N + 1 ≤ cap
    · obtain ⟨W', hrun, hown, hgr⟩ := run_append_fits (P := Tryd.prog) (W.alloc (.cells #[y] 25)) V.heap.size 22 ty 25 i0 1 Tryd.underlying22 hi hz1 g' N cap xs ⟨hx, .inr ⟨g', cap, cur, rfl, hbg, hh, hnc, hcm, hcs, htk⟩⟩ ⟨W.heap.size, 0, none⟩ 1 1 [y] rfl hnews h1 hroom
      refine ⟨_, W', hrun, ⟨ha.bel.grown hgr hVW (fun q e => by cases e; exact hbg), fun d hd => ?_, fun u c hc => ?_⟩, xs ++ [y], hown, by omega, g', rfl, hgg⟩
      · have hd1 := ha.kept d hd
        rw [hgr.block d.1 (Array.getElem?_eq_some_iff.1 hd1).1 (fun e => by
          injection e with e
          rcases hgg with hgg | hgg
          · exact s.dis b hbm d hd (e.trans hgg)
          · exact hgg.2 d hd e)]
        exact hd1
      · obtain ⟨cu, k1, k2, k3⟩ := ha.marks u c hc
        by_cases ec : c.g = g'
        · have hcb : u = t := by
            rcases hgg with hgg | hgg
            · exact s.one u t c b hc hb (ec.trans hgg)
            · exact absurd ec (hgg.1 c (List.mem_of_getElem? hc))
          subst hcb
          rw [hb] at hc
          cases hc
          rw [ec, hh] at k1
          injection k1 with k1
          injection k1 with k1 _ _
          subst k1
          obtain ⟨_, ⟨e3, _⟩ | ⟨g3, cap3, cur3, e3, _, hh3, _, _, hcs3, htk3⟩⟩ := hown
          · cases e3
          · injection e3 with e3 _ e4
            injection e3 with e3
            injection e3 with e3 _ _
            subst e3
            subst e4
            refine ⟨cur3, by rw [ec]; exact hh3, by omega, fun j hj hh2 => ?_⟩
            rw [← k3 j hj hh2]
            have a1 : (cur3.toList.take ((N + 1) * 1))[j]? = (xs ++ [y])[j]? := by rw [htk3]
            have a2 : (cur.toList.take (N * 1))[j]? = xs[j]? := by rw [htk]
            rw [List.getElem?_take, if_pos (by omega), Array.getElem?_toList] at a1
            rw [List.getElem?_take, if_pos (by omega), Array.getElem?_toList] at a2
            rw [a1, a2, List.getElem?_append_left (by rw [hx]; omega)]
        · exact ⟨cu, by rw [hgr.block c.g (Array.getElem?_eq_some_iff.1 k1).1 (fun e => ec (by injection e with e))]; exact k1, k2, k3⟩
    · have holds : ∀ j u, xs[j]? = some u → (W.alloc (.cells #[y] 25)).cell? ((⟨g', 0, none⟩ : Addr).add j) = some u := (ho.alloc (.cells #[y] 25)).cells (g := g') rfl
      obtain ⟨v', W', hrun, hown, hgr⟩ := run_append_arg_grows (P := Tryd.prog) (W.alloc (.cells #[y] 25)) 22 ty 25 i0 (.int .u16 0) 1 2 Tryd.underlying22 hi hz0 hz1 hz2 rfl (by decide) ⟨g', 0, none⟩ N cap xs hx holds ⟨W.heap.size, 0, none⟩ 1 1 [y] rfl hnews (by omega) (by unfold maxLen; omega) (by omega)
      have hbel : Go.RowKit.Below (W.alloc (.cells #[y] 25)).heap.size (W.alloc (.cells #[y] 25)) W' := below_none hgr
      have hG := ha.below hbel
      obtain ⟨hx4, ⟨e4, e5⟩ | ⟨g4, cap4, cur4, e4, hb4, r4⟩⟩ := hown
      · omega
      · refine ⟨v', W', hrun, hG, xs ++ [y], ⟨hx4, .inr ⟨g4, cap4, cur4, e4, Nat.le_trans hVW hb4, r4⟩⟩, by omega, g4, by rw [e4]; rfl, .inr ⟨fun c hc e => ?_, fun d hd e => ?_⟩⟩
        · have := ha.lt c hc
          omega
        · have := (Array.getElem?_eq_some_iff.1 (ha.kept d hd)).1
          omega
theorem good_nil (V : World) : Good [] V [] 0 0 V := ⟨Go.RowKit.Below.refl _ _, (fun d hd => by cases hd), (fun t b hb => by simp at hb)⟩
theorem sep_nil (B : Nat) : Sep [] B [] := ⟨(fun b hb => by cases hb), (fun b hb => by cases hb), (fun i j bi bj hb => by simp at hb)⟩
theorem Good.pushA {A : List Blk} {V W W' : World} {v : Value} {l : List Int} (h : Good A V [] 0 0 W) (s : Sep A V.heap.size []) (hB : Go.RowKit.Below W.heap.size W W') (hF : FRow W.heap.size W' v l) (hl : l.length ≤ 4194304) : ∃ g n c, v = .slice (some ⟨g, 0, none⟩) n c ∧ Good (A ++ [⟨g, n, c⟩]) V [] 0 0 W' ∧ Sep (A ++ [⟨g, n, c⟩]) V.heap.size [] := by
  obtain ⟨g, cap, cur, e, hg, hh, h1, h2, h3, _⟩ := hF
  have hG := h.below hB
  refine ⟨g, l.length, cap, e, ⟨hG.bel, hG.kept, fun t b hb => ?_⟩, fun b hb => ?_, (fun b hb d hd => by cases hd), fun i j bi bj hi hj he => ?_⟩
  · by_cases ht : t < A.length
    · rw [List.getElem?_append_left ht] at hb
      exact hG.marks t b hb
    · rw [List.getElem?_append_right (by omega)] at hb
      have := List.mem_of_getElem? hb
      simp at this
      subst this
      exact ⟨cur, hh, h3.symm, fun j hj hk => by omega⟩
  · rcases List.mem_append.1 hb with hb | hb
    · exact s.lo b hb
    · simp at hb
      subst hb
      exact ⟨Nat.le_trans h.bel.size hg, h1, h2, hl⟩
  · have key : ∀ (i : Nat) b, (A ++ [⟨g, l.length, cap⟩])[i]? = some b → (i < A.length ∧ A[i]? = some b ∧ b.g < W.heap.size) ∨ (i = A.length ∧ b.g = g) := fun i b hb => by
      by_cases ht : i < A.length
      · rw [List.getElem?_append_left ht] at hb
        exact .inl ⟨ht, hb, h.lt b (List.mem_of_getElem? hb)⟩
      · have hlt := (List.getElem?_eq_some_iff.1 hb).1
        simp at hlt
        rw [List.getElem?_append_right (by omega)] at hb
        have := List.mem_of_getElem? hb
        simp at this
        subst this
        exact .inr ⟨by omega, rfl⟩
    rcases key i bi hi with ⟨k1, k2, k3⟩ | ⟨k1, k2⟩ <;> rcases key j bj hj with ⟨m1, m2, m3⟩ | ⟨m1, m2⟩
    · exact s.one i j bi bj k2 m2 he
    · omega
    · omega
    · omega
theorem Good.pushD {A : List Blk} {V W W' : World} {D : List (Nat × Obj)} {v : Value} {l : List Int} (h : Good A V D 0 0 W) (s : Sep A V.heap.size D) (hB : Go.RowKit.Below W.heap.size W W') (hF : FRow W.heap.size W' v l) : ∃ d : Nat × Obj, Good A V (d :: D) 0 0 W' ∧ Sep A V.heap.size (d :: D) ∧ ∀ W'' : World, W''.heap[d.1]? = some d.2 → FArg W'' v l := by
  obtain ⟨g, cap, cur, e, hg, hh, h1, h2, h3, h4⟩ := hF
  have hG := h.below hB
  refine ⟨(g, .cells cur 25 (0, 0)), ⟨hG.bel, fun d hd => ?_, hG.marks⟩, ⟨s.lo, fun b hb d hd => ?_, s.one⟩, fun W'' hW => FRow.arg (n₀ := 0) ⟨g, cap, cur, e, Nat.zero_le _, hW, h1, h2, h3, h4⟩⟩
  · rcases List.mem_cons.1 hd with rfl | hd
    · exact hh
    · exact hG.kept d hd
  · rcases List.mem_cons.1 hd with rfl | hd
    · have := h.lt b hb
      show g ≠ b.g
      omega
    · exact s.dis b hb d hd
theorem new_cells (W : World) (C : Array Value) (t : TypeId) : ∀ j u, C.toList[j]? = some u → (W.alloc (.cells C t)).cell? ((⟨W.heap.size, 0, none⟩ : Addr).add j) = some u := by
  intro j u hu
  rw [Go.WideShapes.add_plain, Nat.zero_add, cell_of_row _ _ j C t (0, 0) (heap_alloc_new W _), ← Array.getElem?_toList]
  exact hu
theorem lit_arg (W : World) : FArg (W.alloc (.cells #[.int .u16 61, .int .u16 62, .int .u16 63] 25)) (.slice (some ⟨W.heap.size, 0, none⟩) 3 3) [61, 62, 63] := by
  refine ⟨_, 3, rfl, by decide, by decide, (fun h => by cases h), fun _ => ⟨W.heap.size, 0, rfl, by simp, fun j x hx => ?_⟩⟩
  rw [cell_of_row _ _ (0 + j) _ _ (0, 0) (heap_alloc_new W _)]
  have hj := (List.getElem?_eq_some_iff.1 hx).1
  simp at hj
  match j, hj, hx with
  | 0, _, hx => simp at hx; subst hx; rfl
  | 1, _, hx => simp at hx; subst hx; rfl
  | 2, _, hx => simp at hx; subst hx; rfl
/-- the copy with three flags behind it: its front, and what is behind -/
theorem room_of {W : World} {B : Nat} {v : Value} {S : List Int} (h : W.ownsRow B 25 1 v (S.length + 3) (S.map encF ++ [.int .u16 61, .int .u16 62, .int .u16 63])) :
    ∃ g c, v = .slice (some ⟨g, 0, none⟩) (S.length + 3) c ∧ S.length + 3 ≤ c ∧ c ≤ maxLen ∧ FArg W (.slice (some ⟨g, 0, none⟩) S.length c) S ∧ FArg W (.slice (some ⟨g, S.length, none⟩) 3 (c - S.length)) [61, 62, 63] := by
  obtain ⟨hx, ⟨_, e2⟩ | ⟨g, c, cur, e, _, hh, h1, h2, h3, h4⟩⟩ := h
  · omega
  · have hgl := (Array.getElem?_eq_some_iff.1 hh).1
    have hc : ∀ (j : Nat) u, (S.map encF ++ [Value.int .u16 61, .int .u16 62, .int .u16 63])[j]? = some u → W.cell? ⟨g, j, none⟩ = some u := fun j u hu => by
      rw [cell_of_row W g j cur _ (0, 0) hh]
      rw [← h4, List.getElem?_take] at hu
      split at hu
      · rw [← Array.getElem?_toList]; exact hu
      · cases hu
    refine ⟨g, c, e, h1, h2, ⟨_, c, rfl, by omega, h2, (fun h => by cases h), fun _ => ⟨g, 0, rfl, hgl, fun j x hx => ?_⟩⟩, ⟨_, c - S.length, rfl, by simp; omega, by omega, (fun h => by cases h), fun _ => ⟨g, S.length, rfl, hgl, fun j x hx => ?_⟩⟩⟩
    · refine hc (0 + j) _ ?_
      have hj := (List.getElem?_eq_some_iff.1 hx).1
      rw [Nat.zero_add, List.getElem?_append_left (by simpa using hj), List.getElem?_map, hx]
      rfl
    · refine hc (S.length + j) _ ?_
      rw [List.getElem?_append_right (by simp), List.length_map, Nat.add_sub_cancel_left]
      have hj := (List.getElem?_eq_some_iff.1 hx).1
      simp at hj
      match j, hj, hx with
      | 0, _, hx => simp at hx; subst hx; rfl
      | 1, _, hx => simp at hx; subst hx; rfl
      | 2, _, hx => simp at hx; subst hx; rfl
/-- the list of the three rows -/
theorem list_cell {W : World} {q : Nat} {a b c : Blk} (h : W.heap[q]? = some (.cells #[a.v, b.v, c.v] 22 (0, 0))) {i : Nat} {x : Blk} (hx : [a, b, c][i]? = some x) : W.cell? ⟨q, i, none⟩ = some x.v := by
  rw [cell_of_row W q i _ _ (0, 0) h]
  match i, hx with
  | 0, hx => simp at hx; subst hx; rfl
  | 1, hx => simp at hx; subst hx; rfl
  | 2, hx => simp at hx; subst hx; rfl
  | i + 3, hx => simp at hx
theorem twin_owns {n₀ : Nat} {W : World} {u : Value} {L : List Int} (h : (u = .slice none 0 0 ∧ L = []) ∨ FRow n₀ W u L) : W.ownsRow n₀ 25 1 u L.length (L.map encF) := by
  rcases h with ⟨rfl, rfl⟩ | h
  · exact nil_owns _ _ _
  · exact h.owns
end Keep
end So
end Go.Proofs.YtgaagbjbolfbjaaDoor
