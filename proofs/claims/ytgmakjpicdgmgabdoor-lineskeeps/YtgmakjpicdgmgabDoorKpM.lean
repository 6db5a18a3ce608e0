/- What it is that marks lie in some of the rows of a list, and what else stays; no walk. -/
import Derived.Test.YtgmakjpicdgmgabDoorRowB
import Derived.Test.YtgmakjpicdgmgabDoorSRow
namespace Go.Proofs.YtgmakjpicdgmgabDoor
open Go.RowKit
namespace KpM
open FldW RowB

def mark : ByteArray := ⟨#[109, 97, 114, 107]⟩
def markL : List UInt8 := [109, 97, 114, 107]
theorem str_mark : Fld.str markL = mark := rfl
/-- what the fields of row i are, where rows ahead of k are marked, and j fields of row k. -/
def mkd (k j i : Nat) (fs : List (List UInt8)) : List ByteArray := if i < k then List.replicate fs.length mark else if i = k then List.replicate j mark ++ (fs.map Fld.str).drop j else fs.map Fld.str
theorem mk_zero (i : Nat) (fs : List (List UInt8)) : mkd 0 0 i fs = fs.map Fld.str := by
  unfold mkd
  rw [if_neg (by omega)]
  split <;> simp
theorem mk_end (k i : Nat) (fs : List (List UInt8)) (l : Nat) (hl : i = k → l = fs.length) : mkd k l i fs = mkd (k + 1) 0 i fs := by
  unfold mkd
  by_cases h : i < k
  · rw [if_pos h, if_pos (by omega)]
  · rw [if_neg h]
    by_cases h2 : i = k
    · rw [if_pos h2, if_pos (by omega), hl h2]
      simp
    · rw [if_neg h2, if_neg (by omega)]
      split <;> simp
theorem mk_all (k i : Nat) (fs : List (List UInt8)) (h : i < k) : mkd k 0 i fs = (List.replicate fs.length markL).map Fld.str := by
  unfold mkd
  rw [if_pos h, List.map_replicate, str_mark]
theorem mk_length (k j i : Nat) (fs : List (List UInt8)) (h : i = k → j ≤ fs.length) : (mkd k j i fs).length = fs.length := by
  unfold mkd
  split
  · simp
  · split
    · rename_i h2
      have := h h2
      simp
      omega
    · simp
theorem mk_other (k j j' i : Nat) (fs : List (List UInt8)) (h : i ≠ k) : mkd k j i fs = mkd k j' i fs := by
  unfold mkd
  rw [if_neg h, if_neg h]
theorem mk_set (k j : Nat) (fs : List (List UInt8)) (h : j < fs.length) : (mkd k j k fs).set j mark = mkd k (j + 1) k fs := by
  unfold mkd
  rw [if_neg (by omega), if_pos rfl, if_neg (by omega), if_pos rfl]
  apply List.ext_getElem?
  intro i
  rw [List.getElem?_set]
  by_cases hi : j = i
  · subst hi
    rw [if_pos rfl, if_pos (by simp; omega), List.getElem?_append_left (by simp)]
    simp
  · rw [if_neg hi]
    by_cases h1 : i < j
    · rw [List.getElem?_append_left (by simpa using h1), List.getElem?_append_left (by simp; omega)]
      simp [h1, Nat.lt_succ_of_lt h1]
    · rw [List.getElem?_append_right (by simp; omega), List.getElem?_append_right (by simp; omega)]
      simp only [List.length_replicate, List.getElem?_drop]
      congr 1
      omega

/-- the memory, with rows ahead of k marked, and j fields of row k -/
structure AM (n : Nat) (W0 W : World) (E : List (Nat × Value)) (R : List (Nat × List (List UInt8))) (k j : Nat) : Prop where
  size : W.heap.size = W0.heap.size
  other : ∀ g, (∀ e ∈ E, e.2.ownBlock ≠ some g) → W.heap[g]? = W0.heap[g]?
  below : Below n W0 W
  rows : ∀ i e r, E[i]? = some e → R[i]? = some r → StrRow n W e.2 (mkd k j i r.2)

theorem AM.start {n : Nat} {W0 : World} {E : List (Nat × Value)} {R : List (Nat × List (List UInt8))} (hF : Fits n W0 E R) : AM n W0 W0 E R 0 0 := by
  refine ⟨rfl, fun _ _ => rfl, Below.refl _ _, fun i e r he hr => ?_⟩
  obtain ⟨r2, h2, _, h3⟩ := hF.get i e he
  rw [hr] at h2
  cases h2
  rw [mk_zero]
  exact h3
theorem AM.row_end {n : Nat} {W0 W : World} {E : List (Nat × Value)} {R : List (Nat × List (List UInt8))} {k l : Nat} (h : AM n W0 W E R k l) (hl : ∀ r, R[k]? = some r → l = r.2.length) : AM n W0 W E R (k + 1) 0 :=
  ⟨h.size, h.other, h.below, fun i e r he hr => by rw [← mk_end k i r.2 l (fun e => hl r (by rw [← e]; exact hr))]; exact h.rows i e r he hr⟩
theorem own_inj {E : List (Nat × Value)} (hN : (E.map fun e => e.2.ownBlock).Nodup) {i k : Nat} {a b : Nat × Value} (hi : E[i]? = some a) (hk : E[k]? = some b) (h : a.2.ownBlock = b.2.ownBlock) : i = k := by
  obtain ⟨h1, h1'⟩ := List.getElem?_eq_some_iff.1 hi
  obtain ⟨h2, h2'⟩ := List.getElem?_eq_some_iff.1 hk
  rw [List.Nodup, List.pairwise_iff_getElem] at hN
  rcases Nat.lt_trichotomy i k with hl | hl | hl
  · have := hN i k (by simpa using h1) (by simpa using h2) hl
    simp [h1', h2', h] at this
  · exact hl
  · have := hN k i (by simpa using h2) (by simpa using h1) hl
    simp [h1', h2', h] at this
theorem AM.next {n : Nat} {W0 W : World} {E : List (Nat × Value)} {R : List (Nat × List (List UInt8))} {k j g : Nat} {e : Nat × Value} {r : Nat × List (List UInt8)} (h : AM n W0 W E R k j) (hN : (E.map fun e => e.2.ownBlock).Nodup)
    (he : E[k]? = some e) (hr : R[k]? = some r) (hj : j < r.2.length) (hg : e.2.ownBlock = some g) : AM n W0 (W.setCell ⟨g, j, none⟩ (.string mark)) E R k (j + 1) := by
  obtain ⟨g1, cap, cur, e2, hn, hh, hc1, hc2, hc3, ht⟩ := h.rows k e r he hr
  obtain rfl : g1 = g := by rw [e2] at hg; simpa [Value.ownBlock] using hg
  have hl : (mkd k j k r.2).length = r.2.length := mk_length k j k r.2 (fun _ => by omega)
  have hl' : (mkd k (j + 1) k r.2).length = r.2.length := mk_length k (j + 1) k r.2 (fun _ => by omega)
  refine ⟨by rw [World.size_setCell]; exact h.size, fun g hgo => ?_, h.below.setCell (p := ⟨g1, j, none⟩) hn _, fun i e' r' he' hr' => ?_⟩
  · rw [Below.heap_setCell]
    · exact h.other g hgo
    · intro e3
      subst e3
      exact hgo e (List.mem_of_getElem? he) hg
  · by_cases hik : i = k
    · subst hik
      rw [he] at he'
      cases he'
      rw [hr] at hr'
      cases hr'
      refine ⟨g1, cap, cur.setIfInBounds j (.string mark), by rw [hl', ← hl]; exact e2, hn, heap_setCell_same W g1 j cur 9 _ hh, by omega, hc2, by simpa using hc3, ?_⟩
      rw [← mk_set i j r.2 hj, List.length_set, List.map_set, ← ht]
      apply List.ext_getElem?
      intro q
      simp only [List.getElem?_take, Array.toList_setIfInBounds, List.getElem?_set, List.length_take]
      by_cases hq : q < (mkd i j i r.2).length
      · rw [if_pos hq]
        by_cases hjq : j = q
        · subst hjq
          rw [if_pos rfl, if_pos rfl]
          rw [if_pos (by simp; omega), if_pos (by simp; omega)]
        · rw [if_neg hjq, if_neg hjq, if_pos hq]
      · rw [if_neg hq]
        by_cases hjq : j = q
        · subst hjq
          omega
        · rw [if_neg hjq, if_neg hq]
    · rw [mk_other k (j + 1) j i r'.2 hik]
      obtain ⟨g2, cap2, cur2, e4, hn2, hh2, r2⟩ := h.rows i e' r' he' hr'
      refine ⟨g2, cap2, cur2, e4, hn2, ?_, r2⟩
      rw [Below.heap_setCell]
      · exact hh2
      · intro e5
        change g2 = g1 at e5
        subst e5
        exact hik (own_inj hN he' he (by rw [hg, e4]; rfl))
/-- the blocks of the rows are kept from those that follow -/
theorem rows_up {n : Nat} {eR : TypeId} {W0 W : World} {v : Value} {R : List (Nat × List (List UInt8))} (h : RowsAre n eR W0 v R) (hk : ∀ g, n ≤ g → W.heap[g]? = W0.heap[g]?) : RowsAre n eR W v R := by
  obtain ⟨E, hF, hO, hN⟩ := h
  refine ⟨E, ?_, ?_, hN⟩
  · clear hO hN
    revert R
    induction E with
    | nil => intro R hF; cases R with | nil => trivial | cons _ _ => exact hF.elim
    | cons e E ih =>
      intro R hF
      cases R with
      | nil => exact hF.elim
      | cons r R =>
        obtain ⟨⟨h1, g, cap, cur, e2, hg, hh, r2⟩, h3⟩ := hF
        exact ⟨⟨h1, g, cap, cur, e2, hg, (hk g hg).trans hh, r2⟩, ih h3⟩
  · obtain ⟨hl, h | ⟨g, cap, cur, rfl, hg, hh, r⟩⟩ := hO
    · exact ⟨hl, .inl h⟩
    · exact ⟨hl, .inr ⟨g, cap, cur, rfl, hg, (hk g hg).trans hh, r⟩⟩
/-- the rows, all marked -/
def marked (R : List (Nat × List (List UInt8))) : List (Nat × List (List UInt8)) := R.map fun r => (r.1, List.replicate r.2.length markL)
theorem fits_of {n : Nat} {W : World} : ∀ {E : List (Nat × Value)} {R : List (Nat × List (List UInt8))}, E.length = R.length → (∀ (i : Nat) (e : Nat × Value) (r : Nat × List (List UInt8)), E[i]? = some e → R[i]? = some r → e.1 = r.1 ∧ StrRow n W e.2 (r.2.map Fld.str)) → Fits n W E R
  | [], [], _, _ => trivial
  | [], _ :: _, h, _ => by simp at h
  | _ :: _, [], h, _ => by simp at h
  | e :: E, r :: R, h, k => ⟨k 0 e r rfl rfl, fits_of (by simpa using h) fun i e' r' he hr => k (i + 1) e' r' (by simpa using he) (by simpa using hr)⟩
theorem owns_up {n : Nat} {eR : TypeId} (he : eR ≠ 9) {W0 W : World} {v : Value} {E : List (Nat × Value)} {R : List (Nat × List (List UInt8))} (hF : Fits n W0 E R) (hO : W0.ownsRow n eR 2 v E.length (cellsE E)) (hk : ∀ g, (∀ e ∈ E, e.2.ownBlock ≠ some g) → W.heap[g]? = W0.heap[g]?) : W.ownsRow n eR 2 v E.length (cellsE E) := by
  obtain ⟨hl, h | ⟨g, cap, cur, rfl, hg, hh, r⟩⟩ := hO
  · exact ⟨hl, .inl h⟩
  · refine ⟨hl, .inr ⟨g, cap, cur, rfl, hg, (hk g fun e hm ho => ?_).trans hh, r⟩⟩
    obtain ⟨j, hj, hje⟩ := List.getElem_of_mem hm
    obtain ⟨_, _, _, g3, cap3, cur3, e3, _, h3, _⟩ := hF.get j e (by rw [List.getElem?_eq_getElem hj, hje])
    rw [e3] at ho
    obtain rfl : g3 = g := by simpa [Value.ownBlock] using ho
    rw [hh] at h3
    have := Option.some.inj h3
    injection this with _ h4 _
    exact he h4
theorem AM.all {n : Nat} {eR : TypeId} (he9 : eR ≠ 9) {W0 W : World} {v : Value} {E : List (Nat × Value)} {R : List (Nat × List (List UInt8))} (h : AM n W0 W E R R.length 0) (hF : Fits n W0 E R) (hO : W0.ownsRow n eR 2 v E.length (cellsE E)) (hN : (E.map fun e => e.2.ownBlock).Nodup ∧ Exact eR E) : RowsAre n eR W v (marked R) := by
  refine ⟨E, fits_of (by rw [hF.length]; simp [marked]) fun i e r he hr => ?_, owns_up he9 hF hO h.other, hN⟩
  have hr' : ∃ r0, R[i]? = some r0 ∧ r = (r0.1, List.replicate r0.2.length markL) := by
    rw [marked, List.getElem?_map] at hr
    cases h0 : R[i]? with
    | none => rw [h0] at hr; simp at hr
    | some r0 => rw [h0] at hr; simp at hr; exact ⟨r0, rfl, hr.symm⟩
  obtain ⟨r0, h0, rfl⟩ := hr'
  obtain ⟨r2, h2, h3, _⟩ := hF.get i e he
  rw [h0] at h2
  cases h2
  refine ⟨h3, ?_⟩
  have := h.rows i e r0 he h0
  rw [mk_all _ _ _ (List.getElem?_eq_some_iff.1 h0).1] at this
  exact this
end KpM
end Go.Proofs.YtgmakjpicdgmgabDoor
