/- Small facts ahead of the law that marks written into an answer are seen in no other. -/
import Derived.Test.YtgmakjpicdgmgabDoorKpM
import Derived.Test.YtgmakjpicdgmgabDoorRowW
import Derived.Test.YtgmakjpicdgmgabDoorRowR
namespace Go.Proofs.YtgmakjpicdgmgabDoor
open Go.RowKit
namespace KpM
open FldW RowB EachW

def rowsAny (s : ByteArray) : List (Nat × List (List UInt8)) := if s.size ≤ 65536 then Rw.rowsOf s.data.toList else []
theorem rows_any (s : ByteArray) (w : World) (hM : MaxIs w) :
    Calls Tryd.prog 16 #[.string s] w fun e w' => ∃ v q, e = .returned (.tuple #[v, .int .i64 q]) ∧ RowsAre w.heap.size 40 w' v (rowsAny s) ∧ Below w.heap.size w w' := by
  by_cases hs : s.size ≤ 65536
  · refine (RowW.rows_short s w hs hM).mono ?_
    rintro e w' ⟨v, rfl, h, hB⟩
    exact ⟨v, 0, rfl, by rw [rowsAny, if_pos hs]; exact h, hB⟩
  · refine (RowW.rows_long s w (by omega)).mono ?_
    rintro e w' ⟨rfl, hw⟩
    obtain rfl := hw.symm
    exact ⟨_, 10, rfl, by rw [rowsAny, if_neg hs]; exact ⟨[], trivial, World.ownsRow_nil _ _ _ _, by simp, Exact.nil _⟩, Below.refl _ _⟩
theorem ref_any (s : ByteArray) (w : World) :
    Calls Tryd.prog 23 #[.string s] w fun e w' => ∃ v q, e = .returned (.tuple #[v, .int .i64 q]) ∧ RowsAre w.heap.size 57 w' v (rowsAny s) ∧ Below w.heap.size w w' := by
  by_cases hs : s.size ≤ 65536
  · refine (RowR.rows_short s w hs).mono ?_
    rintro e w' ⟨v, rfl, h, hB⟩
    exact ⟨v, 0, rfl, by rw [rowsAny, if_pos hs]; exact h, hB⟩
  · refine (RowR.rows_long s w (by omega)).mono ?_
    rintro e w' ⟨rfl, hw⟩
    obtain rfl := hw.symm
    exact ⟨_, 10, rfl, by rw [rowsAny, if_neg hs]; exact ⟨[], trivial, World.ownsRow_nil _ _ _ _, by simp, Exact.nil _⟩, Below.refl _ _⟩
theorem maxIs_on {w w' : World} (h : MaxIs w) (hB : Below w.heap.size w w') : MaxIs w' := by
  have h' := h
  obtain ⟨m, hm⟩ := h
  exact h'.below (World.block_lt_of_cell? w ⟨1, 0, none⟩ hm) hB
theorem rows_each (s : ByteArray) : ∀ r ∈ rowsAny s, r.2.length ≤ 65536 := by
  intro r hr
  unfold rowsAny at hr
  split at hr
  · rename_i hs
    obtain ⟨x, hx, hx2⟩ := List.mem_flatMap.1 hr
    obtain ⟨j, hj, hje⟩ := List.getElem_of_mem hx
    obtain ⟨_, l, h2, h3⟩ := Ln.num_get (Ln.linesOf s.data.toList) 1 j x (by rw [← hje]; exact List.getElem?_eq_getElem hj)
    have hl := Ln.linesOf_each s.data.toList (by simpa using hs) l (List.mem_of_getElem? h2)
    unfold Rw.rowOf at hx2
    split at hx2
    · cases hx2
    · simp at hx2
      rw [hx2]
      have h4 := Rw.keep_le (Fld.fieldsOf x.2.data.toList)
      have h5 := Fld.fieldsOf_len x.2.data.toList
      rw [h3, Rw.str_data] at h4 h5
      rw [h3, Rw.str_data]
      exact Nat.le_trans h4 (Nat.le_trans h5 hl)
  · cases hr
theorem rows_many (s : ByteArray) : (rowsAny s).length ≤ 65536 := by
  unfold rowsAny
  split
  · rename_i hs
    have h1 := Rw.rowsP_len (Ln.items s.data.toList)
    have h2 := Ln.linesOf_len s.data.toList
    rw [Ln.items_length] at h1
    simp at h2
    unfold Rw.rowsOf
    omega
  · simp
theorem add0 (g j : Nat) : (⟨g, 0, none⟩ : Addr).add j = ⟨g, j, none⟩ := by
  unfold Addr.add
  split
  · rename_i h; subst h; rfl
  · simp
/-- where the fields of row i lie -/
theorem fixed {n : Nat} {W : World} {v : Value} {E : List (Nat × Value)} {R : List (Nat × List (List UInt8))} (hF : Fits n W E R) (hO : W.ownsRow n 40 2 v E.length (cellsE E)) (hX : Exact 40 E) {i : Nat} {r : Nat × List (List UInt8)} (hr : R[i]? = some r) :
    ∃ ga cap gi, v = .slice (some ⟨ga, 0, none⟩) R.length cap ∧ R.length ≤ cap ∧ E[i]? = some (r.1, .slice (some ⟨gi, 0, none⟩) r.2.length r.2.length) := by
  have hl := hF.length
  have hi : i < E.length := by rw [hl]; exact (List.getElem?_eq_some_iff.1 hr).1
  have he : E[i]? = some E[i] := List.getElem?_eq_getElem hi
  obtain ⟨r2, h2, h3, g, cap, cur, e4, _⟩ := hF.get i _ he
  rw [hr] at h2
  cases h2
  obtain ⟨g5, n5, e5⟩ := hX rfl _ (List.mem_of_getElem? he)
  have hv : ∃ ga cap, v = .slice (some ⟨ga, 0, none⟩) R.length cap ∧ R.length ≤ cap := by
    obtain ⟨_, ⟨rfl, h0⟩ | ⟨g, cap, cur, rfl, hg, hh, hc, hm, hsz, htk⟩⟩ := hO
    · omega
    · exact ⟨g, cap, by rw [hl], by omega⟩
  obtain ⟨ga, cap2, e6, h6⟩ := hv
  refine ⟨ga, cap2, g, e6, h6, ?_⟩
  rw [he]
  congr 1
  refine Prod.ext h3 ?_
  rw [e4] at e5 ⊢
  injection e5 with a b c
  simp at b
  simp
  omega
theorem AM.cells {n : Nat} {W0 W : World} {E : List (Nat × Value)} {R : List (Nat × List (List UInt8))} {k j i ga gi N cap : Nat} {r : Nat × List (List UInt8)} (h : AM n W0 W E R k j) (hF : Fits n W0 E R) (hO : W0.ownsRow n 40 2 (.slice (some ⟨ga, 0, none⟩) N cap) E.length (cellsE E))
    (hr : R[i]? = some r) (he : E[i]? = some (r.1, .slice (some ⟨gi, 0, none⟩) r.2.length r.2.length)) :
    W.cell? ⟨ga, i * 2 + 1, none⟩ = some (.slice (some ⟨gi, 0, none⟩) r.2.length r.2.length) ∧ (∀ q, q < r.2.length → ∃ x, W.cell? ⟨gi, q, none⟩ = some (.string x)) ∧ ∀ q, W.frozen? ⟨gi, q, none⟩ = false := by
  have hO' := owns_up (by decide) hF hO h.other
  obtain ⟨_, c2⟩ := cellsE_get E i _ he
  have k2 := hO'.cells (g := ga) rfl _ _ c2
  rw [add0, Nat.mul_comm] at k2
  obtain ⟨g2, cap2, cur2, e2, _, hh, hc1, hc2, hc3, ht⟩ := h.rows i _ r he hr
  injection e2 with e3 e4 e5
  injection e3 with e6
  injection e6 with e7
  subst e7
  refine ⟨k2, fun q hq => ?_, fun q => frozen_of_row W gi q cur2 9 hh⟩
  have h1 : (cur2.toList.take (mkd k j i r.2).length)[q]? = ((mkd k j i r.2).map Value.string)[q]? := by rw [ht]
  have hq2 : q < (mkd k j i r.2).length := by omega
  rw [List.getElem?_take, if_pos hq2, List.getElem?_map, List.getElem?_eq_getElem hq2] at h1
  refine ⟨(mkd k j i r.2)[q], ?_⟩
  simp only [World.cell?, hh]
  simpa using h1
end KpM
end Go.Proofs.YtgmakjpicdgmgabDoor
