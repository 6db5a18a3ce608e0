/- What CondParts leans on: patterns joined, a list of two patterns in memory. -/
import Derived.Test.YtgaagbjbolfbjabJnW
namespace Go.Proofs.Ytgaagbjbolfbjab
open Go.RowKit
namespace Pt
open Cd

theorem each_app (fs gs : List (UInt8 → Bool)) (l : List UInt8) (h : fs.length ≤ l.length) : each (fs ++ gs) l = (each fs l && each gs (l.drop fs.length)) := by
  induction fs generalizing l with
  | nil => cases l <;> simp [each]
  | cons f t ih =>
    cases l with
    | nil => simp at h
    | cons b u =>
      rw [List.cons_append, List.length_cons, List.drop_succ_cons]
      simp only [each]
      rw [ih u (by simpa using h), Bool.and_assoc]
theorem each_tk (fs : List (UInt8 → Bool)) (l : List UInt8) (n : Nat) (h : fs.length ≤ n) : each fs (l.take n) = each fs l := by
  induction fs generalizing l n with
  | nil => cases l <;> cases n <;> simp [each]
  | cons f t ih =>
    cases l with
    | nil => simp
    | cons b u =>
      cases n with
      | zero => simp at h
      | succ n =>
        rw [List.take_succ_cons]
        simp only [each]
        rw [ih u n (by simpa using h)]
theorem startsB_each (fs : List (UInt8 → Bool)) (l : List UInt8) (h : fs.length ≤ l.length) : startsB fs l = each fs l := by
  rw [startsB, decide_eq_true h, Bool.true_and, each_tk _ _ _ (Nat.le_refl _)]
theorem startsB_no (fs : List (UInt8 → Bool)) (l : List UInt8) (h : l.length < fs.length) : startsB fs l = false := by
  rw [startsB, decide_eq_false (by omega), Bool.false_and]
theorem endsB_each (fs : List (UInt8 → Bool)) (l : List UInt8) (h : fs.length ≤ l.length) : endsB fs l = each fs (l.drop (l.length - fs.length)) := by
  rw [endsB, decide_eq_true h, Bool.true_and]
theorem endsB_no (fs : List (UInt8 → Bool)) (l : List UInt8) (h : l.length < fs.length) : endsB fs l = false := by
  rw [endsB, decide_eq_false (by omega), Bool.false_and]
theorem starts_parts (fs gs : List (UInt8 → Bool)) (l : List UInt8) (h : fs.length ≤ l.length) : startsB (fs ++ gs) l = (startsB fs l && startsB gs (l.drop fs.length)) := by
  rw [startsB_each fs l h]
  by_cases h2 : fs.length + gs.length ≤ l.length
  · rw [startsB_each _ _ (by simp; omega), startsB_each _ _ (by simp; omega), each_app _ _ _ h]
  · rw [startsB_no _ _ (by simp; omega), startsB_no gs _ (by simp; omega), Bool.and_false]
theorem ends_parts (fs gs : List (UInt8 → Bool)) (l : List UInt8) (h : gs.length ≤ l.length) : endsB (fs ++ gs) l = (endsB gs l && endsB fs (l.take (l.length - gs.length))) := by
  by_cases h2 : fs.length + gs.length ≤ l.length
  · have e1 : (l.take (l.length - gs.length)).length = l.length - gs.length := by simp
    rw [endsB_each _ _ (by simp; omega), endsB_each gs l h, endsB_each fs _ (by omega), e1, each_app _ _ _ (by simp; omega), List.drop_drop]
    have e2 : l.length - (fs ++ gs).length + fs.length = l.length - gs.length := by simp; omega
    have e3 : l.length - (fs ++ gs).length = l.length - gs.length - fs.length := by simp; omega
    rw [e2, e3, Bool.and_comm, List.drop_take]
    congr 1
    rw [each_tk _ _ _ (by omega)]
  · rw [endsB_no _ _ (by simp; omega), endsB_no fs _ (by simp; omega), Bool.and_false]
theorem rd_err {l : List UInt8} (h : (rd l).2 ≠ 0) : (rd l).1 = [] := by
  rcases rd_cases l with e | ⟨_, _, _, _, _, h6⟩
  · exact e
  · exact absurd h6 h

theorem set_run (off : Nat) : ∀ (l : List Value) (k : Nat) (cs : List Value), off + k + l.length ≤ cs.length → (l.zipIdx k).foldl (fun cs x => cs.set (off + x.2) x.1) cs = cs.take (off + k) ++ l ++ cs.drop (off + k + l.length)
  | [], k, cs, h => by simp
  | v :: rest, k, cs, h => by
    rw [List.zipIdx_cons, List.foldl_cons, set_run off rest (k + 1) _ (by simp at h ⊢; omega)]
    have e := list_seg_step cs (off + k) v rest (by simp at h; omega)
    simp only [List.length_cons]
    rw [← e]
    simp only [Nat.add_assoc]
theorem fold_set (c cs : Array Value) (off : Nat) (h : off + c.size ≤ cs.size) : c.zipIdx.foldl (fun cs (x : Value × Nat) => cs.setIfInBounds (off + x.2) x.1) cs = (cs.toList.take off ++ c.toList ++ cs.toList.drop (off + c.size)).toArray := by
  have key : ∀ (l : List (Value × Nat)) (cs : Array Value), (l.foldl (fun cs (x : Value × Nat) => cs.setIfInBounds (off + x.2) x.1) cs).toList = l.foldl (fun cs x => cs.set (off + x.2) x.1) cs.toList := by
    intro l
    induction l with
    | nil => intro cs; rfl
    | cons x t ih => intro cs; rw [List.foldl_cons, List.foldl_cons, ih, Array.toList_setIfInBounds]
  apply Array.toList_inj.1
  rw [← Array.foldl_toList, key, Array.toList_zipIdx, set_run off c.toList 0 cs.toList (by simpa using h)]
  simp
def bs2 (p : Array (Nat × Value)) : Sem Value := Instr.buildSlice 24 2 p
theorem bs2_as (p : Array (Nat × Value)) : Instr.buildSlice 24 2 p = bs2 p := rfl
theorem fill_two (C X Y : Array Value) (hC : C.size = 130) (hX : X.size = 65) (hY : Y.size = 65) : Instr.fill (fun i => some (i * 65, 65)) C [(0, .agg X), (1, .agg Y)] = some (X ++ Y) := by
  have f1 := fold_set X C 0 (by omega)
  have hs1 : (C.toList.take 0 ++ X.toList ++ C.toList.drop (0 + X.size)).toArray.size = 130 := by simp; omega
  have f2 := fold_set Y (C.toList.take 0 ++ X.toList ++ C.toList.drop (0 + X.size)).toArray 65 (by rw [hs1]; omega)
  have e : ((C.toList.take 0 ++ X.toList ++ C.toList.drop (0 + X.size)).toArray.toList.take 65 ++ Y.toList ++ (C.toList.take 0 ++ X.toList ++ C.toList.drop (0 + X.size)).toArray.toList.drop (65 + Y.size)).toArray = X ++ Y := by
    apply Array.toList_inj.1
    simp only [List.take_zero, List.nil_append]
    rw [List.take_append_of_le_length (by simp; omega), List.take_of_length_le (by simp; omega), List.drop_of_length_le (by simp; omega)]
    simp
  simp only [Nat.zero_add] at f1
  simp only [Instr.fill, Value.cells, hX, hY, Nat.zero_mul, Nat.zero_add, Nat.one_mul, hC]
  simp only [ne_eq, not_true_eq_false, decide_false, Bool.false_or, gt_iff_lt, decide_eq_true_eq]
  rw [if_neg (by omega)]
  simp only [Nat.zero_add] at hs1 f2 e
  rw [f1] 
  rw [hs1, if_neg (by omega), f2, e]
theorem bs2_run (X Y : Array Value) (hX : Sz65 X) (hY : Sz65 Y) (W : World) : (bs2 #[(0, .agg X), (1, .agg Y)]).run Try.prog W = .ok (.slice (some ⟨W.heap.size, 0, none⟩) 2 2) (W.alloc (.cells (X ++ Y) 31)) := by
  have hX' : X.size = 65 := hX
  have hY' : Y.size = 65 := hY
  obtain ⟨i, hq, hi⟩ := Option.map_eq_some_iff.1 infoP
  have hf := fill_two ((Array.range 130).map fun j => (patC [])[j % (patC []).size]!) X Y (by simp) hX' hY'
  have hz := zero_pat W
  unfold bs2 Instr.buildSlice
  simp [Sem.run_bind, run_underlying Try.underlying24, sizeOf, typeInfo, hq, hi, hz, Value.cells, hf, newRow]
theorem pats_two (W : World) (fs gs : List (UInt8 → Bool)) (h1 : fs.length ≤ 16) : PatsAt (W.alloc (.cells (patC fs ++ patC gs) 31)) (.slice (some ⟨W.heap.size, 0, none⟩) 2 2) [fs, gs] := by
  refine ⟨_, 2, rfl, fun _ => ⟨W.heap.size, rfl, by simp, fun j x hx i u hu => ?_⟩⟩
  have hs := patC_size fs h1
  rw [cell_of_row _ _ (j * 65 + i) _ _ (0, 0) (heap_alloc_last W _)]
  have hi := (Array.getElem?_eq_some_iff.1 hu).1
  match j, hx with
  | 0, hx =>
    simp only [List.getElem?_cons_zero, Option.some.injEq] at hx
    subst hx
    rw [Nat.zero_mul, Nat.zero_add, Array.getElem?_append_left (by omega), hu]
  | 1, hx =>
    simp only [List.getElem?_cons_succ, List.getElem?_cons_zero, Option.some.injEq] at hx
    subst hx
    rw [Array.getElem?_append_right (by omega), hs, show 1 * 65 + i - 65 = i by omega, hu]
  | j + 2, hx => simp at hx
end Pt
end Go.Proofs.Ytgaagbjbolfbjab
