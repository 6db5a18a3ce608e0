/- Lists of patterns and of texts in memory, both grown in turn: what lies where. No walk. -/
import Derived.Test.YtgaagbjbolfbjabPtM
import Derived.Lib.OwnKind
import Derived.Laws.AppendOwnNone
namespace Go.Proofs.Ytgaagbjbolfbjab
open Go.RowKit
namespace Pt
open Cd

/-- the cells of patterns, one behind the other -/
def rowsC (Fs : List (List (UInt8 → Bool))) : List Value := Fs.flatMap fun fs => (patC fs).toList
theorem rowsC_len (Fs : List (List (UInt8 → Bool))) (h : ∀ fs ∈ Fs, fs.length ≤ 16) : (rowsC Fs).length = Fs.length * 65 := by
  induction Fs with
  | nil => rfl
  | cons f t ih =>
    have h1 := patC_size f (h f (List.mem_cons_self ..))
    have h2 := ih (fun x hx => h x (List.mem_cons_of_mem _ hx))
    unfold rowsC at h2 ⊢
    rw [List.flatMap_cons, List.length_append, h2, Array.length_toList, h1, List.length_cons]
    omega
theorem rowsC_at (Fs : List (List (UInt8 → Bool))) (h : ∀ fs ∈ Fs, fs.length ≤ 16) : ∀ (j : Nat) fs, Fs[j]? = some fs → ∀ (i : Nat) u, (patC fs)[i]? = some u → (rowsC Fs)[j * 65 + i]? = some u := by
  induction Fs with
  | nil => intro j fs hj; simp at hj
  | cons f t ih =>
    have h1 := patC_size f (h f (List.mem_cons_self ..))
    intro j fs hj i u hu
    have hi := (Array.getElem?_eq_some_iff.1 hu).1
    unfold rowsC
    rw [List.flatMap_cons]
    cases j with
    | zero =>
      simp only [List.getElem?_cons_zero, Option.some.injEq] at hj
      subst hj
      rw [Nat.zero_mul, Nat.zero_add, List.getElem?_append_left (by rw [Array.length_toList]; exact hi), Array.getElem?_toList]
      exact hu
    | succ j =>
      rw [List.getElem?_cons_succ] at hj
      rw [List.getElem?_append_right (by rw [Array.length_toList, h1]; omega), Array.length_toList, h1, show (j + 1) * 65 + i - 65 = j * 65 + i by omega]
      exact ih (fun x hx => h x (List.mem_cons_of_mem _ hx)) j fs hj i u hu
theorem rowsC_snoc (Fs : List (List (UInt8 → Bool))) (fs : List (UInt8 → Bool)) : rowsC (Fs ++ [fs]) = rowsC Fs ++ (patC fs).toList := by simp [rowsC]
theorem pats_own {W : World} {B : Nat} {u : Value} {Fs : List (List (UInt8 → Bool))} (h : ∀ fs ∈ Fs, fs.length ≤ 16) (ho : W.ownsRow B 31 65 u Fs.length (rowsC Fs)) : PatsAt W u Fs := by
  obtain ⟨hl, ⟨e, e2⟩ | ⟨g, cap, cur, e, _, hg, hn, _, hcs, hx⟩⟩ := ho
  · exact ⟨none, 0, by rw [e, e2], fun h0 => absurd e2 (by omega)⟩
  · refine ⟨_, cap, e, fun h0 => ⟨g, rfl, (Array.getElem?_eq_some_iff.1 hg).1, fun j fs hj i v hv => ?_⟩⟩
    rw [cell_of_row _ _ (j * 65 + i) _ _ (0, 0) hg]
    have hr := rowsC_at Fs h j fs hj i v hv
    rw [← hx, List.getElem?_take] at hr
    split at hr
    · rw [← Array.getElem?_toList]; exact hr
    · cases hr
theorem own_kept {W W' : World} {B : Nat} {e : TypeId} {size n : Nat} {v : Value} {xs : List Value} (h : W.ownsRow B e size v n xs) (hb : ∀ g, v.ownBlock = some g → W'.heap[g]? = W.heap[g]?) : W'.ownsRow B e size v n xs := by
  obtain ⟨hl, ⟨e1, e2⟩ | ⟨g, cap, cur, e1, h1, hg, r⟩⟩ := h
  · exact ⟨hl, .inl ⟨e1, e2⟩⟩
  · exact ⟨hl, .inr ⟨g, cap, cur, e1, h1, (hb g (by rw [e1]; rfl)).trans hg, r⟩⟩
theorem own_below {W W' : World} {B : Nat} {e : TypeId} {size n : Nat} {v : Value} {xs : List Value} (h : W.ownsRow B e size v n xs) (hb : Below W.heap.size W W') : W'.ownsRow B e size v n xs := own_kept h fun g hg => hb.block g (h.lt g hg).2
/-- a row of another kind than the one that grew -/
theorem own_apart {W W' : World} {B B2 : Nat} {e e2 : TypeId} {size size2 n n2 : Nat} {v v2 : Value} {xs xs2 : List Value} (h : W.ownsRow B e size v n xs) (h2 : W.ownsRow B2 e2 size2 v2 n2 xs2) (hne : e ≠ e2) (hg : W.grownBy W' v2.ownBlock) : W'.ownsRow B e size v n xs :=
  own_kept h fun g hv => hg.block g (h.lt g hv).2 fun e1 => by
    obtain ⟨c, fz, k1⟩ := Lib.ownsRow_kind h g hv
    obtain ⟨c2, fz2, k2⟩ := Lib.ownsRow_kind h2 g e1.symm
    rw [k1] at k2
    injection k2 with k2
    injection k2 with _ k3 _
    exact hne k3
def bs1 (p : Array (Nat × Value)) : Sem Value := Instr.buildSlice 24 1 p
theorem bs1_as (p : Array (Nat × Value)) : Instr.buildSlice 24 1 p = bs1 p := rfl
theorem fill_one (C X : Array Value) (hC : C.size = 65) (hX : X.size = 65) : Instr.fill (fun i => some (i * 65, 65)) C [(0, .agg X)] = some X := by
  have f1 := fold_set X C 0 (by omega)
  have e : (C.toList.take 0 ++ X.toList ++ C.toList.drop (0 + X.size)).toArray = X := by
    apply Array.toList_inj.1
    simp only [List.take_zero, List.nil_append]
    rw [List.drop_of_length_le (by simp; omega)]
    simp
  simp only [Nat.zero_add] at f1 e
  simp only [Instr.fill, Value.cells, hX, Nat.zero_mul, Nat.zero_add, hC]
  simp only [ne_eq, not_true_eq_false, decide_false, Bool.false_or, gt_iff_lt, decide_eq_true_eq]
  rw [if_neg (by omega), f1, e]
theorem bs1_run (X : Array Value) (hX : Sz65 X) (W : World) : (bs1 #[(0, .agg X)]).run Try.prog W = .ok (.slice (some ⟨W.heap.size, 0, none⟩) 1 1) (W.alloc (.cells X 31)) := by
  have hX' : X.size = 65 := hX
  obtain ⟨i, hq, hi⟩ := Option.map_eq_some_iff.1 infoP
  have hf := fill_one ((Array.range 65).map fun j => (patC [])[j % (patC []).size]!) X (by simp) hX'
  have hz := zero_pat W
  unfold bs1 Instr.buildSlice
  simp [Sem.run_bind, run_underlying Try.underlying24, sizeOf, typeInfo, hq, hi, hz, Value.cells, hf, newRow]
theorem infoPz : (Try.prog.info? 31).map (fun i => (i.zero, i.size, i.bytes)) = some (some (.agg (patC [])), 65, 520) := by kernel_rfl
theorem infoTx : (Try.prog.info? 51).map (fun i => (i.zero, i.size, i.bytes)) = some (some (.agg #[.string ByteArray.empty]), 1, 16) := by kernel_rfl
def fsOf (L : List ByteArray) : List (List (UInt8 → Bool)) := L.map fun x => rdP x.data.toList
def psOf (L : List ByteArray) : List (List UInt8) := L.flatMap fun x => (rd x.data.toList).1
theorem fsOf_16 (L : List ByteArray) : ∀ fs ∈ fsOf L, fs.length ≤ 16 := by
  intro fs h
  obtain ⟨x, _, rfl⟩ := List.mem_map.1 h
  exact rdP_len _
theorem psOf_fs (L : List ByteArray) : (psOf L).map adm = (fsOf L).flatten := by
  induction L with
  | nil => rfl
  | cons x t ih =>
    unfold psOf fsOf at ih ⊢
    rw [List.flatMap_cons, List.map_append, ih, List.map_cons, List.flatten_cons]
    rfl
theorem psOf_pcs (L : List ByteArray) : ∀ p ∈ psOf L, Pcs p := by
  intro p h
  obtain ⟨x, _, hp⟩ := List.mem_flatMap.1 h
  exact rd_pcs _ p hp
theorem psOf_len (L : List ByteArray) : (psOf L).length ≤ 16 * L.length := by
  induction L with
  | nil => simp [psOf]
  | cons x t ih =>
    unfold psOf at ih ⊢
    have := rd_len x.data.toList
    rw [List.flatMap_cons, List.length_append, List.length_cons]
    omega
theorem take_txts {L : List ByteArray} {k : Nat} {x : ByteArray} (h : L[k]? = some x) : L.take (k + 1) = L.take k ++ [x] := by
  have hk := (List.getElem?_eq_some_iff.1 h).1
  rw [List.take_succ_eq_append_getElem hk, (List.getElem?_eq_some_iff.1 h).2]
theorem fsOf_snoc (L : List ByteArray) (x : ByteArray) : fsOf (L ++ [x]) = fsOf L ++ [rdP x.data.toList] := by simp [fsOf]
theorem psOf_snoc (L : List ByteArray) (x : ByteArray) : psOf (L ++ [x]) = psOf L ++ (rd x.data.toList).1 := by simp [psOf]
theorem txt_app (a b : List (List UInt8)) : txt (a ++ b) = txt a ++ txt b := by simp [txt]
end Pt
end Go.Proofs.Ytgaagbjbolfbjab
