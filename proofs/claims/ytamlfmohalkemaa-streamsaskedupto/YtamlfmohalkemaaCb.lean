/- Layer 8, a heap of cursors: what lies in memory. No walk. -/
import Derived.Test.YtamlfmohalkemaaCa
namespace Go.Proofs.Ytamlfmohalkemaa
open Go.RowKit
namespace Hpc
open Hp
variable {C : Cx}
/-! nodes in a row -/
def rowN (A : List Nd) : List Value := A.flatMap fun x => [.slice x.1.ao x.1.n x.1.c, .int .i64 x.2]
theorem rowN_cons (x : Nd) (A : List Nd) : rowN (x :: A) = .slice x.1.ao x.1.n x.1.c :: .int .i64 x.2 :: rowN A := rfl
theorem rowN_app (A B : List Nd) : rowN (A ++ B) = rowN A ++ rowN B := by simp [rowN]
theorem rowN_len (A : List Nd) : (rowN A).length = A.length * 2 := by
  induction A with
  | nil => rfl
  | cons x t ih => rw [rowN_cons]; simp [ih]; omega
theorem rowN_get {A : List Nd} {j : Nat} {x : Nd} (h : A[j]? = some x) : (rowN A)[j * 2]? = some (.slice x.1.ao x.1.n x.1.c) ∧ (rowN A)[j * 2 + 1]? = some (.int .i64 x.2) := by
  induction A generalizing j with
  | nil => simp at h
  | cons y t ih =>
    rw [rowN_cons]
    rcases j with _ | j
    · have : y = x := by simpa using h
      subst this
      exact ⟨rfl, rfl⟩
    · have := ih (j := j) (by simpa using h)
      rw [show (j + 1) * 2 = j * 2 + 1 + 1 by omega]
      simpa using this
theorem rowN_set (A : List Nd) (i : Nat) (x : Nd) : ((rowN A).set (i * 2) (.slice x.1.ao x.1.n x.1.c)).set (i * 2 + 1) (.int .i64 x.2) = rowN (A.set i x) := by
  induction A generalizing i with
  | nil => simp [rowN]
  | cons y t ih =>
    rcases i with _ | i
    · rfl
    · have := ih i
      rw [rowN_cons, List.set_cons_succ, rowN_cons, ← this]
      rw [show (i + 1) * 2 = i * 2 + 1 + 1 by omega]
      rfl
theorem rowN_take (A : List Nd) (n : Nat) : (rowN A).take (n * 2) = rowN (A.take n) := by
  induction A generalizing n with
  | nil => simp [rowN]
  | cons y t ih =>
    rcases n with _ | n
    · simp [rowN]
    · rw [List.take_succ_cons, rowN_cons, rowN_cons, ← ih n, show (n + 1) * 2 = n * 2 + 1 + 1 by omega]
      rfl
def gd (A : List Nd) (i : Nat) : Nd := A.getD i (cu0, 0)
theorem gd_get {A : List Nd} {i : Nat} (h : i < A.length) : A[i]? = some (gd A i) := by simp [gd, h]
theorem gd_some {A : List Nd} {i : Nat} {x : Nd} (h : A[i]? = some x) : gd A i = x := by simp [gd, h]
theorem gd_set (A : List Nd) (i j : Nat) (x : Nd) (hi : i < A.length) : gd (A.set i x) j = if j = i then x else gd A j := by
  unfold gd
  simp only [List.getD_eq_getElem?_getD, List.getElem?_set]
  by_cases e : i = j
  · subst e; simp [hi]
  · simp [e, Ne.symm e]
/-- two nodes exchanged -/
def swl (A : List Nd) (i j : Nat) : List Nd := (A.set i (gd A j)).set j (gd A i)
theorem swl_len (A : List Nd) (i j : Nat) : (swl A i j).length = A.length := by simp [swl]
theorem swl_perm {A : List Nd} {i j : Nat} (hi : i < A.length) (hj : j < A.length) : (swl A i j).Perm A := by
  have e1 : gd A j = A[j] := by simp [gd, hj]
  have e2 : gd A i = A[i] := by simp [gd, hi]
  unfold swl
  rw [e1, e2]
  exact List.set_set_perm hi hj
theorem swl_gd {A : List Nd} {i j : Nat} (hi : i < A.length) (hj : j < A.length) : gd (swl A i j) = swp (gd A) i j := by
  funext t
  unfold swl swp
  rw [gd_set _ _ _ _ (by simpa using hj), gd_set _ _ _ _ hi]
  by_cases e1 : t = j
  · subst e1
    by_cases e2 : t = i
    · subst e2; simp
    · simp [e2]
  · by_cases e2 : t = i
    · subst e2; simp [e1]
    · simp [e1, e2]

/-- a heap at block hb: its less fv, its nodes A, its count p, in the blocks F -/
structure HIn (C : Cx) (w : World) (hb : Nat) (fv : Value) (A : List Nd) (p : Nat) (F : Nat → Prop) (nv : Value) : Prop where
  lt : ∀ b, F b → b < w.heap.size
  own : F hb
  obj : w.heap[hb]? = some (.cells #[fv, nv, .int .i64 p] 65 (0, 0))
  row : w.ownsRow 0 85 2 nv A.length (rowN A)
  rowF : ∀ g, nv.ownBlock = some g → F g
  zz : ∀ x ∈ A, C.Z x.1
  kw : C.K w
  fn : ∀ b, F b → C.N b
  sz : C.D ≤ w.heap.size
theorem own_set {α : Type} {A : List α} {i : Nat} {x : α} {P : α → Prop} (h : ∀ y ∈ A, P y) (hx : P x) : ∀ y ∈ A.set i x, P y := fun y hy => by
  rcases List.mem_or_eq_of_mem_set hy with e | e
  · exact h y e
  · rw [e]; exact hx
theorem HIn.kept {w w' : World} {hb : Nat} {fv nv : Value} {A : List Nd} {p : Nat} {F G : Nat → Prop} (h : HIn C w hb fv A p F nv) (hk : ∀ b, F b → w'.heap[b]? = w.heap[b]?) (hG : ∀ b, F b → G b) (hl : ∀ b, G b → b < w'.heap.size) (hK : C.K w') (hN : ∀ b, G b → C.N b) (hs : w.heap.size ≤ w'.heap.size) : HIn C w' hb fv A p G nv :=
  ⟨hl, hG _ h.own, (hk _ h.own).trans h.obj, own_kept h.row fun g hg => hk g (h.rowF g hg), fun g hg => hG g (h.rowF g hg), h.zz, hK, hN, Nat.le_trans h.sz hs⟩
theorem HIn.below {w w' : World} {hb : Nat} {fv nv : Value} {A : List Nd} {p : Nat} {F : Nat → Prop} (h : HIn C w hb fv A p F nv) (k : Below w.heap.size w w') : HIn C w' hb fv A p F nv :=
  h.kept (fun b hF => k.block b (h.lt b hF)) (fun _ x => x) (fun b hF => Nat.lt_of_lt_of_le (h.lt b hF) k.size) (C.below h.kw k) h.fn k.size
theorem HIn.drew {w : World} {hb : Nat} {fv nv : Value} {A : List Nd} {p : Nat} {F : Nat → Prop} (h : HIn C w hb fv A p F nv) : HIn C w.drew hb fv A p F nv := h.below (Below.refl _ _).drew
theorem hcells {w : World} {hb : Nat} {fv nv : Value} {p : Nat} (h : w.heap[hb]? = some (.cells #[fv, nv, .int .i64 p] 65 (0, 0))) :
    w.cell? ⟨hb, 0, none⟩ = some fv ∧ w.cell? ⟨hb, 1, none⟩ = some nv ∧ w.cell? ⟨hb, 2, none⟩ = some (.int .i64 p) ∧ (∀ k, w.frozen? ⟨hb, k, none⟩ = false) ∧ hb < w.heap.size := by
  refine ⟨?_, ?_, ?_, fun k => ?_, (Array.getElem?_eq_some_iff.1 h).1⟩ <;> simp [World.cell?, World.frozen?, h]
/-- the nodes as a walk reads them -/
theorem ncells {w : World} {hb g c : Nat} {fv : Value} {A : List Nd} {p : Nat} {F : Nat → Prop} (h : HIn C w hb fv A p F (.slice (some ⟨g, 0, none⟩) A.length c)) {G : Nat → Nd} (hG : G = gd A) :
    (∀ t, t < A.length → w.cell? ⟨g, t * 2, none⟩ = some (.slice (G t).1.ao (G t).1.n (G t).1.c)) ∧ (∀ t, t < A.length → w.cell? ⟨g, t * 2 + 1, none⟩ = some (.int .i64 (G t).2)) ∧ ∀ k, w.frozen? ⟨g, k, none⟩ = false := by
  subst hG
  refine ⟨fun t ht => ?_, fun t ht => ?_, fun k => h.row.frozenAt k⟩
  · rw [h.row.cellAt _ (by omega)]; exact (rowN_get (gd_get ht)).1
  · rw [h.row.cellAt _ (by omega)]; exact (rowN_get (gd_get ht)).2
theorem hne {w : World} {hb g c : Nat} {fv : Value} {A : List Nd} {p : Nat} {F : Nat → Prop} (h : HIn C w hb fv A p F (.slice (some ⟨g, 0, none⟩) A.length c)) : hb ≠ g := fun e => by
  obtain ⟨C, fz, hx⟩ := Lib.ownsRow_kind h.row g rfl
  rw [← e, h.obj] at hx
  injection hx with hx
  injection hx with _ hx _
  exact absurd hx (by decide)
/-- a node was written -/
def put3 (w : World) (g i : Nat) (x : Nd) : World := (w.setCell ⟨g, i * 2, none⟩ (.slice x.1.ao x.1.n x.1.c)).setCell ⟨g, i * 2 + 1, none⟩ (.int .i64 x.2)
theorem put3_size (w : World) (g i : Nat) (x : Nd) : (put3 w g i x).heap.size = w.heap.size := by simp [put3]
theorem put3_block (w : World) (g i : Nat) (x : Nd) {k : Nat} (hk : k ≠ g) : (put3 w g i x).heap[k]? = w.heap[k]? := by
  unfold put3
  rw [Below.heap_setCell _ _ _ _ hk, Below.heap_setCell _ _ _ _ hk]
theorem HIn.put0 {w : World} {hb g c : Nat} {fv : Value} {A : List Nd} {p n : Nat} {F : Nat → Prop} (h : HIn C w hb fv A p F (.slice (some ⟨g, 0, none⟩) n c)) (hn : n = A.length) (i : Nat) (x : Nd) : ((∀ b, F b → b < (put3 w g i x).heap.size) ∧ (put3 w g i x).heap[hb]? = some (.cells #[fv, .slice (some ⟨g, 0, none⟩) n c, .int .i64 p] 65 (0, 0)) ∧ (put3 w g i x).ownsRow 0 85 2 (.slice (some ⟨g, 0, none⟩) n c) (A.set i x).length (rowN (A.set i x))) ∧ Chg F w (put3 w g i x) ∧ C.K (put3 w g i x) := by
  subst hn
  have hgF := h.rowF g rfl
  have hch : Chg F w (put3 w g i x) := ((Chg.refl F w).setCell (.inl hgF) _).setCell (.inl hgF) _
  refine ⟨⟨fun b hb => by rw [put3_size]; exact h.lt b hb, by rw [put3_block _ _ _ _ (hne h)]; exact h.obj, ?_⟩, hch, C.keeps _ _ h.kw hch.size fun b hb hn => hch.block b hb fun e => hn (h.fn b e)⟩
  rw [List.length_set, ← rowN_set]
  exact ((h.row.stored (i * 2) _).1.stored (i * 2 + 1) _).1
theorem HIn.put {w : World} {hb g c : Nat} {fv : Value} {A : List Nd} {p n : Nat} {F : Nat → Prop} (h : HIn C w hb fv A p F (.slice (some ⟨g, 0, none⟩) n c)) (hn : n = A.length) (i : Nat) (x : Nd) (hx : C.Z x.1) : HIn C (put3 w g i x) hb fv (A.set i x) p F (.slice (some ⟨g, 0, none⟩) n c) ∧ Chg F w (put3 w g i x) := by
  obtain ⟨⟨h1, h2, h3⟩, h4, h5⟩ := h.put0 hn i x
  exact ⟨⟨h1, h.own, h2, h3, h.rowF, own_set (P := fun (y : Nd) => C.Z y.1) h.zz hx, h5, h.fn, Nat.le_trans h.sz h4.size⟩, h4⟩
theorem HIn.zg {w : World} {hb : Nat} {fv nv : Value} {A : List Nd} {p : Nat} {F : Nat → Prop} (h : HIn C w hb fv A p F nv) {i : Nat} (hi : i < A.length) : C.Z (gd A i).1 := h.zz _ (List.mem_of_getElem? (gd_get hi))
end Hpc
end Go.Proofs.Ytamlfmohalkemaa
