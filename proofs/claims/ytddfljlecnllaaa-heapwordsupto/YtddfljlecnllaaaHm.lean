/- Layer 7, what lies in memory: a heap with its nodes; what a call may turn. No walk. -/
import Derived.Test.YtddfljlecnllaaaHa
import Derived.Deep.AppendSrc
import Derived.Lib.OwnKind
namespace Go.Proofs.Ytddfljlecnllaaa
open Go.RowKit
namespace Hp
/-- all is as it was but for blocks of F and new ones -/
structure Chg (F : Nat → Prop) (w w' : World) : Prop where
  os : w'.os = w.os
  tape : w'.tape = w.tape
  output : w'.output = w.output
  size : w.heap.size ≤ w'.heap.size
  block : ∀ k, k < w.heap.size → ¬ F k → w'.heap[k]? = w.heap[k]?
theorem Chg.refl (F : Nat → Prop) (w : World) : Chg F w w := ⟨rfl, rfl, rfl, Nat.le_refl _, fun _ _ _ => rfl⟩
/-- F, and what is new -/
def Up (F : Nat → Prop) (w w' : World) (b : Nat) : Prop := F b ∨ (w.heap.size ≤ b ∧ b < w'.heap.size)
theorem Chg.trans {F : Nat → Prop} {a b c : World} (h : Chg F a b) (k : Chg (Up F a b) b c) : Chg F a c :=
  ⟨k.os.trans h.os, k.tape.trans h.tape, k.output.trans h.output, Nat.le_trans h.size k.size, fun i hi hn =>
    (k.block i (Nat.lt_of_lt_of_le hi h.size) (fun e => e.elim hn (fun e => by omega))).trans (h.block i hi hn)⟩
theorem Chg.then {F : Nat → Prop} {a b c : World} (h : Chg F a b) (k : Chg F b c) : Chg F a c :=
  ⟨k.os.trans h.os, k.tape.trans h.tape, k.output.trans h.output, Nat.le_trans h.size k.size, fun i hi hn =>
    (k.block i (Nat.lt_of_lt_of_le hi h.size) hn).trans (h.block i hi hn)⟩
theorem Chg.mono {F G : Nat → Prop} {a b : World} (h : Chg F a b) (hs : ∀ k, F k → G k) : Chg G a b := ⟨h.os, h.tape, h.output, h.size, fun i hi hn => h.block i hi fun e => hn (hs i e)⟩
theorem Chg.of_below {F : Nat → Prop} {a b : World} (h : Below a.heap.size a b) : Chg F a b := ⟨h.os, h.tape, h.output, h.size, fun i hi _ => h.block i hi⟩
theorem Chg.below {F : Nat → Prop} {a b : World} {B : Nat} (h : Chg F a b) (hB : B ≤ a.heap.size) (hF : ∀ k, F k → B ≤ k) : Below B a b :=
  ⟨h.os, h.tape, h.output, h.size, fun i hi => h.block i (by omega) fun e => by have := hF i e; omega⟩
theorem Chg.alloc {F : Nat → Prop} {a b : World} (h : Chg F a b) (o : Obj) : Chg F a (b.alloc o) :=
  ⟨h.os, h.tape, h.output, Nat.le_trans h.size (by simp), fun i hi hn => (Below.heap_alloc b o i (Nat.lt_of_lt_of_le hi h.size)).trans (h.block i hi hn)⟩
theorem Chg.drew {F : Nat → Prop} {a b : World} (h : Chg F a b) : Chg F a b.drew := ⟨h.os, h.tape, h.output, h.size, h.block⟩
theorem Chg.setCell {F : Nat → Prop} {a b : World} (h : Chg F a b) {p : Addr} (hp : F p.block ∨ a.heap.size ≤ p.block) (u : Value) : Chg F a (b.setCell p u) :=
  ⟨h.os, h.tape, h.output, Nat.le_trans h.size (by simp [World.setCell]), fun i hi hn => (Below.heap_setCell b p u i (fun e => by subst e; rcases hp with hp | hp; exact hn hp; omega)).trans (h.block i hi hn)⟩
theorem Chg.grown {F : Nat → Prop} {a b c : World} {row : Option Nat} (h : Chg F a b) (hg : b.grownBy c row) (hr : ∀ k, row = some k → F k ∨ a.heap.size ≤ k) : Chg F a c :=
  ⟨hg.os.trans h.os, hg.tape.trans h.tape, hg.output.trans h.output, Nat.le_trans h.size hg.size, fun i hi hn =>
    (hg.block i (Nat.lt_of_lt_of_le hi h.size) (fun e => by rcases hr i e.symm with e | e; exact hn e; omega)).trans (h.block i hi hn)⟩
theorem own_kept {W W' : World} {B : Nat} {e : TypeId} {size n : Nat} {v : Value} {xs : List Value} (h : W.ownsRow B e size v n xs) (hb : ∀ g, v.ownBlock = some g → W'.heap[g]? = W.heap[g]?) : W'.ownsRow B e size v n xs := by
  obtain ⟨hl, ⟨e1, e2⟩ | ⟨g, cap, cur, e1, h1, hg, r⟩⟩ := h
  · exact ⟨hl, .inl ⟨e1, e2⟩⟩
  · exact ⟨hl, .inr ⟨g, cap, cur, e1, h1, (hb g (by rw [e1]; rfl)).trans hg, r⟩⟩
theorem set_heap1 {W : World} {g k : Nat} {cur : Array Value} {t : TypeId} {fz : Nat × Nat} (h : W.heap[g]? = some (.cells cur t fz)) (v : Value) : (W.setCell ⟨g, k, none⟩ v).heap[g]? = some (.cells (cur.setIfInBounds k v) t fz) := by
  simp only [World.setCell, Array.getElem?_modify, if_true, h, Option.map_some]
  simp
theorem own_slice {w : World} {B : Nat} {e : TypeId} {size n : Nat} {v : Value} {xs : List Value} (h : w.ownsRow B e size v n xs) : ∃ a c, v = .slice a n c := by
  rcases h.2 with ⟨e1, e2⟩ | ⟨g, cap, cur, e1, _⟩
  · exact ⟨none, 0, by rw [e1, e2]⟩
  · exact ⟨_, _, e1⟩

/-! nodes in a row -/
def rowN (A : List Nd) : List Value := A.flatMap fun x => [.int .i64 x.1.1, .int .i64 x.1.2, .int .i64 x.2]
theorem rowN_cons (x : Nd) (A : List Nd) : rowN (x :: A) = .int .i64 x.1.1 :: .int .i64 x.1.2 :: .int .i64 x.2 :: rowN A := rfl
theorem rowN_app (A B : List Nd) : rowN (A ++ B) = rowN A ++ rowN B := by simp [rowN]
theorem rowN_len (A : List Nd) : (rowN A).length = A.length * 3 := by
  induction A with
  | nil => rfl
  | cons x t ih => rw [rowN_cons]; simp [ih]; omega
theorem rowN_get {A : List Nd} {j : Nat} {x : Nd} (h : A[j]? = some x) : (rowN A)[j * 3]? = some (.int .i64 x.1.1) ∧ (rowN A)[j * 3 + 1]? = some (.int .i64 x.1.2) ∧ (rowN A)[j * 3 + 2]? = some (.int .i64 x.2) := by
  induction A generalizing j with
  | nil => simp at h
  | cons y t ih =>
    rw [rowN_cons]
    rcases j with _ | j
    · have : y = x := by simpa using h
      subst this
      exact ⟨rfl, rfl, rfl⟩
    · have := ih (j := j) (by simpa using h)
      rw [show (j + 1) * 3 = j * 3 + 1 + 1 + 1 by omega]
      simpa using this
theorem rowN_set (A : List Nd) (i : Nat) (x : Nd) : (((rowN A).set (i * 3) (.int .i64 x.1.1)).set (i * 3 + 1) (.int .i64 x.1.2)).set (i * 3 + 2) (.int .i64 x.2) = rowN (A.set i x) := by
  induction A generalizing i with
  | nil => simp [rowN]
  | cons y t ih =>
    rcases i with _ | i
    · rfl
    · have := ih i
      rw [rowN_cons, List.set_cons_succ, rowN_cons, ← this]
      rw [show (i + 1) * 3 = i * 3 + 1 + 1 + 1 by omega]
      rfl
theorem rowN_take (A : List Nd) (n : Nat) : (rowN A).take (n * 3) = rowN (A.take n) := by
  induction A generalizing n with
  | nil => simp [rowN]
  | cons y t ih =>
    rcases n with _ | n
    · simp [rowN]
    · rw [List.take_succ_cons, rowN_cons, rowN_cons, ← ih n, show (n + 1) * 3 = n * 3 + 1 + 1 + 1 by omega]
      rfl
def gd (A : List Nd) (i : Nat) : Nd := A.getD i ((0, 0), 0)
theorem gd_get {A : List Nd} {i : Nat} (h : i < A.length) : A[i]? = some (gd A i) := by simp [gd, h]
theorem gd_some {A : List Nd} {i : Nat} {x : Nd} (h : A[i]? = some x) : gd A i = x := by simp [gd, h]
theorem gd_set (A : List Nd) (i j : Nat) (x : Nd) (hi : i < A.length) : gd (A.set i x) j = if j = i then x else gd A j := by
  unfold gd
  simp only [List.getD_eq_getElem?_getD, List.getElem?_set]
  by_cases e : i = j
  · subst e; simp [hi]
  · simp [e, Ne.symm e]
/-- two nodes exchanged -/
def swl (A : List Nd) (i j : Nat) : List Nd := (A.set i (gd A j)).set j (gd A i)
theorem swl_len (A : List Nd) (i j : Nat) : (swl A i j).length = A.length := by simp [swl]
theorem swl_perm {A : List Nd} {i j : Nat} (hi : i < A.length) (hj : j < A.length) : (swl A i j).Perm A := by
  have e1 : gd A j = A[j] := by simp [gd, hj]
  have e2 : gd A i = A[i] := by simp [gd, hi]
  unfold swl
  rw [e1, e2]
  exact List.set_set_perm hi hj
theorem swl_gd {A : List Nd} {i j : Nat} (hi : i < A.length) (hj : j < A.length) : gd (swl A i j) = swp (gd A) i j := by
  funext t
  unfold swl swp
  rw [gd_set _ _ _ _ (by simpa using hj), gd_set _ _ _ _ hi]
  by_cases e1 : t = j
  · subst e1
    by_cases e2 : t = i
    · subst e2; simp
    · simp [e2]
  · by_cases e2 : t = i
    · subst e2; simp [e1]
    · simp [e1, e2]

/-- a heap at block hb: its less fv, its nodes A, its count p, in the blocks F -/
structure HIn (w : World) (hb : Nat) (fv : Value) (A : List Nd) (p : Nat) (F : Nat → Prop) (nv : Value) : Prop where
  lt : ∀ b, F b → b < w.heap.size
  own : F hb
  obj : w.heap[hb]? = some (.cells #[fv, nv, .int .i64 p] 72 (0, 0))
  row : w.ownsRow 0 74 3 nv A.length (rowN A)
  rowF : ∀ g, nv.ownBlock = some g → F g
theorem HIn.kept {w w' : World} {hb : Nat} {fv nv : Value} {A : List Nd} {p : Nat} {F G : Nat → Prop} (h : HIn w hb fv A p F nv) (hk : ∀ b, F b → w'.heap[b]? = w.heap[b]?) (hG : ∀ b, F b → G b) (hl : ∀ b, G b → b < w'.heap.size) : HIn w' hb fv A p G nv :=
  ⟨hl, hG _ h.own, (hk _ h.own).trans h.obj, own_kept h.row fun g hg => hk g (h.rowF g hg), fun g hg => hG g (h.rowF g hg)⟩
theorem HIn.below {w w' : World} {hb : Nat} {fv nv : Value} {A : List Nd} {p : Nat} {F : Nat → Prop} (h : HIn w hb fv A p F nv) (k : Below w.heap.size w w') : HIn w' hb fv A p F nv :=
  h.kept (fun b hF => k.block b (h.lt b hF)) (fun _ x => x) fun b hF => Nat.lt_of_lt_of_le (h.lt b hF) k.size
theorem HIn.drew {w : World} {hb : Nat} {fv nv : Value} {A : List Nd} {p : Nat} {F : Nat → Prop} (h : HIn w hb fv A p F nv) : HIn w.drew hb fv A p F nv := h.below (Below.refl _ _).drew
theorem hcells {w : World} {hb : Nat} {fv nv : Value} {p : Nat} (h : w.heap[hb]? = some (.cells #[fv, nv, .int .i64 p] 72 (0, 0))) :
    w.cell? ⟨hb, 0, none⟩ = some fv ∧ w.cell? ⟨hb, 1, none⟩ = some nv ∧ w.cell? ⟨hb, 2, none⟩ = some (.int .i64 p) ∧ (∀ k, w.frozen? ⟨hb, k, none⟩ = false) ∧ hb < w.heap.size := by
  refine ⟨?_, ?_, ?_, fun k => ?_, (Array.getElem?_eq_some_iff.1 h).1⟩ <;> simp [World.cell?, World.frozen?, h]
/-- the nodes as a walk reads them -/
theorem ncells {w : World} {hb g c : Nat} {fv : Value} {A : List Nd} {p : Nat} {F : Nat → Prop} (h : HIn w hb fv A p F (.slice (some ⟨g, 0, none⟩) A.length c)) {G : Nat → Nd} (hG : G = gd A) :
    (∀ t, t < A.length → w.cell? ⟨g, t * 3, none⟩ = some (.int .i64 (G t).1.1)) ∧ (∀ t, t < A.length → w.cell? ⟨g, t * 3 + 1, none⟩ = some (.int .i64 (G t).1.2)) ∧ (∀ t, t < A.length → w.cell? ⟨g, t * 3 + 2, none⟩ = some (.int .i64 (G t).2)) ∧ ∀ k, w.frozen? ⟨g, k, none⟩ = false := by
  subst hG
  refine ⟨fun t ht => ?_, fun t ht => ?_, fun t ht => ?_, fun k => h.row.frozenAt k⟩
  · rw [h.row.cellAt _ (by omega)]; exact (rowN_get (gd_get ht)).1
  · rw [h.row.cellAt _ (by omega)]; exact (rowN_get (gd_get ht)).2.1
  · rw [h.row.cellAt _ (by omega)]; exact (rowN_get (gd_get ht)).2.2
theorem hne {w : World} {hb g c : Nat} {fv : Value} {A : List Nd} {p : Nat} {F : Nat → Prop} (h : HIn w hb fv A p F (.slice (some ⟨g, 0, none⟩) A.length c)) : hb ≠ g := fun e => by
  obtain ⟨C, fz, hx⟩ := Lib.ownsRow_kind h.row g rfl
  rw [← e, h.obj] at hx
  injection hx with hx
  injection hx with _ hx _
  exact absurd hx (by decide)
/-- a node was written -/
def put3 (w : World) (g i : Nat) (x : Nd) : World := ((w.setCell ⟨g, i * 3, none⟩ (.int .i64 x.1.1)).setCell ⟨g, i * 3 + 1, none⟩ (.int .i64 x.1.2)).setCell ⟨g, i * 3 + 2, none⟩ (.int .i64 x.2)
theorem put3_size (w : World) (g i : Nat) (x : Nd) : (put3 w g i x).heap.size = w.heap.size := by simp [put3]
theorem put3_block (w : World) (g i : Nat) (x : Nd) {k : Nat} (hk : k ≠ g) : (put3 w g i x).heap[k]? = w.heap[k]? := by
  unfold put3
  rw [Below.heap_setCell _ _ _ _ hk, Below.heap_setCell _ _ _ _ hk, Below.heap_setCell _ _ _ _ hk]
theorem HIn.put {w : World} {hb g c : Nat} {fv : Value} {A : List Nd} {p n : Nat} {F : Nat → Prop} (h : HIn w hb fv A p F (.slice (some ⟨g, 0, none⟩) n c)) (hn : n = A.length) (i : Nat) (x : Nd) : HIn (put3 w g i x) hb fv (A.set i x) p F (.slice (some ⟨g, 0, none⟩) n c) ∧ Chg F w (put3 w g i x) := by
  subst hn
  have hgF := h.rowF g rfl
  refine ⟨⟨fun b hb => by rw [put3_size]; exact h.lt b hb, h.own, by rw [put3_block _ _ _ _ (hne h)]; exact h.obj, ?_, h.rowF⟩, ?_⟩
  · rw [List.length_set, ← rowN_set]
    exact (((h.row.stored (i * 3) _).1.stored (i * 3 + 1) _).1.stored (i * 3 + 2) _).1
  · exact (((Chg.refl F w).setCell (.inl hgF) _).setCell (.inl hgF) _).setCell (.inl hgF) _
end Hp
end Go.Proofs.Ytddfljlecnllaaa
