/- Layer 8, a heap of cursors: next. -/
import Derived.Test.YtamlfmohalkemaaCd
namespace Go.Proofs.Ytamlfmohalkemaa
open Go.RowKit
namespace Hpc
open Hp
variable {C : Cx}
theorem infoN : (Try.prog.info? 85).map (fun i => (i.zero, i.size, i.bytes)) = some (some (.agg #[.slice none 0 0, .int .i64 0]), 2, 32) := by kernel_rfl
/-- one node behind the nodes -/
theorem push_node {W : World} {v : Value} {A : List Nd} (hown : W.ownsRow 0 85 2 v A.length (rowN A)) (b : Nat) (x : Nd) (h0 : W.cell? ⟨b, 0, none⟩ = some (.slice x.1.ao x.1.n x.1.c)) (h1 : W.cell? ⟨b, 1, none⟩ = some (.int .i64 x.2)) (hz : A.length ≤ 1099511627776) (ty : TypeId) (c : Nat) :
    ∃ v' W', (Builtin.append_ #[63, 63] ty #[v, .slice (some ⟨b, 0, none⟩) 1 c]).run Try.prog W = .ok v' W' ∧ W'.ownsRow 0 85 2 v' (A ++ [x]).length (rowN (A ++ [x])) ∧ W.grownBy W' v.ownBlock ∧ (v'.ownBlock = v.ownBlock ∨ v'.ownBlock = some W.heap.size) := by
  obtain ⟨i, hi, hz'⟩ := Option.map_eq_some_iff.1 infoN
  simp only [Prod.mk.injEq] at hz'
  obtain ⟨hz0, hz1, hz2⟩ := hz'
  have q := append_blk (P := Try.prog) W 63 ty 85 i _ 2 32 Try.underlying63 hi hz0 hz1 hz2 rfl (by decide) v A.length (rowN A) hown ⟨b, 0, none⟩ 1 c [.slice x.1.ao x.1.n x.1.c, .int .i64 x.2] rfl (fun j u hj => by
    rw [addr0]
    rcases j with _ | _ | j
    · simp at hj; subst hj; exact h0
    · simp at hj; subst hj; exact h1
    · simp at hj) (by intro u hu; simp at hu; rcases hu with rfl | rfl <;> rfl) (by unfold maxLen; omega) (by omega)
  rw [rowN_app, List.length_append]
  exact q

/-- a heap that stands: the items I in the order of their coming in, p put in so far -/
def HAt (C : Cx) (w : World) (hb : Nat) (fv : Value) (lt : It → It → Bool) (I : List It) (p : Nat) (F : Nat → Prop) : Prop := ∃ A nv, HIn C w hb fv A p F nv ∧ Bag A I p ∧ Shape lt (gd A) A.length
theorem HAt.lt {w : World} {hb : Nat} {fv : Value} {lt : It → It → Bool} {I : List It} {p : Nat} {F : Nat → Prop} (h : HAt C w hb fv lt I p F) : ∀ b, F b → b < w.heap.size := by
  obtain ⟨A, nv, h, _⟩ := h
  exact h.lt
theorem HAt.kw {w : World} {hb : Nat} {fv : Value} {lt : It → It → Bool} {I : List It} {p : Nat} {F : Nat → Prop} (h : HAt C w hb fv lt I p F) : C.K w := by
  obtain ⟨A, nv, h, _⟩ := h
  exact h.kw
theorem HAt.fn {w : World} {hb : Nat} {fv : Value} {lt : It → It → Bool} {I : List It} {p : Nat} {F : Nat → Prop} (h : HAt C w hb fv lt I p F) : ∀ b, F b → C.N b := by
  obtain ⟨A, nv, h, _⟩ := h
  exact h.fn
theorem HAt.sz {w : World} {hb : Nat} {fv : Value} {lt : It → It → Bool} {I : List It} {p : Nat} {F : Nat → Prop} (h : HAt C w hb fv lt I p F) : C.D ≤ w.heap.size := by
  obtain ⟨A, nv, h, _⟩ := h
  exact h.sz
theorem HIn.kset {w : World} {hb : Nat} {fv nv : Value} {A : List Nd} {p : Nat} {F : Nat → Prop} (h : HIn C w hb fv A p F nv) (k : Nat) (v : Value) : C.K (w.setCell ⟨hb, k, none⟩ v) :=
  C.keeps _ _ h.kw (by simp [World.setCell]) fun b _ hn => Below.heap_setCell _ _ _ _ fun e => hn (by rw [show b = hb from e]; exact h.fn _ h.own)
theorem HAt.kept {w w' : World} {hb : Nat} {fv : Value} {lt : It → It → Bool} {I : List It} {p : Nat} {F G : Nat → Prop} (h : HAt C w hb fv lt I p F) (hk : ∀ b, F b → w'.heap[b]? = w.heap[b]?) (hG : ∀ b, F b → G b) (hl : ∀ b, G b → b < w'.heap.size) (hK : C.K w') (hN : ∀ b, G b → C.N b) (hs : w.heap.size ≤ w'.heap.size) : HAt C w' hb fv lt I p G := by
  obtain ⟨A, nv, h, r⟩ := h
  exact ⟨A, nv, h.kept hk hG hl hK hN hs, r⟩
theorem HAt.below {w w' : World} {hb : Nat} {fv : Value} {lt : It → It → Bool} {I : List It} {p : Nat} {F : Nat → Prop} (h : HAt C w hb fv lt I p F) (k : Below w.heap.size w w') : HAt C w' hb fv lt I p F :=
  h.kept (fun b hF => k.block b (h.lt b hF)) (fun _ x => x) (fun b hF => Nat.lt_of_lt_of_le (h.lt b hF) k.size) (C.below h.kw k) h.fn k.size
/-- behind a call -/
def Res (C : Cx) (F : Nat → Prop) (w : World) (hb : Nat) (fv : Value) (lt : It → It → Bool) (I : List It) (p : Nat) (w' : World) : Prop := HAt C w' hb fv lt I p (Up F w w') ∧ Chg F w w'
theorem HIn.up {w' : World} {hb : Nat} {fv nv : Value} {A : List Nd} {p : Nat} {F : Nat → Prop} (h : HIn C w' hb fv A p F nv) (w0 : World) (hD : C.D ≤ w0.heap.size) : HIn C w' hb fv A p (Up F w0 w') nv :=
  h.kept (fun _ _ => rfl) (fun _ x => .inl x) (fun b hb => hb.elim (h.lt b) (fun x => x.2)) h.kw (fun b hb => hb.elim (h.fn b) (fun x => C.new b (Nat.le_trans hD x.1))) (Nat.le_refl _)
/-- the count was set -/
theorem HIn.count {w : World} {hb : Nat} {fv nv : Value} {A : List Nd} {p : Nat} {F : Nat → Prop} (h : HIn C w hb fv A p F nv) (q : Nat) (v : Value) (hv : v = .int .i64 q) : HIn C (w.setCell ⟨hb, 2, none⟩ v) hb fv A q F nv := by
  subst hv
  refine ⟨fun b hb => by simpa using h.lt b hb, h.own, by rw [set_heap1 h.obj]; rfl, own_kept h.row fun g hg => Below.heap_setCell _ _ _ _ fun e => ?_, h.rowF, h.zz, h.kset 2 _, h.fn, by simpa using h.sz⟩
  have e : g = hb := e
  obtain ⟨C, fz, hx⟩ := Lib.ownsRow_kind h.row g hg
  rw [e, h.obj] at hx
  injection hx with hx
  injection hx with _ hx _
  exact absurd hx (by decide)
set_option maxRecDepth 100000 in
theorem next_any {w : World} {hb : Nat} {fv nv : Value} {A : List Nd} {p : Nat} {F : Nat → Prop} (h : HIn C w hb fv A p F nv) (hp : p ≤ 4611686018427387904) (x : It) :
    Calls Try.prog 60 #[.pointer (some ⟨hb, 0, none⟩), .slice x.ao x.n x.c] w fun e w' => e = .returned (.agg #[.slice x.ao x.n x.c, .int .i64 ((p + 1 : Nat) : Int)]) ∧ HIn C w' hb fv A (p + 1) F nv ∧ Chg F w w' := by
  obtain ⟨c0, c1, c2, cf, hl⟩ := hcells h.obj
  have HF : Hid (∀ (v : Value) (o1 : Obj), v = .int .i64 ((p + 1 : Nat) : Int) → HIn C ((w.setCell ⟨hb, 2, none⟩ v).alloc o1) hb fv A (p + 1) F nv ∧ Chg F w ((w.setCell ⟨hb, 2, none⟩ v).alloc o1)) := fun v o1 hv =>
    ⟨(h.count (p + 1) v hv).below ((Below.refl _ _).alloc (Nat.le_refl _) o1), ((Chg.refl F w).setCell (.inl h.own) v).alloc o1⟩
  clear h
  have ep : ((p + 1 : Nat) : Int) = (p : Int) + 1 := by omega
  rw [ep]
  rw [ep] at HF
  clear ep
  go_enter Try.func60, Try.ntmps60
  go_wp2
  refine gen_post ?_
  intro V hV
  have v0 : V.cell? ⟨w.heap.size, 0, none⟩ = some (.slice x.ao x.n x.c) := by rw [hV]; go_simp
  have v1 : V.cell? ⟨w.heap.size, 1, none⟩ = some (.int .i64 ((p : Int) + 1)) := by rw [hV]; go_simp
  have HE : Hid (HIn C V hb fv A (p + 1) F nv ∧ Chg F w V) := by rw [hV]; exact unhide HF _ _ rfl
  clear hV
  exact bodyPost_ret (v := .agg #[.slice x.ao x.n x.c, .int .i64 ((p : Int) + 1)]) (by simp [results, Try.results60, go_sem, v0, v1]) rfl ⟨rfl, unhide HE⟩
end Hpc
end Go.Proofs.Ytamlfmohalkemaa
