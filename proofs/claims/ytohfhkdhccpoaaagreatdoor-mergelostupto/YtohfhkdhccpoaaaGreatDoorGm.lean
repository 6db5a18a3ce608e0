/- Layer 8, a heap of cursors: next. -/
import Derived.Test.YtohfhkdhccpoaaaGreatDoorGl
namespace Go.Proofs.YtohfhkdhccpoaaaGreatDoor
open Go.RowKit
namespace Hpc
open Hp
variable {C : Cx}
theorem infoN : (Tryz.prog.info? 229).map (fun i => (i.zero, i.size, i.bytes)) = some (some (.agg #[.slice none 0 0, .int .i64 0]), 2, 32) := by kernel_rfl
/-- one node behind the nodes -/
theorem push_node {W : World} {v : Value} {A : List Nd} (hown : W.ownsRow 0 229 2 v A.length (rowN A)) (b : Nat) (x : Nd) (h0 : W.cell? ⟨b, 0, none⟩ = some (.slice x.1.ao x.1.n x.1.c)) (h1 : W.cell? ⟨b, 1, none⟩ = some (.int .i64 x.2)) (hz : A.length ≤ 1099511627776) (ty : TypeId) (c : Nat) :
    ∃ v' W', (Builtin.append_ #[218, 218] ty #[v, .slice (some ⟨b, 0, none⟩) 1 c]).run Tryz.prog W = .ok v' W' ∧ W'.ownsRow 0 229 2 v' (A ++ [x]).length (rowN (A ++ [x])) ∧ W.grownBy W' v.ownBlock ∧ (v'.ownBlock = v.ownBlock ∨ v'.ownBlock = some W.heap.size) := by
  obtain ⟨i, hi, hz'⟩ := Option.map_eq_some_iff.1 infoN
  simp only [Prod.mk.injEq] at hz'
  obtain ⟨hz0, hz1, hz2⟩ := hz'
  have q := append_blk (P := Tryz.prog) W 218 ty 229 i _ 2 32 Tryz.underlying218 hi hz0 hz1 hz2 rfl (by decide) v A.length (rowN A) hown ⟨b, 0, none⟩ 1 c [.slice x.1.ao x.1.n x.1.c, .int .i64 x.2] rfl (fun j u hj => by
    rw [addr0]
    rcases j with _ | _ | j
    · simp at hj; subst hj; exact h0
    · simp at hj; subst hj; exact h1
    · simp at hj) (by intro u hu; simp at hu; rcases hu with rfl | rfl <;> rfl) (by unfold maxLen; omega) (by omega)
  rw [rowN_app, List.length_append]
  exact q

/-- a heap that stands: the items I in the order of their coming in, p put in so far -/
def HAt (C : Cx) (w : World) (hb : Nat) (fv : Value) (lt : It → It → Bool) (I : List It) (p : Nat) (F : Nat → Prop) : Prop := ∃ A nv, HIn C w hb fv A p F nv ∧ Bag A I p ∧ Shape lt (gd A) A.length
theorem HAt.lt {w : World} {hb : Nat} {fv : Value} {lt : It → It → Bool} {I : List It} {p : Nat} {F : Nat → Prop} (h : HAt C w hb fv lt I p F) : ∀ b, F b → b < w.heap.size := by
  obtain ⟨A, nv, h, _⟩ := h
  exact h.lt
theorem HAt.kw {w : World} {hb : Nat} {fv : Value} {lt : It → It → Bool} {I : List It} {p : Nat} {F : Nat → Prop} (h : HAt C w hb fv lt I p F) : C.K w := by
  obtain ⟨A, nv, h, _⟩ := h
  exact h.kw
theorem HAt.fn {w : World} {hb : Nat} {fv : Value} {lt : It → It → Bool} {I : List It} {p : Nat} {F : Nat → Prop} (h : HAt C w hb fv lt I p F) : ∀ b, F b → C.N b := by
  obtain ⟨A, nv, h, _⟩ := h
  exact h.fn
theorem HAt.sz {w : World} {hb : Nat} {fv : Value} {lt : It → It → Bool} {I : List It} {p : Nat} {F : Nat → Prop} (h : HAt C w hb fv lt I p F) : C.D ≤ w.heap.size := by
  obtain ⟨A, nv, h, _⟩ := h
  exact h.sz
theorem HIn.kset {w : World} {hb : Nat} {fv nv : Value} {A : List Nd} {p : Nat} {F : Nat → Prop} (h : HIn C w hb fv A p F nv) (k : Nat) (v : Value) : C.K (w.setCell ⟨hb, k, none⟩ v) :=
  C.keeps _ _ h.kw (by simp [World.setCell]) fun b _ hn => Below.heap_setCell _ _ _ _ fun e => hn (by rw [show b = hb from e]; exact h.fn _ h.own)
theorem HAt.kept {w w' : World} {hb : Nat} {fv : Value} {lt : It → It → Bool} {I : List It} {p : Nat} {F G : Nat → Prop} (h : HAt C w hb fv lt I p F) (hk : ∀ b, F b → w'.heap[b]? = w.heap[b]?) (hG : ∀ b, F b → G b) (hl : ∀ b, G b → b < w'.heap.size) (hK : C.K w') (hN : ∀ b, G b → C.N b) (hs : w.heap.size ≤ w'.heap.size) : HAt C w' hb fv lt I p G := by
  obtain ⟨A, nv, h, r⟩ := h
  exact ⟨A, nv, h.kept hk hG hl hK hN hs, r⟩
theorem HAt.below {w w' : World} {hb : Nat} {fv : Value} {lt : It → It → Bool} {I : List It} {p : Nat} {F : Nat → Prop} (h : HAt C w hb fv lt I p F) (k : Below w.heap.size w w') : HAt C w' hb fv lt I p F :=
  h.kept (fun b hF => k.block b (h.lt b hF)) (fun _ x => x) (fun b hF => Nat.lt_of_lt_of_le (h.lt b hF) k.size) (C.below h.kw k) h.fn k.size
/-- behind a call -/
def Res (C : Cx) (F : Nat → Prop) (w : World) (hb : Nat) (fv : Value) (lt : It → It → Bool) (I : List It) (p : Nat) (w' : World) : Prop := HAt C w' hb fv lt I p (Up F w w') ∧ Chg F w w'
theorem HIn.up {w' : World} {hb : Nat} {fv nv : Value} {A : List Nd} {p : Nat} {F : Nat → Prop} (h : HIn C w' hb fv A p F nv) (w0 : World) (hD : C.D ≤ w0.heap.size) : HIn C w' hb fv A p (Up F w0 w') nv :=
  h.kept (fun _ _ => rfl) (fun _ x => .inl x) (fun b hb => hb.elim (h.lt b) (fun x => x.2)) h.kw (fun b hb => hb.elim (h.fn b) (fun x => C.new b (Nat.le_trans hD x.1))) (Nat.le_refl _)
/-- the count was set -/
theorem HIn.count {w : World} {hb : Nat} {fv nv : Value} {A : List Nd} {p : Nat} {F : Nat → Prop} (h : HIn C w hb fv A p F nv) (q : Nat) (v : Value) (hv : v = .int .i64 q) : HIn C (w.setCell ⟨hb, 2, none⟩ v) hb fv A q F nv := by
  subst hv
  refine ⟨fun b hb => by simpa using h.lt b hb, h.own, by rw [set_heap1 h.obj]; rfl, own_kept h.row fun g hg => Below.heap_setCell _ _ _ _ fun e => ?_, h.rowF, h.zz, h.kset 2 _, h.fn, by simpa using h.sz⟩
  have e : g = hb := e
  obtain ⟨C, fz, hx⟩ := Lib.ownsRow_kind h.row g hg
  rw [e, h.obj] at hx
  injection hx with hx
  injection hx with _ hx _
  exact absurd hx (by decide)
set_option maxRecDepth 100000 in
theorem next_any {w : World} {hb : Nat} {fv nv : Value} {A : List Nd} {p : Nat} {F : Nat → Prop} (h : HIn C w hb fv A p F nv) (hp : p ≤ 4611686018427387904) (x : It) :
    Calls Tryz.prog 163 #[.pointer (some ⟨hb, 0, none⟩), .slice x.ao x.n x.c] w fun e w' => e = .returned (.agg #[.slice x.ao x.n x.c, .int .i64 ((p + 1 : Nat) : Int)]) ∧ HIn C w' hb fv A (p + 1) F nv ∧ Chg F w w' := by
  obtain ⟨c0, c1, c2, cf, hl⟩ := hcells h.obj
  have HF : Hid (∀ (v : Value) (o1 : Obj), v = .int .i64 ((p + 1 : Nat) : Int) → HIn C ((w.setCell ⟨hb, 2, none⟩ v).alloc o1) hb fv A (p + 1) F nv ∧ Chg F w ((w.setCell ⟨hb, 2, none⟩ v).alloc o1)) := fun v o1 hv =>
    ⟨(h.count (p + 1) v hv).below ((Below.refl _ _).alloc (Nat.le_refl _) o1), ((Chg.refl F w).setCell (.inl h.own) v).alloc o1⟩
  clear h
  have ep : ((p + 1 : Nat) : Int) = (p : Int) + 1 := by omega
  rw [ep]
  rw [ep] at HF
  clear ep
  go_enter Tryz.func163, Tryz.ntmps163
  go_wp2
  refine gen_post ?_
  intro V hV
  have v0 : V.cell? ⟨w.heap.size, 0, none⟩ = some (.slice x.ao x.n x.c) := by rw [hV]; go_simp
  have v1 : V.cell? ⟨w.heap.size, 1, none⟩ = some (.int .i64 ((p : Int) + 1)) := by rw [hV]; go_simp
  have HE : Hid (HIn C V hb fv A (p + 1) F nv ∧ Chg F w V) := by rw [hV]; exact unhide HF _ _ rfl
  clear hV
  exact bodyPost_ret (v := .agg #[.slice x.ao x.n x.c, .int .i64 ((p : Int) + 1)]) (by simp [results, Tryz.results163, go_sem, v0, v1]) rfl ⟨rfl, unhide HE⟩
end Hpc
end Go.Proofs.YtohfhkdhccpoaaaGreatDoor
/- Layer 8, a heap of cursors: Push. -/
namespace Go.Proofs.YtohfhkdhccpoaaaGreatDoor
open Go.RowKit
namespace Hpc
open Hp
variable {C : Cx}
theorem ent_next (x y : Value) (W : World) : Sem.run Tryz.prog (callFunc 163 #[x, y]) W = .ok (.enter 163 #[x, y]) W := by kernel_rfl
theorem Res.trans {F : Nat → Prop} {w w1 w2 : World} {hb : Nat} {fv : Value} {lt : It → It → Bool} {I J : List It} {p q : Nat} (h : Res C F w hb fv lt I p w1) (k : Res C (Up F w w1) w1 hb fv lt J q w2) : Res C F w hb fv lt J q w2 :=
  ⟨k.1.kept (fun _ _ => rfl) (up_up h.2.size k.2.size) (fun _ hb => hb.elim (fun x => Nat.lt_of_lt_of_le (h.1.lt _ (.inl x)) k.2.size) (fun x => x.2)) k.1.kw (fun b hb => k.1.fn b (by
    rcases hb with e | e
    · exact .inl (.inl e)
    · by_cases q : b < w1.heap.size
      · exact .inl (.inr ⟨e.1, q⟩)
      · exact .inr ⟨by omega, e.2⟩)) (Nat.le_refl _), h.2.trans k.2⟩
theorem Res.below {F : Nat → Prop} {w w1 w2 : World} {hb : Nat} {fv : Value} {lt : It → It → Bool} {I : List It} {p : Nat} (h : Res C F w hb fv lt I p w1) (k : Below w1.heap.size w1 w2) : Res C F w hb fv lt I p w2 :=
  ⟨h.1.kept (fun b hF => k.block b (h.1.lt b hF)) (fun _ hb => hb.imp id fun x => ⟨x.1, Nat.lt_of_lt_of_le x.2 k.size⟩) (fun b hb => hb.elim (fun x => Nat.lt_of_lt_of_le (h.1.lt b (.inl x)) k.size) (fun x => x.2)) (C.below h.1.kw k) (fun b hb => by
    rcases hb with e | e
    · exact h.1.fn b (.inl e)
    · by_cases q : b < w1.heap.size
      · exact h.1.fn b (.inr ⟨e.1, q⟩)
      · exact C.new b (Nat.le_trans h.1.sz (by omega))) k.size, h.2.trans (Chg.of_below k)⟩
theorem Res.start {F : Nat → Prop} {w : World} {hb : Nat} {fv : Value} {lt : It → It → Bool} {I : List It} {p : Nat} (h : HAt C w hb fv lt I p F) : Res C F w hb fv lt I p w :=
  ⟨h.kept (fun _ _ => rfl) (fun _ x => .inl x) (fun b hb => hb.elim (h.lt b) (fun x => x.2)) h.kw (fun b hb => hb.elim (h.fn b) (fun x => by omega)) (Nat.le_refl _), Chg.refl _ _⟩
/-- items in a list that does not lie in the blocks F -/
def Its (w : World) (v : Value) (X : List It) (F : Nat → Prop) : Prop := ∃ ao cap, v = .slice ao X.length cap ∧ (0 < X.length → ∃ g off, ao = some ⟨g, off, none⟩ ∧ g < w.heap.size ∧ ¬ F g ∧ ∀ (j : Nat) x, X[j]? = some x → w.cell? ⟨g, off + j, none⟩ = some (.slice x.ao x.n x.c))
theorem Its.chg {w w' : World} {v : Value} {X : List It} {F : Nat → Prop} (h : Its w v X F) (c : Chg F w w') : Its w' v X F := by
  obtain ⟨ao, cap, e, h⟩ := h
  refine ⟨ao, cap, e, fun h0 => ?_⟩
  obtain ⟨g, off, e1, hg, hF, hc⟩ := h h0
  refine ⟨g, off, e1, Nat.lt_of_lt_of_le hg c.size, hF, fun j x hx => ?_⟩
  have hb := c.block g hg hF
  exact (World.cell?_of_block (a := ⟨g, off + j, none⟩) hb).trans (hc j x hx)
theorem Its.mono {w : World} {v : Value} {X : List It} {F G : Nat → Prop} (h : Its w v X F) (hG : ∀ b, b < w.heap.size → G b → F b) : Its w v X G := by
  obtain ⟨ao, cap, e, h⟩ := h
  refine ⟨ao, cap, e, fun h0 => ?_⟩
  obtain ⟨g, off, e1, hg, hF, hc⟩ := h h0
  exact ⟨g, off, e1, hg, fun x => hF (hG g hg x), hc⟩
/-- the nodes were grown by one, in a row that may have moved -/
theorem HIn.pushed {w W5 : World} {hb : Nat} {fv nv nv' : Value} {A : List Nd} {p : Nat} {F : Nat → Prop} {x : Nd} (h : HIn C w hb fv A p F nv) (hown : W5.ownsRow 0 229 2 nv' (A ++ [x]).length (rowN (A ++ [x]))) (hg : w.grownBy W5 nv.ownBlock) (zx : C.Z x.1) (hbk : nv'.ownBlock = nv.ownBlock ∨ nv'.ownBlock = some w.heap.size) :
    W5.cell? ⟨hb, 1, none⟩ = some nv ∧ W5.frozen? ⟨hb, 1, none⟩ = false ∧ HIn C (W5.setCell ⟨hb, 1, none⟩ nv') hb fv (A ++ [x]) p (Up F w W5) nv' ∧ Chg F w (W5.setCell ⟨hb, 1, none⟩ nv') ∧ hb < W5.heap.size := by
  have hne : nv.ownBlock ≠ some hb := fun e => by
    obtain ⟨C, fz, hx⟩ := Lib.ownsRow_kind h.row hb e
    rw [h.obj] at hx
    injection hx with hx
    injection hx with _ hx _
    exact absurd hx (by decide)
  have hlt := h.lt _ h.own
  have ho : W5.heap[hb]? = _ := (hg.block hb hlt (fun e => hne e.symm)).trans h.obj
  obtain ⟨c0, c1, c2, cf, hl⟩ := hcells ho
  have hne' : nv'.ownBlock ≠ some hb := fun e => by
    rcases hbk with q | q
    · exact hne (q ▸ e)
    · rw [q] at e; injection e with e; omega
  have hsz := hg.size
  have hch : Chg F w (W5.setCell ⟨hb, 1, none⟩ nv') := ((Chg.refl F w).grown hg fun k hk => .inl (h.rowF k hk)).setCell (.inl h.own) _
  refine ⟨c1, cf 1, ⟨fun b hb => ?_, .inl h.own, by rw [set_heap1 ho]; rfl, own_kept hown fun g hg => Below.heap_setCell _ _ _ _ (fun e => hne' (by rw [hg, e])), fun g hg' => ?_, fun y hy => ?_, C.keeps _ _ h.kw hch.size fun b hb hn => hch.block b hb fun e => hn (h.fn b e), fun b hb => hb.elim (h.fn b) (fun x => C.new b (Nat.le_trans h.sz x.1)), Nat.le_trans h.sz hch.size⟩, hch, hl⟩
  · rcases hb with hb | hb
    · have := h.lt b hb; simp; omega
    · simpa using hb.2
  · rcases hbk with q | q
    · exact .inl (h.rowF g (q ▸ hg'))
    · rw [q] at hg'
      injection hg' with hg'
      have := (hown.lt g (by rw [q, hg'])).2
      exact .inr ⟨by omega, this⟩
  · rcases List.mem_append.1 hy with e | e
    · exact h.zz y e
    · simp at e; subst e; exact zx
theorem gd_app {A : List Nd} {x : Nd} {i : Nat} (h : i < A.length) : gd (A ++ [x]) i = gd A i := by
  unfold gd
  simp [List.getElem?_append_left h]
theorem shape_more {lt : It → It → Bool} {A : List Nd} {x : Nd} (h : Shape lt (gd A) A.length) : Rising lt (gd (A ++ [x])) (A ++ [x]).length ((A ++ [x]).length - 1) := by
  simp only [List.length_append, List.length_singleton, Nat.add_sub_cancel]
  refine ⟨fun i h0 hi hne => ?_, fun h0 c hc hc0 hp => by simp only [par] at hp; omega⟩
  rw [gd_app (by omega), gd_app (by simp only [par]; omega)]
  exact h i h0 (by omega)
theorem push_fin {F : Nat → Prop} {w wr V w3 W5 w7 : World} {hb : Nat} {fv nv nv7 : Value} {lt : It → It → Bool} {I J : List It} {p q : Nat} {B : List Nd} {o : Obj} (hR : Res C F w hb fv lt I p wr) (hV : Below wr.heap.size wr V) (h4 : Chg (Up F w wr) V.drew w3) (h5 : Chg (Up F w wr) (w3.alloc o) (W5.setCell ⟨hb, 1, none⟩ nv)) (h6 : HIn C w7 hb fv B q (Up (Up F w wr) (w3.alloc o) W5) nv7) (h7 : Chg (Up (Up F w wr) (w3.alloc o) W5) (W5.setCell ⟨hb, 1, none⟩ nv) w7) (hbag : Bag B J q) (hsh : Shape lt (gd B) B.length) : Res C F w hb fv lt J q w7 := by
  have c1 : Chg (Up F w wr) wr w3 := (Chg.of_below hV).drew.then h4
  have c2 : Chg (Up F w wr) wr (W5.setCell ⟨hb, 1, none⟩ nv) := (c1.alloc o).then h5
  have s1 := c1.size
  have s2 := c2.size
  have s3 := h7.size
  have s5 := h5.size
  have e5 : (W5.setCell ⟨hb, 1, none⟩ nv).heap.size = W5.heap.size := by simp
  have eo : (w3.alloc o).heap.size = w3.heap.size + 1 := by simp
  rw [e5] at s2 s3 s5
  rw [eo] at s5
  have c3 : Chg (Up F w wr) wr w7 := c2.trans (h7.mono fun b hb => by
    rcases hb with hb | hb
    · exact .inl hb
    · refine .inr ⟨?_, ?_⟩
      · have := hb.1; simp at this; omega
      · simpa using hb.2)
  refine hR.trans ⟨⟨B, nv7, h6.kept (fun _ _ => rfl) (fun b hb => ?_) (fun b hb => ?_) h6.kw (fun b hb => hb.elim (hR.1.fn b) (fun x => C.new b (Nat.le_trans hR.1.sz x.1))) (Nat.le_refl _), hbag, hsh⟩, c3⟩
  · rcases hb with hb | hb
    · exact .inl hb
    · refine .inr ⟨?_, ?_⟩
      · have := hb.1; simp at this; omega
      · have := hb.2; omega
  · rcases hb with hb | hb
    · exact Nat.lt_of_lt_of_le (hR.1.lt b hb) c3.size
    · exact hb.2
set_option maxRecDepth 100000 in
set_option maxHeartbeats 4000000 in
theorem push_any {fv : Value} {lt : It → It → Bool} (L : LessV C fv lt) {w : World} {hb : Nat} {I : List It} {p : Nat} {F : Nat → Prop} (h : HAt C w hb fv lt I p F) {v : Value} {X : List It} (hx : Its w v X F) (zX : ∀ x ∈ X, C.Z x) (hz : I.length + X.length ≤ 1099511627775) (hp : p + X.length ≤ 4611686018427387904) :
    Calls Tryz.prog 153 #[.pointer (some ⟨hb, 0, none⟩), v] w fun e w' => e = .returned (.tuple #[]) ∧ Res C F w hb fv lt (I ++ X) (p + X.length) w' := by
  have HX := hide hx
  have HZX := hide zX
  clear zX
  obtain ⟨ao, cap, rfl, hat⟩ := hx
  have HL := hide L
  have H0 := hide (Res.start h)
  clear h L hat
  have HIP : Hid (∀ k, k ≤ X.length → I.length + k ≤ 1099511627775 ∧ p + k ≤ 4611686018427387904) := fun k hk => by omega
  generalize hn : X.length = n at *
  have HN := hide hn
  clear hn hz hp
  go_enter Tryz.func153, Tryz.ntmps153
  go_wp2
  go_loopw [10] (fun s10 wr => ∃ (k : Nat), s10 = .int .i64 k ∧ k ≤ n ∧ Hid (Res C F w hb fv lt (I ++ X.take k) (p + k) wr)) (fun s10 _ => n - (intOf s10).toNat)
  case atStart => exact ⟨0, rfl, Nat.zero_le _, by simpa using H0⟩
  case round =>
    obtain ⟨k, rfl, hk, HR⟩ := hrel
    by_cases hlt : k < n
    · have hltz : (k : Int) < (n : Int) := by omega
      have hk0 : 0 ≤ (k : Int) := by omega
      obtain ⟨x, hx⟩ : ∃ x, X[k]? = some x := ⟨_, List.getElem?_eq_getElem (by rw [unhide HN]; exact hlt)⟩
      have hXr := (unhide HX).chg (unhide HR).2
      obtain ⟨ao', cap', e1, hat⟩ := hXr
      obtain ⟨g, off, e2, hg, hF, hc⟩ := hat (by rw [unhide HN]; omega)
      have e3 : ao = ao' := by injection e1
      clear e1
      subst e3
      subst e2
      have x0 := hc k x hx
      obtain ⟨A, nv, hin, hbag, hsh⟩ := (unhide HR).1
      have hAl : A.length = I.length + k := by rw [hbag.len]; simp [unhide HN]; omega
      have hb1 := (unhide HIP k hk).1
      have hb2 := (unhide HIP k hk).2
      obtain ⟨c0, c1, c2, cf, hl⟩ := hcells hin.obj
      have HT : Hid (I ++ X.take (k + 1) = (I ++ X.take k) ++ [x]) := by
        rw [Hid, List.take_succ_eq_append_getElem (by rw [unhide HN]; exact hlt), (List.getElem?_eq_some_iff.1 hx).2, List.append_assoc]
      obtain ⟨q, hq⟩ : ∃ q, q = p + k + 1 := ⟨_, rfl⟩
      have HZx := hide (unhide HZX x (List.mem_of_getElem? hx))
      have HIN := hide hin
      have HBAG : Hid (Bag (A ++ [(x, q)]) ((I ++ X.take k) ++ [x]) q) := by rw [hq]; exact hbag.push x
      have HSH := hide (shape_more (x := (x, q)) hsh)
      have HAL := hide hAl
      have HNX : Hid (∀ W, Below wr.heap.size wr W → Calls Tryz.prog 163 #[.pointer (some ⟨hb, 0, none⟩), .slice x.ao x.n x.c] W fun e w' => e = .returned (.agg #[.slice x.ao x.n x.c, .int .i64 (q : Int)]) ∧ HIn C w' hb fv A q (Up F w wr) nv ∧ Chg (Up F w wr) W w') := fun W hW => by
        rw [hq]
        exact next_any (hin.below hW) hb2 x
      have HLT := hide hin.lt
      have HQ := hide hq
      clear hat hc hx hin hbag hsh hAl c0 c2 hq
      go_wp2
      refine gen_world ?_
      intro V hV
      have s0 : V.cell? ⟨hb, 1, none⟩ = some nv := by rw [hV]; exact c1
      have hVB : Below wr.heap.size wr V := by rw [hV]; exact Below.refl _ _
      have HVB := hide hVB
      clear hV hVB
      go_region_law
        (first
          | (refine step_call2 (by rfl) 163 _ _ _ (by rfl) (.pointer (some ⟨hb, 0, none⟩)) (.slice x.ao x.n x.c) (by rfl) (by rfl) (fun W => ent_next _ _ W) ((unhide HNX _ (unhide HVB).drew).mono ?_)
             rintro e w3 ⟨rfl, h3, h4⟩
             refine ⟨_, rfl, ?_⟩
             have k3 : w3.cell? ⟨hb, 1, none⟩ = some nv := (hcells h3.obj).2.1
             have hl3 : hb < w3.heap.size := (hcells h3.obj).2.2.2.2
             obtain ⟨nv5, W5, hap, hown5, hgr5, hbk5⟩ := push_node (W := w3.alloc (.cells #[.slice x.ao x.n x.c, .int .i64 (q : Int)] 229)) (h3.row.alloc _) w3.heap.size (x, q) (World.cell?_alloc_at _ _ _ _ rfl) (World.cell?_alloc_at _ _ _ _ rfl) (by rw [unhide HAL]; omega) 218 1
             obtain ⟨a5, c5, rfl⟩ := own_slice hown5
             have HAP := hide hap
             obtain ⟨z1, z2, z3, z4, z5⟩ := HIn.pushed (h3.below ((Below.refl _ _).alloc (Nat.le_refl _) _)) hown5 hgr5 (unhide HZx) hbk5
             have HZ := hide (And.intro z3 z4)
             have H4 := hide h4
             clear h3 h4 hap hown5 hgr5 hbk5 z3 z4)
          | (refine step_app (by rfl) _ _ _ (by rfl) _ _ _ _ (by rfl) (by rfl) (by exact unhide HAP) ?_))
      all_goals
        have HRS := hide (rise_any (unhide HL) (unhide HZ).1 (by simp) (by simp [unhide HAL]; omega) (unhide HSH))
        rw [List.length_append, List.length_singleton] at HRS HZ
        go_wp2_with (go_at_call 164; refine (unhide HRS).mono ?_; rintro e w7 ⟨rfl, hB7⟩; have H7 := hide hB7; clear hB7)
        have HFI : Hid (Res C F w hb fv lt (I ++ X.take (k + 1)) (p + (k + 1)) w7) := by
          obtain ⟨B, y1, y2, y3, y4⟩ := unhide H7
          rw [unhide HT, show p + (k + 1) = q by rw [unhide HQ]; omega]
          exact push_fin (unhide HR) (unhide HVB) (unhide H4) (unhide HZ).2 y1 y4 ((unhide HBAG).perm y2) y3
        clear H7 HRS HZ H4 HAP k3
        go_roundw
        case rel => exact ⟨k + 1, by go_num, by omega, HFI⟩
        case measure => simp [intOf]; omega
    · obtain rfl : k = n := by omega
      have hltz : ¬ (k : Int) < (k : Int) := by omega
      have HE : Hid (X.take k = X) := by rw [Hid, ← unhide HN, List.take_length]
      rw [unhide HE] at HR
      clear HE
      go_wp2
      go_end0
      exact ⟨rfl, unhide HR⟩
end Hpc
end Go.Proofs.YtohfhkdhccpoaaaGreatDoor
/- Layer 8, a heap of cursors: Len, Peek. -/
namespace Go.Proofs.YtohfhkdhccpoaaaGreatDoor
open Go.RowKit
namespace Hpc
open Hp
variable {C : Cx}
theorem len_in {fv nv : Value} {w : World} {hb : Nat} {A : List Nd} {p : Nat} {F : Nat → Prop} (h : HIn C w hb fv A p F nv) :
    Calls Tryz.prog 133 #[.pointer (some ⟨hb, 0, none⟩)] w fun e w' => e = .returned (.int .i64 A.length) ∧ w' = w := by
  obtain ⟨c0, c1, c2, cf, hl⟩ := hcells h.obj
  obtain ⟨ao, c, rfl⟩ := own_slice h.row
  clear h c0 c2
  go_enter Tryz.func133, Tryz.ntmps133
  go_wp2
  go_ret
  exact ⟨rfl, rfl⟩
theorem len_any {fv : Value} {lt : It → It → Bool} {w : World} {hb : Nat} {I : List It} {p : Nat} {F : Nat → Prop} (h : HAt C w hb fv lt I p F) :
    Calls Tryz.prog 133 #[.pointer (some ⟨hb, 0, none⟩)] w fun e w' => e = .returned (.int .i64 I.length) ∧ w' = w := by
  obtain ⟨A, nv, h1, h2, h3⟩ := h
  rw [← h2.len]
  exact len_in h1
set_option maxRecDepth 100000 in
theorem peek_none {fv nv : Value} {w : World} {hb : Nat} {p : Nat} {F : Nat → Prop} (h : HIn C w hb fv [] p F nv) :
    Calls Tryz.prog 154 #[.pointer (some ⟨hb, 0, none⟩)] w fun e w' => e = .returned (.tuple #[.slice none 0 0, .bool false]) ∧ w' = w := by
  have HL : Hid (Calls Tryz.prog 133 #[.pointer (some ⟨hb, 0, none⟩)] w fun e w' => e = .returned (.int .i64 0) ∧ w' = w) := len_in h
  clear h
  go_enter Tryz.func154, Tryz.ntmps154
  go_wp2_with (go_at_call 133; refine (unhide HL).mono ?_; rintro e w1 ⟨rfl, hw1⟩; have hw2 := hw1.symm; subst hw2; clear hw1)
  exact bodyPost_ret (v := .tuple #[.slice none 0 0, .bool false]) (by simp [results, Tryz.results154, go_sem]) rfl ⟨rfl, rfl⟩
set_option maxRecDepth 100000 in
theorem peek_some {fv : Value} {w : World} {hb g c : Nat} {A : List Nd} {p : Nat} {F : Nat → Prop} (h : HIn C w hb fv A p F (.slice (some ⟨g, 0, none⟩) A.length c)) (h0 : 0 < A.length) :
    Calls Tryz.prog 154 #[.pointer (some ⟨hb, 0, none⟩)] w fun e w' => e = .returned (.tuple #[.slice (gd A 0).1.ao (gd A 0).1.n (gd A 0).1.c, .bool true]) ∧ w' = w := by
  have HL : Hid (Calls Tryz.prog 133 #[.pointer (some ⟨hb, 0, none⟩)] w fun e w' => e = .returned (.int .i64 A.length) ∧ w' = w) := len_in h
  obtain ⟨c0, c1, c2, cf, hl⟩ := hcells h.obj
  obtain ⟨d0, d1, df⟩ := ncells h rfl
  have k0 : w.cell? ⟨g, 0, none⟩ = some (.slice (gd A 0).1.ao (gd A 0).1.n (gd A 0).1.c) := by simpa using d0 0 h0
  clear h d0 d1 c0 c2
  generalize gd A 0 = x at *
  generalize A.length = n at *
  have hnz : ((n : Int) == 0) = false := by simp; omega
  have hn0 : (0 : Int) < (n : Int) := by omega
  go_enter Tryz.func154, Tryz.ntmps154
  go_wp2_with (go_at_call 133; refine (unhide HL).mono ?_; rintro e w1 ⟨rfl, hw1⟩; have hw2 := hw1.symm; subst hw2; clear hw1)
  exact bodyPost_ret (v := .tuple #[.slice x.1.ao x.1.n x.1.c, .bool true]) (by simp [results, Tryz.results154, go_sem]) rfl ⟨rfl, rfl⟩
/-- what is least, without taking it -/
theorem HAt.top {fv : Value} {lt : It → It → Bool} (L : LessV C fv lt) {w : World} {hb : Nat} {I J : List It} {x : It} {p : Nat} {F : Nat → Prop} (h : HAt C w hb fv lt I p F) (hp : pop lt I = some (x, J)) :
    Calls Tryz.prog 154 #[.pointer (some ⟨hb, 0, none⟩)] w fun e w' => e = .returned (.tuple #[.slice x.ao x.n x.c, .bool true]) ∧ w' = w := by
  obtain ⟨A, nv, hin, hbag, hsh⟩ := h
  have hAl := hbag.len
  obtain ⟨ao, cap, rfl⟩ := own_slice hin.row
  have hA0 : 0 < A.length := by
    rw [hAl]
    cases I with
    | nil => simp [pop] at hp
    | cons y t => simp
  obtain ⟨g, rfl⟩ : ∃ g, ao = some ⟨g, 0, none⟩ := by
    rcases hin.row.2 with ⟨e1, e2⟩ | ⟨g, c, cur, e1, _⟩
    · omega
    · injection e1 with e1 _ _; exact ⟨g, e1⟩
  have q := peek_some hin hA0
  obtain ⟨a, T, rfl⟩ : ∃ a T, A = a :: T := by cases A with | nil => simp at hA0 | cons a T => exact ⟨a, T, rfl⟩
  obtain ⟨J', e1, e2⟩ := hbag.pop L.ord (fun y hy => by
    obtain ⟨i, hi⟩ := List.mem_iff_getElem?.1 hy
    have := hsh.root L.ord i (List.getElem?_eq_some_iff.1 hi).1
    rw [gd_some hi] at this
    exact this)
  rw [hp] at e1
  injection e1 with e1
  injection e1 with e1 e3
  rw [e1]
  exact q
end Hpc
end Go.Proofs.YtohfhkdhccpoaaaGreatDoor
/- Layer 8, a heap of cursors: Pop. -/
namespace Go.Proofs.YtohfhkdhccpoaaaGreatDoor
open Go.RowKit
namespace Hpc
open Hp
variable {C : Cx}
/-- the last node was cleared, and the list cut ahead of it -/
theorem HIn.cut {w : World} {hb g c l : Nat} {fv : Value} {A : List Nd} {p : Nat} {F : Nat → Prop} (h : HIn C w hb fv A p F (.slice (some ⟨g, 0, none⟩) (l + 1) c)) (hl : A.length = l + 1) (z : Nd) : HIn C ((put3 w g l z).setCell ⟨hb, 1, none⟩ (.slice (some ⟨g, 0, none⟩) l c)) hb fv (A.take l) p F (.slice (some ⟨g, 0, none⟩) l c) ∧ Chg F w ((put3 w g l z).setCell ⟨hb, 1, none⟩ (.slice (some ⟨g, 0, none⟩) l c)) := by
  obtain ⟨⟨h1lt, h1obj, h1row⟩, c1, k1⟩ := h.put0 hl.symm l z
  have hA : (A.set l z).length = l + 1 := by simpa using hl
  have hT : (A.take l).length = l := by simp; omega
  refine ⟨⟨fun b hb => by simpa using h1lt b hb, h.own, by rw [set_heap1 h1obj]; rfl, ?_, fun g' hg' => h.rowF g' hg', fun y hy => h.zz y (List.mem_of_mem_take hy), C.keeps _ _ k1 (by simp [World.setCell]) fun b _ hn => Below.heap_setCell _ _ _ _ fun e => hn (by rw [show b = hb from e]; exact h.fn _ h.own), h.fn, by have := Nat.le_trans h.sz c1.size; simpa using this⟩, c1.setCell (.inl h.own) _⟩
  have hrow := h1row
  rw [hA] at hrow
  have hgb : g ≠ hb := fun e => by
    obtain ⟨C, fz, hx⟩ := Lib.ownsRow_kind hrow g rfl
    subst e
    rw [h1obj] at hx
    injection hx with hx
    injection hx with _ hx _
    exact absurd hx (by decide)
  rw [hT]
  refine own_kept (W := put3 w g l z) ?_ (fun g' hg' => by
    have : g' = g := by injection hg' with hg'; exact hg'.symm
    rw [this]; exact Below.heap_setCell _ _ _ _ hgb)
  obtain ⟨hlen, ⟨e1, e2⟩ | ⟨g', cap, cur, e1, h1', hg', hn, hm, hs, ht⟩⟩ := hrow
  · cases e1
  · injection e1 with e1 e2 e3
    injection e1 with e1
    injection e1 with e1 _ _
    subst e1 e3
    refine ⟨by rw [rowN_len, hT], .inr ⟨g, c, cur, rfl, Nat.zero_le _, hg', by omega, hm, hs, ?_⟩⟩
    have := congrArg (List.take (l * 2)) ht
    rw [List.take_take, show min (l * 2) ((l + 1) * 2) = l * 2 by omega, rowN_take] at this
    rw [this, List.take_set_of_le (Nat.le_refl _)]
theorem shape_cut {lt : It → It → Bool} {A : List Nd} {l : Nat} (z : Nd) (h : Shape lt (gd A) A.length) (hl : A.length = l + 1) : Sinking lt (gd ((A.set 0 z).take l)) ((A.set 0 z).take l).length 0 := by
  have e : ∀ i, 0 < i → i < l → gd ((A.set 0 z).take l) i = gd A i := fun i h0 hi => by
    unfold gd
    simp only [List.getD_eq_getElem?_getD]
    rw [List.getElem?_take_of_lt hi, List.getElem?_set_ne (by omega)]
  have hL : ((A.set 0 z).take l).length = l := by simp; omega
  rw [hL]
  refine ⟨fun i h0 hi hp => ?_, fun h0 => by omega⟩
  rw [e i h0 hi, e (par i) (by omega) (by simp only [par]; omega)]
  exact h i h0 (by omega)
theorem cut_perm : ∀ {A : List Nd} {l : Nat}, A.length = l + 1 → ((A.set 0 (gd A l)).take l).Perm A.tail
  | [], l, h => by simp at h
  | a :: T, 0, h => by
    have : T = [] := List.eq_nil_of_length_eq_zero (by simpa using h)
    subst this
    simp
  | a :: T, m + 1, h => by
    have hT : T.length = m + 1 := by simpa using h
    have e : gd (a :: T) (m + 1) = T[m] := by simp [gd, hT]
    rw [e]
    simp only [List.set_cons_zero, List.take_succ_cons, List.tail_cons]
    have e2 : T = T.take m ++ [T[m]] := by
      conv => lhs; rw [← List.take_append_drop m T]
      congr 1
      rw [List.drop_eq_getElem_cons (by omega), List.drop_eq_nil_of_le (by omega)]
    conv => rhs; rw [e2]
    exact (List.perm_append_singleton _ _).symm
theorem clear_run {W : World} {g l c : Nat} {x : Nd} (m0 : W.cell? ⟨g, l * 2, none⟩ = some (.slice x.1.ao x.1.n x.1.c)) (m1 : W.cell? ⟨g, l * 2 + 1, none⟩ = some (.int .i64 x.2)) (hf : ∀ k, W.frozen? ⟨g, k, none⟩ = false) (ty : TypeId) :
    (Builtin.clear_ #[218] ty #[.slice (some ⟨g, l * 2, none⟩) 1 c]).run Tryz.prog W = .ok (.tuple #[]) (put3 W g l (cu0, 0)) := by
  have hv : ∀ w, (zeroValue 229).run Tryz.prog w = .ok (.agg #[.slice none 0 0, .int .i64 0]) w := fun w => by kernel_rfl
  have hst := run_storeCells_cells (P := Tryz.prog) g (l * 2) [.slice none 0 0, .int .i64 0] 0 W (fun j hj => by
    rcases j with _ | _ | j
    · simp [m0]
    · simp [m1]
    · simp at hj; omega) (fun j hj => hf _) (by intro v hv; simp at hv; rcases hv with rfl | rfl <;> rfl)
  have hz : (Builtin.zeroCells (Value.agg #[.slice none 0 0, .int .i64 0]).cells 1).toList = [.slice none 0 0, .int .i64 0] := by kernel_rfl
  simp [Builtin.clear_, run_underlying Tryz.underlying218, hv, hz, hst]
  rfl
set_option maxRecDepth 100000 in
theorem pop_end {fv : Value} {lt : It → It → Bool} {w : World} {hb : Nat} {p : Nat} {F : Nat → Prop} (h : HAt C w hb fv lt [] p F) :
    Calls Tryz.prog 156 #[.pointer (some ⟨hb, 0, none⟩)] w fun e w' => e = .returned (.tuple #[.slice none 0 0, .bool false]) ∧ w' = w := by
  obtain ⟨A, nv, hin, hbag, hsh⟩ := h
  have hA : A = [] := List.eq_nil_of_length_eq_zero (by rw [hbag.len]; rfl)
  subst hA
  have HPK := hide (peek_none hin)
  clear hin hbag hsh
  go_enter Tryz.func156, Tryz.ntmps156
  go_wp2_with (go_at_call 154; refine (unhide HPK).mono ?_; rintro e w1 ⟨rfl, hw1⟩; have hw2 := hw1.symm; subst hw2; clear hw1)
  exact bodyPost_ret (v := .tuple #[.slice none 0 0, .bool false]) (by simp [results, Tryz.results156, go_sem]) rfl ⟨rfl, rfl⟩
set_option maxRecDepth 100000 in
set_option maxHeartbeats 4000000 in
theorem pop_some {fv : Value} {lt : It → It → Bool} (L : LessV C fv lt) {w : World} {hb : Nat} {I J : List It} {x : It} {p : Nat} {F : Nat → Prop} (h : HAt C w hb fv lt I p F) (hz : I.length ≤ 1099511627776) (hp : pop lt I = some (x, J)) :
    Calls Tryz.prog 156 #[.pointer (some ⟨hb, 0, none⟩)] w fun e w' => e = .returned (.tuple #[.slice x.ao x.n x.c, .bool true]) ∧ Res C F w hb fv lt J p w' := by
  obtain ⟨A, nv, hin, hbag, hsh⟩ := h
  have hAl := hbag.len
  obtain ⟨ao, cap, rfl⟩ := own_slice hin.row
  have hA0 : 0 < A.length := by
    rw [hAl]
    cases I with
    | nil => simp [pop] at hp
    | cons y t => simp
  obtain ⟨g, rfl⟩ : ∃ g, ao = some ⟨g, 0, none⟩ := by
    rcases hin.row.2 with ⟨e1, e2⟩ | ⟨g, c, cur, e1, _⟩
    · omega
    · injection e1 with e1 _ _; exact ⟨g, e1⟩
  have HPK := hide (peek_some hin hA0)
  obtain ⟨c0, c1, c2, cf, hl⟩ := hcells hin.obj
  obtain ⟨l, hl1⟩ : ∃ l, A.length = l + 1 := ⟨A.length - 1, by omega⟩
  have HIN := hide hin
  have HL := hide L
  have HLT := hide hin.lt
  have hSZ := hin.sz
  have HSHC := hide (shape_cut (gd A l) hsh hl1)
  have HBG : Hid (gd A 0 = (x, (gd A 0).2) ∧ Bag ((A.set 0 (gd A l)).take l) J p) := by
    obtain ⟨a, T, rfl⟩ : ∃ a T, A = a :: T := by cases A with | nil => simp at hA0 | cons a T => exact ⟨a, T, rfl⟩
    obtain ⟨J', e1, e2⟩ := hbag.pop L.ord (fun y hy => by
      obtain ⟨i, hi⟩ := List.mem_iff_getElem?.1 hy
      have := hsh.root L.ord i (List.getElem?_eq_some_iff.1 hi).1
      rw [gd_some hi] at this
      exact this)
    rw [hp] at e1
    injection e1 with e1
    injection e1 with e1 e3
    subst e3
    exact ⟨by rw [e1]; rfl, e2.perm (cut_perm hl1)⟩
  clear hbag hsh hin c0 c2 L
  rw [hl1] at c1 HIN
  go_enter Tryz.func156, Tryz.ntmps156
  go_wp2_with (go_at_call 154; refine (unhide HPK).mono ?_; rintro e w1 ⟨rfl, hw1⟩; have hw2 := hw1.symm; subst hw2; clear hw1)
  obtain ⟨d0, d1, df⟩ := ncells (c := cap) (by rw [hl1]; exact unhide HIN) rfl
  have k0 := d0 l (by omega)
  have k1 := d1 l (by omega)
  have z0 : w.cell? ⟨g, 0, none⟩ = some (.slice (gd A 0).1.ao (gd A 0).1.n (gd A 0).1.c) := by simpa using d0 0 hA0
  have z1 : w.cell? ⟨g, 1, none⟩ = some (.int .i64 (gd A 0).2) := by simpa using d1 0 hA0
  have hgF : F g := (unhide HIN).rowF g rfl
  have hgw : g < w.heap.size := (unhide HIN).lt g hgF
  have hgb : hb ≠ g := hne (c := cap) (A := A) (by rw [hl1]; exact unhide HIN)
  have hll : (l : Int) < (l : Int) + 1 := by omega
  have hl0 : 0 ≤ (l : Int) := by omega
  have hlz : l ≤ 1099511627776 := by omega
  clear d0 d1 HPK
  go_region
  all_goals
    refine gen_then ?_
    intro W hW
    have HWI : Hid (HIn C W hb fv (A.set 0 (gd A l)) p F (.slice (some ⟨g, 0, none⟩) (l + 1) cap) ∧ Chg F w W) := by
      have q := HIn.put (unhide HIN) hl1.symm 0 (gd A l) ((unhide HIN).zg (by rw [hl1]; omega))
      have e : W = (put3 w g 0 (gd A l)).drew := by rw [hW]; rfl
      rw [e]
      exact ⟨q.1.drew, q.2.drew⟩
    have e1W : W.cell? ⟨hb, 1, none⟩ = some (.slice (some ⟨g, 0, none⟩) (l + 1) cap) := (hcells (unhide HWI).1.obj).2.1
    have efW := (hcells (unhide HWI).1.obj).2.2.2.1
    have hlW : (A.set 0 (gd A l)).length = l + 1 := by simpa using hl1
    obtain ⟨d0, d1, dfW⟩ := ncells (c := cap) (by rw [hlW]; exact (unhide HWI).1) rfl
    rw [hlW] at d0 d1
    have m0 := d0 l (by omega)
    have m1 := d1 l (by omega)
    have hcap : l + 1 ≤ cap := by
      rcases (unhide HIN).row.2 with ⟨e, _⟩ | ⟨g', c', cur, e, _, _, hn, _⟩
      · cases e
      · injection e with _ _ e; rw [e, ← hl1]; exact hn
    have hcl : ¬ cap = l := by omega
    have hclr := clear_run (c := cap - l) m0 m1 dfW 0
    obtain ⟨W2, hW2⟩ : ∃ W2, W2 = put3 W g l (cu0, 0) := ⟨_, rfl⟩
    rw [← hW2] at hclr
    have oth2 : ∀ k, k ≠ g → W2.heap[k]? = W.heap[k]? := fun k hk => by rw [hW2]; exact put3_block W g l _ hk
    have e21 := (World.cell?_of_block (a := ⟨hb, 1, none⟩) (oth2 _ hgb)).trans e1W
    have e2f := (World.frozen?_of_block (a := ⟨hb, 1, none⟩) (oth2 _ hgb)).trans (efW 1)
    have HCUT := hide ((unhide HWI).1.cut (by simpa using hl1) (cu0, 0))
    rw [← hW2] at HCUT
    clear hW hW2 oth2 d0 d1 df k0 k1 z0 z1 hlW m0 m1 dfW efW
    have HSK := hide (sink_any (unhide HL) (unhide HCUT).1 (by simp; omega) (unhide HSHC))
    go_wp2_with (go_at_call 165; refine (unhide HSK).mono ?_; rintro e w7 ⟨rfl, B, y1, y2, y3, y4⟩; have H7 := hide (And.intro y1 (And.intro y2 (And.intro y3 y4))); clear y1 y2 y3 y4)
    obtain ⟨y1, y2, y3, y4⟩ := unhide H7
    have c7 : Chg F w w7 := ((unhide HWI).2.then (unhide HCUT).2).then y4
    have ex : (gd A 0).1 = x := by rw [(unhide HBG).1]
    rw [ex]
    exact bodyPost_ret (v := .tuple #[.slice x.ao x.n x.c, .bool true]) (by simp [results, Tryz.results156, go_sem]) rfl ⟨rfl, ⟨B, _, y1.kept (fun _ _ => rfl) (fun b hb => .inl hb) (fun b hb => hb.elim (fun h => y1.lt b h) (fun h => h.2)) y1.kw (fun b hb => hb.elim (y1.fn b) (fun x => C.new b (Nat.le_trans hSZ x.1))) (Nat.le_refl _), (unhide HBG).2.perm y2, y3⟩, c7⟩
end Hpc
end Go.Proofs.YtohfhkdhccpoaaaGreatDoor
/- Layer 8, a heap of cursors: New. -/
namespace Go.Proofs.YtohfhkdhccpoaaaGreatDoor
open Go.RowKit
namespace Hpc
open Hp
variable {C : Cx}
set_option maxRecDepth 100000 in
theorem new_any {fv : Value} {lt : It → It → Bool} (L : LessV C fv lt) {w : World} {v : Value} {X : List It} (hx : Its w v X (fun b => w.heap.size ≤ b)) (zX : ∀ x ∈ X, C.Z x) (hK : C.K w) (hD : C.D ≤ w.heap.size) (hz : X.length ≤ 1099511627775) :
    Calls Tryz.prog 150 #[fv, v] w fun e w' => e = .returned (.pointer (some ⟨w.heap.size, 0, none⟩)) ∧ HAt C w' w.heap.size fv lt X X.length (fun b => w.heap.size ≤ b ∧ b < w'.heap.size) ∧ Below w.heap.size w w' := by
  have HPU : Hid (Calls Tryz.prog 153 #[.pointer (some ⟨w.heap.size, 0, none⟩), v] (w.alloc (.cells #[fv, .slice none 0 0, .int .i64 0] 220)) fun e w' => e = .returned (.tuple #[]) ∧ HAt C w' w.heap.size fv lt X X.length (fun b => w.heap.size ≤ b ∧ b < w'.heap.size) ∧ Below w.heap.size w w') := by
    have h0 : HAt C (w.alloc (.cells #[fv, .slice none 0 0, .int .i64 0] 220)) w.heap.size fv lt [] 0 (fun b => b = w.heap.size) :=
      ⟨[], .slice none 0 0, ⟨fun b hb => by rw [hb]; simp, rfl, (MapKept.heap_alloc w _).1, World.ownsRow_nil _ _ _ _, (fun g hg => by cases hg), (fun x hx => by cases hx), C.below hK ((Below.refl _ w).alloc (Nat.le_refl _) _), (fun b hb => C.new b (by rw [hb]; exact hD)), (by simp; omega)⟩, Bag.nil, fun i h0 hi => by simp at hi⟩
    have hb0 : Below w.heap.size w (w.alloc (.cells #[fv, .slice none 0 0, .int .i64 0] 220)) := (Below.refl _ w).alloc (Nat.le_refl _) _
    have hI : Its (w.alloc (.cells #[fv, .slice none 0 0, .int .i64 0] 220)) v X (fun b => b = w.heap.size) := (hx.chg (Chg.of_below hb0)).mono fun b _ e => by rw [e]; exact Nat.le_refl _
    refine (push_any L h0 hI zX (by simpa using hz) (by omega)).mono ?_
    rintro e w' ⟨rfl, h1, h2⟩
    rw [List.nil_append, Nat.zero_add] at h1
    have hs := h2.size
    simp at hs
    refine ⟨rfl, h1.kept (fun _ _ => rfl) (fun b hb => ?_) (fun b hb => hb.2) h1.kw (fun b hb => C.new b (Nat.le_trans hD hb.1)) (Nat.le_refl _), hb0.trans (h2.below (by simp) fun k hk => by omega)⟩
    rcases hb with hb | hb
    · subst hb; exact ⟨Nat.le_refl _, h1.lt _ (.inl rfl)⟩
    · exact ⟨by have := hb.1; simp at this; omega, hb.2⟩
  obtain ⟨f, rfl, hf⟩ := L
  clear hx hf zX hK hD
  · go_enter Tryz.func150, Tryz.ntmps150
    go_wp2_with (go_at_call 153; refine (unhide HPU).mono ?_; rintro e w1 ⟨rfl, h1⟩; have H1 := hide h1; clear h1)
    go_ret
    exact ⟨rfl, unhide H1⟩
end Hpc
end Go.Proofs.YtohfhkdhccpoaaaGreatDoor
/- Layer 8, a heap of cursors: Replace. -/
namespace Go.Proofs.YtohfhkdhccpoaaaGreatDoor
open Go.RowKit
namespace Hpc
open Hp
variable {C : Cx}
theorem shape_over {lt : It → It → Bool} {A : List Nd} (z : Nd) (h : Shape lt (gd A) A.length) : Sinking lt (gd (A.set 0 z)) (A.set 0 z).length 0 := by
  have e : ∀ i, 0 < i → gd (A.set 0 z) i = gd A i := fun i h0 => by
    unfold gd
    simp only [List.getD_eq_getElem?_getD]
    rw [List.getElem?_set_ne (by omega)]
  rw [List.length_set]
  refine ⟨fun i h0 hi hp => ?_, fun h0 => by omega⟩
  rw [e i h0, e (par i) (by omega)]
  exact h i h0 hi
set_option maxRecDepth 100000 in
set_option maxHeartbeats 4000000 in
theorem replace_some {fv : Value} {lt : It → It → Bool} (L : LessV C fv lt) {w : World} {hb : Nat} {I J : List It} {y : It} {p : Nat} {F : Nat → Prop} (h : HAt C w hb fv lt I p F) (hz : I.length ≤ 1099511627776) (hp : p ≤ 4611686018427387904) (hpop : pop lt I = some (y, J)) (x : It) (zx : C.Z x) :
    Calls Tryz.prog 155 #[.pointer (some ⟨hb, 0, none⟩), .slice x.ao x.n x.c] w fun e w' => e = .returned (.tuple #[.slice y.ao y.n y.c, .bool true]) ∧ Res C F w hb fv lt (J ++ [x]) (p + 1) w' := by
  obtain ⟨A, nv, hin, hbag, hsh⟩ := h
  have hAl := hbag.len
  obtain ⟨ao, cap, rfl⟩ := own_slice hin.row
  have hA0 : 0 < A.length := by
    rw [hAl]
    cases I with
    | nil => simp [pop] at hpop
    | cons y t => simp
  obtain ⟨g, rfl⟩ : ∃ g, ao = some ⟨g, 0, none⟩ := by
    rcases hin.row.2 with ⟨e1, e2⟩ | ⟨g, c, cur, e1, _⟩
    · omega
    · injection e1 with e1 _ _; exact ⟨g, e1⟩
  have HPK := hide (peek_some hin hA0)
  obtain ⟨q, hq⟩ : ∃ q, q = p + 1 := ⟨_, rfl⟩
  have HNX : Hid (∀ W, Below w.heap.size w W → Calls Tryz.prog 163 #[.pointer (some ⟨hb, 0, none⟩), .slice x.ao x.n x.c] W fun e w' => e = .returned (.agg #[.slice x.ao x.n x.c, .int .i64 (q : Int)]) ∧ HIn C w' hb fv A q F (.slice (some ⟨g, 0, none⟩) A.length cap) ∧ Chg F W w') := fun W hW => by
    rw [hq]
    exact next_any (hin.below hW) hp x
  have HL := hide L
  have HIN := hide hin
  have HZX := hide zx
  have hSZ := hin.sz
  have HSHC := hide (shape_over (x, q) hsh)
  have HBG : Hid (gd A 0 = (y, (gd A 0).2) ∧ Bag (A.set 0 (x, q)) (J ++ [x]) q) := by
    obtain ⟨a, T, rfl⟩ : ∃ a T, A = a :: T := by cases A with | nil => simp at hA0 | cons a T => exact ⟨a, T, rfl⟩
    obtain ⟨J', e1, e2⟩ := hbag.pop L.ord (fun y hy => by
      obtain ⟨i, hi⟩ := List.mem_iff_getElem?.1 hy
      have := hsh.root L.ord i (List.getElem?_eq_some_iff.1 hi).1
      rw [gd_some hi] at this
      exact this)
    rw [hpop] at e1
    injection e1 with e1
    injection e1 with e1 e3
    subst e3
    refine ⟨by rw [e1]; rfl, ?_⟩
    rw [hq]
    exact (e2.push x).perm (List.perm_append_singleton _ _).symm
  have hgF : F g := hin.rowF g rfl
  have hgw : g < w.heap.size := hin.lt g hgF
  have hgb : hb ≠ g := hne hin
  obtain ⟨c0, c1, c2, cf, hl⟩ := hcells hin.obj
  obtain ⟨n, hn⟩ : ∃ n, A.length = n + 1 := ⟨A.length - 1, by omega⟩
  have HN := hide hn
  have hnz : n + 1 ≤ 1099511627776 := by omega
  rw [← hq]
  rw [hn] at c1 HNX HIN
  have HQ := hide hq
  clear hbag hsh hin c0 c2 L hn hq hAl hA0 zx
  go_enter Tryz.func155, Tryz.ntmps155
  go_wp2_with (go_at_call 154; refine (unhide HPK).mono ?_; rintro e w1 ⟨rfl, hw1⟩; have hw2 := hw1.symm; subst hw2; clear hw1)
  clear HPK
  go_region_law
    (first
      | (refine step_call2 (by rfl) 163 _ _ _ (by rfl) (.pointer (some ⟨hb, 0, none⟩)) (.slice x.ao x.n x.c) (by rfl) (by rfl) (fun W => ent_next _ _ W) ((unhide HNX _ ((Below.refl _ _).drew)).mono ?_)
         rintro e w3 ⟨rfl, h3, h4⟩
         refine ⟨_, rfl, ?_⟩
         have k3 : w3.cell? ⟨hb, 1, none⟩ = some (.slice (some ⟨g, 0, none⟩) (n + 1) cap) := (hcells h3.obj).2.1
         obtain ⟨d0, d1, df⟩ := ncells (c := cap) (by rw [unhide HN]; exact h3) rfl
         have z0 : w3.cell? ⟨g, 0, none⟩ = some (.slice (gd A 0).1.ao (gd A 0).1.n (gd A 0).1.c) := by simpa using d0 0 (by rw [unhide HN]; omega)
         have z1 : w3.cell? ⟨g, 1, none⟩ = some (.int .i64 (gd A 0).2) := by simpa using d1 0 (by rw [unhide HN]; omega)
         have H3 := hide h3
         have H4 := hide h4
         clear h3 h4 d0 d1))
  all_goals
    refine gen_then ?_
    intro W hW
    have e : W = put3 w3 g 0 (x, q) := by rw [hW]; rfl
    have HWI : Hid (HIn C W hb fv (A.set 0 (x, q)) q F (.slice (some ⟨g, 0, none⟩) (n + 1) cap) ∧ Chg F w W) := by
      obtain ⟨e1, e2⟩ := HIn.put (unhide H3) (unhide HN).symm 0 (x, q) (unhide HZX)
      have cV : Chg F w w3 := (Chg.refl F w).drew.then (unhide H4)
      rw [e]
      exact ⟨e1, cV.then e2⟩
    have HSK := hide (sink_any (unhide HL) (unhide HWI).1 (by simp [unhide HN]; omega) (unhide HSHC))
    clear hW e H3 H4 k3 z0 z1 df c1
    go_wp2_with (go_at_call 165; refine (unhide HSK).mono ?_; rintro e w7 ⟨rfl, B, y1, y2, y3, y4⟩; have H7 := hide (And.intro y1 (And.intro y2 (And.intro y3 y4))); clear y1 y2 y3 y4)
    obtain ⟨y1, y2, y3, y4⟩ := unhide H7
    have c7 : Chg F w w7 := (unhide HWI).2.then y4
    have ex : (gd A 0).1 = y := by rw [(unhide HBG).1]
    rw [ex]
    exact bodyPost_ret (v := .tuple #[.slice y.ao y.n y.c, .bool true]) (by simp [results, Tryz.results155, go_sem]) rfl ⟨rfl, ⟨B, _, y1.kept (fun _ _ => rfl) (fun b hb => .inl hb) (fun b hb => hb.elim (fun h => y1.lt b h) (fun h => h.2)) y1.kw (fun b hb => hb.elim (y1.fn b) (fun x => C.new b (Nat.le_trans hSZ x.1))) (Nat.le_refl _), (unhide HBG).2.perm y2, y3⟩, c7⟩
end Hpc
end Go.Proofs.YtohfhkdhccpoaaaGreatDoor
