/- Layer 7: Pop. -/
import Derived.Test.YtddfljlecnllaaaHu
namespace Go.Proofs.Ytddfljlecnllaaa
open Go.RowKit
namespace Hp
/-- the last node was cleared, and the list cut ahead of it -/
theorem HIn.cut {w : World} {hb g c l : Nat} {fv : Value} {A : List Nd} {p : Nat} {F : Nat → Prop} (h : HIn w hb fv A p F (.slice (some ⟨g, 0, none⟩) (l + 1) c)) (hl : A.length = l + 1) (z : Nd) : HIn ((put3 w g l z).setCell ⟨hb, 1, none⟩ (.slice (some ⟨g, 0, none⟩) l c)) hb fv (A.take l) p F (.slice (some ⟨g, 0, none⟩) l c) ∧ Chg F w ((put3 w g l z).setCell ⟨hb, 1, none⟩ (.slice (some ⟨g, 0, none⟩) l c)) := by
  obtain ⟨h1, c1⟩ := h.put hl.symm l z
  have hA : (A.set l z).length = l + 1 := by simpa using hl
  have hT : (A.take l).length = l := by simp; omega
  refine ⟨⟨fun b hb => by simpa using h1.lt b hb, h.own, by rw [set_heap1 h1.obj]; rfl, ?_, fun g' hg' => h.rowF g' hg'⟩, c1.setCell (.inl h.own) _⟩
  have hrow := h1.row
  rw [hA] at hrow
  have hgb : g ≠ hb := fun e => by
    obtain ⟨C, fz, hx⟩ := Lib.ownsRow_kind hrow g rfl
    subst e
    rw [h1.obj] at hx
    injection hx with hx
    injection hx with _ hx _
    exact absurd hx (by decide)
  rw [hT]
  refine own_kept (W := put3 w g l z) ?_ (fun g' hg' => by
    have : g' = g := by injection hg' with hg'; exact hg'.symm
    rw [this]; exact Below.heap_setCell _ _ _ _ hgb)
  obtain ⟨hlen, ⟨e1, e2⟩ | ⟨g', cap, cur, e1, h1', hg', hn, hm, hs, ht⟩⟩ := hrow
  · cases e1
  · injection e1 with e1 e2 e3
    injection e1 with e1
    injection e1 with e1 _ _
    subst e1 e3
    refine ⟨by rw [rowN_len, hT], .inr ⟨g, c, cur, rfl, Nat.zero_le _, hg', by omega, hm, hs, ?_⟩⟩
    have := congrArg (List.take (l * 3)) ht
    rw [List.take_take, show min (l * 3) ((l + 1) * 3) = l * 3 by omega, rowN_take] at this
    rw [this, List.take_set_of_le (Nat.le_refl _)]
theorem Shape.cut {lt : It → It → Bool} {A : List Nd} {l : Nat} (z : Nd) (h : Shape lt (gd A) A.length) (hl : A.length = l + 1) : Sinking lt (gd ((A.set 0 z).take l)) ((A.set 0 z).take l).length 0 := by
  have e : ∀ i, 0 < i → i < l → gd ((A.set 0 z).take l) i = gd A i := fun i h0 hi => by
    unfold gd
    simp only [List.getD_eq_getElem?_getD]
    rw [List.getElem?_take_of_lt hi, List.getElem?_set_ne (by omega)]
  have hL : ((A.set 0 z).take l).length = l := by simp; omega
  rw [hL]
  refine ⟨fun i h0 hi hp => ?_, fun h0 => by omega⟩
  rw [e i h0 hi, e (par i) (by omega) (by simp only [par]; omega)]
  exact h i h0 (by omega)
theorem cut_perm : ∀ {A : List Nd} {l : Nat}, A.length = l + 1 → ((A.set 0 (gd A l)).take l).Perm A.tail
  | [], l, h => by simp at h
  | a :: T, 0, h => by
    have : T = [] := List.eq_nil_of_length_eq_zero (by simpa using h)
    subst this
    simp
  | a :: T, m + 1, h => by
    have hT : T.length = m + 1 := by simpa using h
    have e : gd (a :: T) (m + 1) = T[m] := by simp [gd, hT]
    rw [e]
    simp only [List.set_cons_zero, List.take_succ_cons, List.tail_cons]
    have e2 : T = T.take m ++ [T[m]] := by
      conv => lhs; rw [← List.take_append_drop m T]
      congr 1
      rw [List.drop_eq_getElem_cons (by omega), List.drop_eq_nil_of_le (by omega)]
    conv => rhs; rw [e2]
    exact (List.perm_append_singleton _ _).symm
theorem clear_run {W : World} {g l c : Nat} {x : Nd} (m0 : W.cell? ⟨g, l * 3, none⟩ = some (.int .i64 x.1.1)) (m1 : W.cell? ⟨g, l * 3 + 1, none⟩ = some (.int .i64 x.1.2)) (m2 : W.cell? ⟨g, l * 3 + 2, none⟩ = some (.int .i64 x.2)) (hf : ∀ k, W.frozen? ⟨g, k, none⟩ = false) (ty : TypeId) :
    (Builtin.clear_ #[70] ty #[.slice (some ⟨g, l * 3, none⟩) 1 c]).run Try.prog W = .ok (.tuple #[]) (put3 W g l ((0, 0), 0)) := by
  have hv : ∀ w, (zeroValue 74).run Try.prog w = .ok (.agg #[.int .i64 0, .int .i64 0, .int .i64 0]) w := fun w => by kernel_rfl
  have hst := run_storeCells_cells (P := Try.prog) g (l * 3) [.int .i64 0, .int .i64 0, .int .i64 0] 0 W (fun j hj => by
    rcases j with _ | _ | _ | j
    · simp [m0]
    · simp [m1]
    · simp [m2]
    · simp at hj; omega) (fun j hj => hf _) (by intro v hv; simp at hv; subst hv; rfl)
  have hz : (Builtin.zeroCells (Value.agg #[.int .i64 0, .int .i64 0, .int .i64 0]).cells 1).toList = [.int .i64 0, .int .i64 0, .int .i64 0] := by kernel_rfl
  simp [Builtin.clear_, run_underlying Try.underlying70, hv, hz, hst]
  rfl
theorem gen_then {K : Act → World → Prop} {Q : Exit → Act → World → Prop} {e : Exit} {a : Act} {W : World} (h : ∀ V, V = W → Exit.then K Q e a V) : Exit.then K Q e a W := h W rfl
set_option maxRecDepth 100000 in
theorem pop_zero {w : World} {pv : Value} (HP : ∀ W, Below w.heap.size w W → Calls Try.prog 32 #[pv] W fun e w' => e = .returned (.tuple #[.agg #[.int .i64 0, .int .i64 0], .bool false]) ∧ Below W.heap.size W w') :
    Calls Try.prog 22 #[pv] w fun e w' => e = .returned (.tuple #[.agg #[.int .i64 0, .int .i64 0], .bool false]) ∧ Below w.heap.size w w' := by
  have HPP : Hid (∀ o : Obj, Calls Try.prog 32 #[pv] (w.alloc o) fun e w' => e = .returned (.tuple #[.agg #[.int .i64 0, .int .i64 0], .bool false]) ∧ Below (w.alloc o).heap.size (w.alloc o) w') := fun o => HP _ ((Below.refl _ _).alloc (Nat.le_refl _) o)
  clear HP
  go_enter Try.func22, Try.ntmps22
  go_wp2_with (go_at_call 32; refine (unhide HPP _).mono ?_; rintro e w1 ⟨rfl, hb1⟩; have hs1 : w.heap.size < w1.heap.size := Nat.lt_of_lt_of_le (by simp) hb1.size; have r0 : w1.cell? ⟨w.heap.size, 0, none⟩ = some (.int .i64 0) := (hb1.cell (p := ⟨w.heap.size, 0, none⟩) (by simp)).trans (World.cell?_alloc_at _ _ _ _ rfl); have r1 : w1.cell? ⟨w.heap.size, 1, none⟩ = some (.int .i64 0) := (hb1.cell (p := ⟨w.heap.size, 1, none⟩) (by simp)).trans (World.cell?_alloc_at _ _ _ _ rfl); have rf : ∀ k, w1.frozen? ⟨w.heap.size, k, none⟩ = false := fun k => (hb1.frozen (p := ⟨w.heap.size, k, none⟩) (by simp)).trans (World.frozen?_alloc_at _ _ _ _ rfl); have HB1 : Hid (Below w.heap.size w w1) := ((Below.refl _ w).alloc (Nat.le_refl _) _).trans (hb1.mono (by simp)); clear hb1)
  refine gen_post ?_
  intro V hV
  have v0 : V.cell? ⟨w.heap.size, 0, none⟩ = some (.int .i64 0) := by rw [hV]; go_simp
  have v1 : V.cell? ⟨w.heap.size, 1, none⟩ = some (.int .i64 0) := by rw [hV]; go_simp
  have HE : Hid (Below w.heap.size w V) := by
    rw [hV]
    refine (unhide HB1).trans ?_
    (repeat (first | exact Below.refl _ _ | refine Below.drew ?_ | refine Below.alloc ?_ (by first | (simp; done) | (simp; omega)) _ | refine Below.setCell ?_ (by first | (simp; done) | (simp; omega)) _))
  clear hV
  exact bodyPost_ret (v := .tuple #[.agg #[.int .i64 0, .int .i64 0], .bool false]) (by simp [results, Try.results22, go_sem, v0, v1]) rfl ⟨rfl, unhide HE⟩
set_option maxRecDepth 100000 in
set_option maxHeartbeats 4000000 in
theorem pop_some {fv : Value} {lt : It → It → Bool} (L : LessV fv lt) {w : World} {hb : Nat} {I J : List It} {x : It} {p : Nat} {F : Nat → Prop} (h : HAt w hb fv lt I p F) (hz : I.length ≤ 1099511627776) (hp : pop lt I = some (x, J)) :
    Calls Try.prog 22 #[.pointer (some ⟨hb, 0, none⟩)] w fun e w' => e = .returned (.tuple #[.agg #[.int .i64 x.1, .int .i64 x.2], .bool true]) ∧ Res F w hb fv lt J p w' := by
  obtain ⟨A, nv, hin, hbag, hsh⟩ := h
  have hAl := hbag.len
  obtain ⟨ao, cap, rfl⟩ := own_slice hin.row
  have hA0 : 0 < A.length := by
    rw [hAl]
    cases I with
    | nil => simp [pop] at hp
    | cons y t => simp
  obtain ⟨g, rfl⟩ : ∃ g, ao = some ⟨g, 0, none⟩ := by
    rcases hin.row.2 with ⟨e1, e2⟩ | ⟨g, c, cur, e1, _⟩
    · omega
    · injection e1 with e1 _ _; exact ⟨g, e1⟩
  have HPK : Hid (∀ o : Obj, Calls Try.prog 32 #[.pointer (some ⟨hb, 0, none⟩)] (w.alloc o) fun e w' => e = .returned (.tuple #[.agg #[.int .i64 (gd A 0).1.1, .int .i64 (gd A 0).1.2], .bool true]) ∧ Below (w.alloc o).heap.size (w.alloc o) w') := fun o => peek_some (hin.below ((Below.refl _ _).alloc (Nat.le_refl _) o)) hA0
  obtain ⟨c0, c1, c2, cf, hl⟩ := hcells hin.obj
  obtain ⟨l, hl1⟩ : ∃ l, A.length = l + 1 := ⟨A.length - 1, by omega⟩
  have HIN := hide hin
  have HL := hide L
  have HLT := hide hin.lt
  have HSHC := hide (hsh.cut (gd A l) hl1)
  have HBG : Hid (gd A 0 = (x, (gd A 0).2) ∧ Bag ((A.set 0 (gd A l)).take l) J p) := by
    obtain ⟨a, T, rfl⟩ : ∃ a T, A = a :: T := by cases A with | nil => simp at hA0 | cons a T => exact ⟨a, T, rfl⟩
    obtain ⟨J', e1, e2⟩ := hbag.pop L.ord (fun y hy => by
      obtain ⟨i, hi⟩ := List.mem_iff_getElem?.1 hy
      have := hsh.root L.ord i (List.getElem?_eq_some_iff.1 hi).1
      rw [gd_some hi] at this
      exact this)
    rw [hp] at e1
    injection e1 with e1
    injection e1 with e1 e3
    subst e3
    exact ⟨by rw [e1]; rfl, e2.perm (cut_perm hl1)⟩
  clear hbag hsh hin c0 c2 L
  rw [hl1] at c1 HIN
  go_enter Try.func22, Try.ntmps22
  go_wp2_with (go_at_call 32; refine (unhide HPK _).mono ?_; rintro e w1 ⟨rfl, hb1⟩; have hs1 : w.heap.size < w1.heap.size := Nat.lt_of_lt_of_le (by simp) hb1.size; have r0 : w1.cell? ⟨w.heap.size, 0, none⟩ = some (.int .i64 0) := (hb1.cell (p := ⟨w.heap.size, 0, none⟩) (by simp)).trans (World.cell?_alloc_at _ _ _ _ rfl); have r1 : w1.cell? ⟨w.heap.size, 1, none⟩ = some (.int .i64 0) := (hb1.cell (p := ⟨w.heap.size, 1, none⟩) (by simp)).trans (World.cell?_alloc_at _ _ _ _ rfl); have rf : ∀ k, w1.frozen? ⟨w.heap.size, k, none⟩ = false := fun k => (hb1.frozen (p := ⟨w.heap.size, k, none⟩) (by simp)).trans (World.frozen?_alloc_at _ _ _ _ rfl); have HB1 : Hid (Below w.heap.size w w1) := ((Below.refl _ w).alloc (Nat.le_refl _) _).trans (hb1.mono (by simp)); have s1 := ((unhide HB1).cell (p := ⟨hb, 1, none⟩) hl).trans c1; have hlw : hb < w1.heap.size := Nat.lt_trans hl hs1; clear hb1)
  refine gen_world ?_
  intro V hV
  have hVB : Below w.heap.size w V := by rw [hV]; exact (unhide HB1).alloc (unhide HB1).size _
  have HVI : Hid (HIn V hb fv A p F (.slice (some ⟨g, 0, none⟩) (l + 1) cap)) := (unhide HIN).below hVB
  have u0 : V.cell? ⟨w.heap.size, 0, none⟩ = some (.int .i64 0) := by rw [hV]; exact cell_old r0 hs1
  have u1 : V.cell? ⟨w.heap.size, 1, none⟩ = some (.int .i64 0) := by rw [hV]; exact cell_old r1 hs1
  have uf : ∀ k, V.frozen? ⟨w.heap.size, k, none⟩ = false := fun k => by rw [hV, World.frozen?_alloc_past _ _ _ hs1]; exact rf k
  have t0 : V.cell? ⟨w1.heap.size, 0, none⟩ = some (.int .i64 (gd A 0).1.1) := by rw [hV]; go_simp
  have t1 : V.cell? ⟨w1.heap.size, 1, none⟩ = some (.int .i64 (gd A 0).1.2) := by rw [hV]; go_simp
  have hVs : w1.heap.size < V.heap.size := by rw [hV]; simp
  have e1 : V.cell? ⟨hb, 1, none⟩ = some (.slice (some ⟨g, 0, none⟩) (l + 1) cap) := (hcells (unhide HVI).obj).2.1
  have ef := (hcells (unhide HVI).obj).2.2.2.1
  obtain ⟨d0, d1, d2, df⟩ := ncells (c := cap) (by rw [hl1]; exact unhide HVI) rfl
  have k0 := d0 l (by omega)
  have k1 := d1 l (by omega)
  have k2 := d2 l (by omega)
  have z0 : V.cell? ⟨g, 0, none⟩ = some (.int .i64 (gd A 0).1.1) := by simpa using d0 0 hA0
  have z1 : V.cell? ⟨g, 1, none⟩ = some (.int .i64 (gd A 0).1.2) := by simpa using d1 0 hA0
  have z2 : V.cell? ⟨g, 2, none⟩ = some (.int .i64 (gd A 0).2) := by simpa using d2 0 hA0
  have hgF : F g := (unhide HIN).rowF g rfl
  have hgw : g < w.heap.size := (unhide HIN).lt g hgF
  have hgb : hb ≠ g := hne (c := cap) (A := A) (by rw [hl1]; exact unhide HIN)
  have HVB := hide hVB
  have hll : (l : Int) < (l : Int) + 1 := by omega
  have hl0 : 0 ≤ (l : Int) := by omega
  have hlz : l ≤ 1099511627776 := by omega
  clear hV hVB d0 d1 d2 r0 r1 rf s1 c1 cf HPK
  go_region
  all_goals
    refine gen_then ?_
    intro W hW
    have HWI : Hid (HIn W hb fv (A.set 0 (gd A l)) p F (.slice (some ⟨g, 0, none⟩) (l + 1) cap) ∧ Chg F w W) := by
      have q := HIn.put (unhide HVI) hl1.symm 0 (gd A l)
      have e : W = (put3 V g 0 (gd A l)).drew := by rw [hW]; rfl
      rw [e]
      exact ⟨q.1.drew, ((Chg.of_below (unhide HVB)).then q.2).drew⟩
    have hoth : ∀ k, k ≠ g → W.heap[k]? = V.heap[k]? := fun k hk => by
      have e : W = (put3 V g 0 (gd A l)).drew := by rw [hW]; rfl
      rw [e]; exact put3_block V g 0 _ hk
    have hsz : W.heap.size = V.heap.size := by
      have e : W = (put3 V g 0 (gd A l)).drew := by rw [hW]; rfl
      rw [e]; exact put3_size V g 0 _
    have hnw : w.heap.size ≠ g := by omega
    have hnw1 : w1.heap.size ≠ g := by omega
    have a0 := (World.cell?_of_block (a := ⟨w.heap.size, 0, none⟩) (hoth _ hnw)).trans u0
    have a1 := (World.cell?_of_block (a := ⟨w.heap.size, 1, none⟩) (hoth _ hnw)).trans u1
    have af : ∀ k, W.frozen? ⟨w.heap.size, k, none⟩ = false := fun k => (World.frozen?_of_block (a := ⟨w.heap.size, k, none⟩) (hoth _ hnw)).trans (uf k)
    have b0 := (World.cell?_of_block (a := ⟨w1.heap.size, 0, none⟩) (hoth _ hnw1)).trans t0
    have b1 := (World.cell?_of_block (a := ⟨w1.heap.size, 1, none⟩) (hoth _ hnw1)).trans t1
    have e1W : W.cell? ⟨hb, 1, none⟩ = some (.slice (some ⟨g, 0, none⟩) (l + 1) cap) := (hcells (unhide HWI).1.obj).2.1
    have efW := (hcells (unhide HWI).1.obj).2.2.2.1
    have hlW : (A.set 0 (gd A l)).length = l + 1 := by simpa using hl1
    obtain ⟨d0, d1, d2, dfW⟩ := ncells (c := cap) (by rw [hlW]; exact (unhide HWI).1) rfl
    rw [hlW] at d0 d1 d2
    have m0 := d0 l (by omega)
    have m1 := d1 l (by omega)
    have m2 := d2 l (by omega)
    have hsW : w1.heap.size < W.heap.size := by omega
    have hcap : l + 1 ≤ cap := by
      rcases (unhide HVI).row.2 with ⟨e, _⟩ | ⟨g', c', cur, e, _, _, hn, _⟩
      · cases e
      · injection e with _ _ e; rw [e, ← hl1]; exact hn
    have hcl : ¬ cap = l := by omega
    have hclr := clear_run (c := cap - l) m0 m1 m2 dfW 0
    obtain ⟨W2, hW2⟩ : ∃ W2, W2 = put3 W g l ((0, 0), 0) := ⟨_, rfl⟩
    rw [← hW2] at hclr
    have oth2 : ∀ k, k ≠ g → W2.heap[k]? = W.heap[k]? := fun k hk => by rw [hW2]; exact put3_block W g l _ hk
    have sz2 : W2.heap.size = W.heap.size := by rw [hW2]; exact put3_size W g l _
    have a20 := (World.cell?_of_block (a := ⟨w.heap.size, 0, none⟩) (oth2 _ hnw)).trans a0
    have a21 := (World.cell?_of_block (a := ⟨w.heap.size, 1, none⟩) (oth2 _ hnw)).trans a1
    have a2f : ∀ k, W2.frozen? ⟨w.heap.size, k, none⟩ = false := fun k => (World.frozen?_of_block (a := ⟨w.heap.size, k, none⟩) (oth2 _ hnw)).trans (af k)
    have b20 := (World.cell?_of_block (a := ⟨w1.heap.size, 0, none⟩) (oth2 _ hnw1)).trans b0
    have b21 := (World.cell?_of_block (a := ⟨w1.heap.size, 1, none⟩) (oth2 _ hnw1)).trans b1
    have e21 := (World.cell?_of_block (a := ⟨hb, 1, none⟩) (oth2 _ hgb)).trans e1W
    have e2f := (World.frozen?_of_block (a := ⟨hb, 1, none⟩) (oth2 _ hgb)).trans (efW 1)
    have hs2 : w1.heap.size < W2.heap.size := by omega
    have HCUT := hide ((unhide HWI).1.cut (by simpa using hl1) ((0, 0), 0))
    rw [← hW2] at HCUT
    clear hW hW2 hoth oth2 hsz sz2 d0 d1 d2 e1 ef df k0 k1 k2 z0 z1 z2 u0 u1 uf t0 t1 hlW m0 m1 m2 dfW a0 a1 af b0 b1 efW hsW
    have HSK := hide (sink_any (unhide HL) (unhide HCUT).1 (by simp; omega) (unhide HSHC))
    go_wp2_with (go_at_call 38; refine (unhide HSK).mono ?_; rintro e w7 ⟨rfl, B, y1, y2, y3, y4⟩; have f7 := fun (k : Nat) (hk : w.heap.size ≤ k) (hk2 : k < W2.heap.size) => (y4.block k (by simpa using hk2) (fun e => Nat.lt_irrefl _ (Nat.lt_of_lt_of_le (unhide HLT _ e) hk))).trans (Below.heap_setCell W2 ⟨hb, 1, none⟩ (.slice (some ⟨g, 0, none⟩) l cap) k (Nat.ne_of_gt (Nat.lt_of_lt_of_le hl hk))); have hs7 : w1.heap.size < w7.heap.size := Nat.lt_of_lt_of_le hs2 (by simpa using y4.size); have p0 := (World.cell?_of_block (a := ⟨w.heap.size, 0, none⟩) (f7 _ (Nat.le_refl _) (Nat.lt_trans hs1 hs2))).trans a20; have p1 := (World.cell?_of_block (a := ⟨w.heap.size, 1, none⟩) (f7 _ (Nat.le_refl _) (Nat.lt_trans hs1 hs2))).trans a21; have pf : ∀ k, w7.frozen? ⟨w.heap.size, k, none⟩ = false := fun k => (World.frozen?_of_block (a := ⟨w.heap.size, k, none⟩) (f7 _ (Nat.le_refl _) (Nat.lt_trans hs1 hs2))).trans (a2f k); have q0 := (World.cell?_of_block (a := ⟨w1.heap.size, 0, none⟩) (f7 _ (Nat.le_of_lt hs1) hs2)).trans b20; have q1 := (World.cell?_of_block (a := ⟨w1.heap.size, 1, none⟩) (f7 _ (Nat.le_of_lt hs1) hs2)).trans b21; have H7 := hide (And.intro y1 (And.intro y2 (And.intro y3 y4))); clear f7 y1 y2 y3 y4)
    refine gen_post ?_
    intro V9 hV9
    have v0 : V9.cell? ⟨w.heap.size, 0, none⟩ = some (.int .i64 (gd A 0).1.1) := by rw [hV9]; go_simp
    have v1 : V9.cell? ⟨w.heap.size, 1, none⟩ = some (.int .i64 (gd A 0).1.2) := by rw [hV9]; go_simp
    have HE : Hid (Res F w hb fv lt J p V9) := by
      obtain ⟨y1, y2, y3, y4⟩ := unhide H7
      have c7 : Chg F w w7 := ((unhide HWI).2.then (unhide HCUT).2).then y4
      rw [hV9]
      refine ⟨⟨B, _, y1.kept (fun b hb => ?_) (fun b hb => .inl hb) (fun b hb => ?_), (unhide HBG).2.perm y2, y3⟩, (c7.setCell (.inr (Nat.le_refl _)) _).setCell (.inr (Nat.le_refl _)) _⟩
      · have := unhide HLT _ hb
        rw [Below.heap_setCell _ _ _ _ (by show b ≠ w.heap.size; omega), Below.heap_setCell _ _ _ _ (by show b ≠ w.heap.size; omega)]
      · rcases hb with hb | hb
        · have := unhide HLT _ hb
          simp; omega
        · exact hb.2
    clear hV9
    rw [(unhide HBG).1] at v0 v1
    exact bodyPost_ret (v := .tuple #[.agg #[.int .i64 x.1, .int .i64 x.2], .bool true]) (by simp [results, Try.results22, go_sem, v0, v1]) rfl ⟨rfl, unhide HE⟩
end Hp
end Go.Proofs.Ytddfljlecnllaaa
