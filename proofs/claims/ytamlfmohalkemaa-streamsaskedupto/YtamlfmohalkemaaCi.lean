/- Layer 8, a heap of cursors: Pop. -/
import Derived.Test.YtamlfmohalkemaaCg
namespace Go.Proofs.Ytamlfmohalkemaa
open Go.RowKit
namespace Hpc
open Hp
variable {C : Cx}
/-- the last node was cleared, and the list cut ahead of it -/
theorem HIn.cut {w : World} {hb g c l : Nat} {fv : Value} {A : List Nd} {p : Nat} {F : Nat → Prop} (h : HIn C w hb fv A p F (.slice (some ⟨g, 0, none⟩) (l + 1) c)) (hl : A.length = l + 1) (z : Nd) : HIn C ((put3 w g l z).setCell ⟨hb, 1, none⟩ (.slice (some ⟨g, 0, none⟩) l c)) hb fv (A.take l) p F (.slice (some ⟨g, 0, none⟩) l c) ∧ Chg F w ((put3 w g l z).setCell ⟨hb, 1, none⟩ (.slice (some ⟨g, 0, none⟩) l c)) := by
  obtain ⟨⟨h1lt, h1obj, h1row⟩, c1, k1⟩ := h.put0 hl.symm l z
  have hA : (A.set l z).length = l + 1 := by simpa using hl
  have hT : (A.take l).length = l := by simp; omega
  refine ⟨⟨fun b hb => by simpa using h1lt b hb, h.own, by rw [set_heap1 h1obj]; rfl, ?_, fun g' hg' => h.rowF g' hg', fun y hy => h.zz y (List.mem_of_mem_take hy), C.keeps _ _ k1 (by simp [World.setCell]) fun b _ hn => Below.heap_setCell _ _ _ _ fun e => hn (by rw [show b = hb from e]; exact h.fn _ h.own), h.fn, by have := Nat.le_trans h.sz c1.size; simpa using this⟩, c1.setCell (.inl h.own) _⟩
  have hrow := h1row
  rw [hA] at hrow
  have hgb : g ≠ hb := fun e => by
    obtain ⟨C, fz, hx⟩ := Lib.ownsRow_kind hrow g rfl
    subst e
    rw [h1obj] at hx
    injection hx with hx
    injection hx with _ hx _
    exact absurd hx (by decide)
  rw [hT]
  refine own_kept (W := put3 w g l z) ?_ (fun g' hg' => by
    have : g' = g := by injection hg' with hg'; exact hg'.symm
    rw [this]; exact Below.heap_setCell _ _ _ _ hgb)
  obtain ⟨hlen, ⟨e1, e2⟩ | ⟨g', cap, cur, e1, h1', hg', hn, hm, hs, ht⟩⟩ := hrow
  · cases e1
  · injection e1 with e1 e2 e3
    injection e1 with e1
    injection e1 with e1 _ _
    subst e1 e3
    refine ⟨by rw [rowN_len, hT], .inr ⟨g, c, cur, rfl, Nat.zero_le _, hg', by omega, hm, hs, ?_⟩⟩
    have := congrArg (List.take (l * 2)) ht
    rw [List.take_take, show min (l * 2) ((l + 1) * 2) = l * 2 by omega, rowN_take] at this
    rw [this, List.take_set_of_le (Nat.le_refl _)]
theorem shape_cut {lt : It → It → Bool} {A : List Nd} {l : Nat} (z : Nd) (h : Shape lt (gd A) A.length) (hl : A.length = l + 1) : Sinking lt (gd ((A.set 0 z).take l)) ((A.set 0 z).take l).length 0 := by
  have e : ∀ i, 0 < i → i < l → gd ((A.set 0 z).take l) i = gd A i := fun i h0 hi => by
    unfold gd
    simp only [List.getD_eq_getElem?_getD]
    rw [List.getElem?_take_of_lt hi, List.getElem?_set_ne (by omega)]
  have hL : ((A.set 0 z).take l).length = l := by simp; omega
  rw [hL]
  refine ⟨fun i h0 hi hp => ?_, fun h0 => by omega⟩
  rw [e i h0 hi, e (par i) (by omega) (by simp only [par]; omega)]
  exact h i h0 (by omega)
theorem cut_perm : ∀ {A : List Nd} {l : Nat}, A.length = l + 1 → ((A.set 0 (gd A l)).take l).Perm A.tail
  | [], l, h => by simp at h
  | a :: T, 0, h => by
    have : T = [] := List.eq_nil_of_length_eq_zero (by simpa using h)
    subst this
    simp
  | a :: T, m + 1, h => by
    have hT : T.length = m + 1 := by simpa using h
    have e : gd (a :: T) (m + 1) = T[m] := by simp [gd, hT]
    rw [e]
    simp only [List.set_cons_zero, List.take_succ_cons, List.tail_cons]
    have e2 : T = T.take m ++ [T[m]] := by
      conv => lhs; rw [← List.take_append_drop m T]
      congr 1
      rw [List.drop_eq_getElem_cons (by omega), List.drop_eq_nil_of_le (by omega)]
    conv => rhs; rw [e2]
    exact (List.perm_append_singleton _ _).symm
theorem clear_run {W : World} {g l c : Nat} {x : Nd} (m0 : W.cell? ⟨g, l * 2, none⟩ = some (.slice x.1.ao x.1.n x.1.c)) (m1 : W.cell? ⟨g, l * 2 + 1, none⟩ = some (.int .i64 x.2)) (hf : ∀ k, W.frozen? ⟨g, k, none⟩ = false) (ty : TypeId) :
    (Builtin.clear_ #[63] ty #[.slice (some ⟨g, l * 2, none⟩) 1 c]).run Try.prog W = .ok (.tuple #[]) (put3 W g l (cu0, 0)) := by
  have hv : ∀ w, (zeroValue 85).run Try.prog w = .ok (.agg #[.slice none 0 0, .int .i64 0]) w := fun w => by kernel_rfl
  have hst := run_storeCells_cells (P := Try.prog) g (l * 2) [.slice none 0 0, .int .i64 0] 0 W (fun j hj => by
    rcases j with _ | _ | j
    · simp [m0]
    · simp [m1]
    · simp at hj; omega) (fun j hj => hf _) (by intro v hv; simp at hv; rcases hv with rfl | rfl <;> rfl)
  have hz : (Builtin.zeroCells (Value.agg #[.slice none 0 0, .int .i64 0]).cells 1).toList = [.slice none 0 0, .int .i64 0] := by kernel_rfl
  simp [Builtin.clear_, run_underlying Try.underlying63, hv, hz, hst]
  rfl
set_option maxRecDepth 100000 in
theorem pop_end {fv : Value} {lt : It → It → Bool} {w : World} {hb : Nat} {p : Nat} {F : Nat → Prop} (h : HAt C w hb fv lt [] p F) :
    Calls Try.prog 46 #[.pointer (some ⟨hb, 0, none⟩)] w fun e w' => e = .returned (.tuple #[.slice none 0 0, .bool false]) ∧ w' = w := by
  obtain ⟨A, nv, hin, hbag, hsh⟩ := h
  have hA : A = [] := List.eq_nil_of_length_eq_zero (by rw [hbag.len]; rfl)
  subst hA
  have HPK := hide (peek_none hin)
  clear hin hbag hsh
  go_enter Try.func46, Try.ntmps46
  go_wp2_with (go_at_call 44; refine (unhide HPK).mono ?_; rintro e w1 ⟨rfl, hw1⟩; have hw2 := hw1.symm; subst hw2; clear hw1)
  exact bodyPost_ret (v := .tuple #[.slice none 0 0, .bool false]) (by simp [results, Try.results46, go_sem]) rfl ⟨rfl, rfl⟩
set_option maxRecDepth 100000 in
set_option maxHeartbeats 4000000 in
theorem pop_some {fv : Value} {lt : It → It → Bool} (L : LessV C fv lt) {w : World} {hb : Nat} {I J : List It} {x : It} {p : Nat} {F : Nat → Prop} (h : HAt C w hb fv lt I p F) (hz : I.length ≤ 1099511627776) (hp : pop lt I = some (x, J)) :
    Calls Try.prog 46 #[.pointer (some ⟨hb, 0, none⟩)] w fun e w' => e = .returned (.tuple #[.slice x.ao x.n x.c, .bool true]) ∧ Res C F w hb fv lt J p w' := by
  obtain ⟨A, nv, hin, hbag, hsh⟩ := h
  have hAl := hbag.len
  obtain ⟨ao, cap, rfl⟩ := own_slice hin.row
  have hA0 : 0 < A.length := by
    rw [hAl]
    cases I with
    | nil => simp [pop] at hp
    | cons y t => simp
  obtain ⟨g, rfl⟩ : ∃ g, ao = some ⟨g, 0, none⟩ := by
    rcases hin.row.2 with ⟨e1, e2⟩ | ⟨g, c, cur, e1, _⟩
    · omega
    · injection e1 with e1 _ _; exact ⟨g, e1⟩
  have HPK := hide (peek_some hin hA0)
  obtain ⟨c0, c1, c2, cf, hl⟩ := hcells hin.obj
  obtain ⟨l, hl1⟩ : ∃ l, A.length = l + 1 := ⟨A.length - 1, by omega⟩
  have HIN := hide hin
  have HL := hide L
  have HLT := hide hin.lt
  have hSZ := hin.sz
  have HSHC := hide (shape_cut (gd A l) hsh hl1)
  have HBG : Hid (gd A 0 = (x, (gd A 0).2) ∧ Bag ((A.set 0 (gd A l)).take l) J p) := by
    obtain ⟨a, T, rfl⟩ : ∃ a T, A = a :: T := by cases A with | nil => simp at hA0 | cons a T => exact ⟨a, T, rfl⟩
    obtain ⟨J', e1, e2⟩ := hbag.pop L.ord (fun y hy => by
      obtain ⟨i, hi⟩ := List.mem_iff_getElem?.1 hy
      have := hsh.root L.ord i (List.getElem?_eq_some_iff.1 hi).1
      rw [gd_some hi] at this
      exact this)
    rw [hp] at e1
    injection e1 with e1
    injection e1 with e1 e3
    subst e3
    exact ⟨by rw [e1]; rfl, e2.perm (cut_perm hl1)⟩
  clear hbag hsh hin c0 c2 L
  rw [hl1] at c1 HIN
  go_enter Try.func46, Try.ntmps46
  go_wp2_with (go_at_call 44; refine (unhide HPK).mono ?_; rintro e w1 ⟨rfl, hw1⟩; have hw2 := hw1.symm; subst hw2; clear hw1)
  obtain ⟨d0, d1, df⟩ := ncells (c := cap) (by rw [hl1]; exact unhide HIN) rfl
  have k0 := d0 l (by omega)
  have k1 := d1 l (by omega)
  have z0 : w.cell? ⟨g, 0, none⟩ = some (.slice (gd A 0).1.ao (gd A 0).1.n (gd A 0).1.c) := by simpa using d0 0 hA0
  have z1 : w.cell? ⟨g, 1, none⟩ = some (.int .i64 (gd A 0).2) := by simpa using d1 0 hA0
  have hgF : F g := (unhide HIN).rowF g rfl
  have hgw : g < w.heap.size := (unhide HIN).lt g hgF
  have hgb : hb ≠ g := hne (c := cap) (A := A) (by rw [hl1]; exact unhide HIN)
  have hll : (l : Int) < (l : Int) + 1 := by omega
  have hl0 : 0 ≤ (l : Int) := by omega
  have hlz : l ≤ 1099511627776 := by omega
  clear d0 d1 HPK
  go_region
  all_goals
    refine gen_then ?_
    intro W hW
    have HWI : Hid (HIn C W hb fv (A.set 0 (gd A l)) p F (.slice (some ⟨g, 0, none⟩) (l + 1) cap) ∧ Chg F w W) := by
      have q := HIn.put (unhide HIN) hl1.symm 0 (gd A l) ((unhide HIN).zg (by rw [hl1]; omega))
      have e : W = (put3 w g 0 (gd A l)).drew := by rw [hW]; rfl
      rw [e]
      exact ⟨q.1.drew, q.2.drew⟩
    have e1W : W.cell? ⟨hb, 1, none⟩ = some (.slice (some ⟨g, 0, none⟩) (l + 1) cap) := (hcells (unhide HWI).1.obj).2.1
    have efW := (hcells (unhide HWI).1.obj).2.2.2.1
    have hlW : (A.set 0 (gd A l)).length = l + 1 := by simpa using hl1
    obtain ⟨d0, d1, dfW⟩ := ncells (c := cap) (by rw [hlW]; exact (unhide HWI).1) rfl
    rw [hlW] at d0 d1
    have m0 := d0 l (by omega)
    have m1 := d1 l (by omega)
    have hcap : l + 1 ≤ cap := by
      rcases (unhide HIN).row.2 with ⟨e, _⟩ | ⟨g', c', cur, e, _, _, hn, _⟩
      · cases e
      · injection e with _ _ e; rw [e, ← hl1]; exact hn
    have hcl : ¬ cap = l := by omega
    have hclr := clear_run (c := cap - l) m0 m1 dfW 0
    obtain ⟨W2, hW2⟩ : ∃ W2, W2 = put3 W g l (cu0, 0) := ⟨_, rfl⟩
    rw [← hW2] at hclr
    have oth2 : ∀ k, k ≠ g → W2.heap[k]? = W.heap[k]? := fun k hk => by rw [hW2]; exact put3_block W g l _ hk
    have e21 := (World.cell?_of_block (a := ⟨hb, 1, none⟩) (oth2 _ hgb)).trans e1W
    have e2f := (World.frozen?_of_block (a := ⟨hb, 1, none⟩) (oth2 _ hgb)).trans (efW 1)
    have HCUT := hide ((unhide HWI).1.cut (by simpa using hl1) (cu0, 0))
    rw [← hW2] at HCUT
    clear hW hW2 oth2 d0 d1 df k0 k1 z0 z1 hlW m0 m1 dfW efW
    have HSK := hide (sink_any (unhide HL) (unhide HCUT).1 (by simp; omega) (unhide HSHC))
    go_wp2_with (go_at_call 62; refine (unhide HSK).mono ?_; rintro e w7 ⟨rfl, B, y1, y2, y3, y4⟩; have H7 := hide (And.intro y1 (And.intro y2 (And.intro y3 y4))); clear y1 y2 y3 y4)
    obtain ⟨y1, y2, y3, y4⟩ := unhide H7
    have c7 : Chg F w w7 := ((unhide HWI).2.then (unhide HCUT).2).then y4
    have ex : (gd A 0).1 = x := by rw [(unhide HBG).1]
    rw [ex]
    exact bodyPost_ret (v := .tuple #[.slice x.ao x.n x.c, .bool true]) (by simp [results, Try.results46, go_sem]) rfl ⟨rfl, ⟨B, _, y1.kept (fun _ _ => rfl) (fun b hb => .inl hb) (fun b hb => hb.elim (fun h => y1.lt b h) (fun h => h.2)) y1.kw (fun b hb => hb.elim (y1.fn b) (fun x => C.new b (Nat.le_trans hSZ x.1))) (Nat.le_refl _), (unhide HBG).2.perm y2, y3⟩, c7⟩
end Hpc
end Go.Proofs.Ytamlfmohalkemaa
