/- Layer 8: beginAll: a heap of a cursor for each part that gives something. -/
import Derived.Test.YtamlfmohalkemaaZt
namespace Go.Proofs.Ytamlfmohalkemaa
open Go.RowKit Go.Shelf
namespace Sm
open Hpc (Cu Cx Les LessV HAt HIn Res Its)

theorem Zc.rebase {R R' : Nat → Prop} {w₀ w₁ : World} {x : Cu} (h : Zc R w₀ x) (hR : ∀ b, R b → R' b) (hK : ∀ b, R b → w₁.heap[b]? = w₀.heap[b]?) : Zc R' w₁ x := by
  obtain ⟨h1, h2, h3, h4, g, off, e, hg, hc⟩ := h
  exact ⟨h1, h2, h3, h4, g, off, e, hR g hg, fun j t hj => (World.cell?_of_block (a := ⟨g, off + j, none⟩) (hK g hg)).trans (hc j t hj)⟩
theorem rebase {R R' : Nat → Prop} {w₀ w w₁ : World} {hR : ∀ b, R b → b < w₀.heap.size} {hR' : ∀ b, R' b → b < w₁.heap.size} {hb p : Nat} {fv : Value} {I : List Cu} {F : Nat → Prop} (h : HAt (uC R w₀ hR) w hb fv clt I p F) (hk : Below w.heap.size w w₁) (hs : ∀ b, R b → R' b) (hn : ∀ b, R' b → R b ∨ w.heap.size ≤ b) :
    HAt (uC R' w₁ hR') w₁ hb fv clt I p F := by
  obtain ⟨A, nv, hin, hbag, hsh⟩ := h
  have hkw : ∀ b, R b → w.heap[b]? = w₀.heap[b]? := hin.kw
  have hfn : ∀ b, F b → ¬ R b := hin.fn
  have hkp := hin.kept (w' := w₁) (fun b hb => hk.block b (hin.lt b hb)) (fun _ x => x) (fun b hb => Nat.lt_of_lt_of_le (hin.lt b hb) hk.size) (Cx.below _ hin.kw hk) hin.fn hk.size
  refine ⟨A, nv, ⟨hkp.lt, hkp.own, hkp.obj, hkp.row, hkp.rowF, fun x hx => ?_, fun _ _ => rfl, fun b hb hr => ?_, Nat.le_refl _⟩, hbag, hsh⟩
  · have : Zc R w₀ x.1 := hin.zz x hx
    exact this.rebase hs fun b hb => (hk.block b (lt_of_block (hkw b hb) (hR b hb))).trans (hkw b hb)
  · rcases hn b hr with e | e
    · exact hfn b hb e
    · have := hin.lt b hb; omega
/-- streams in a row -/
def PRow (w : World) (v : Value) (Ps : List (Value × List Tx)) (B : Nat) : Prop := ∃ ao cap, v = .slice ao Ps.length cap ∧ (0 < Ps.length → ∃ g off, ao = some ⟨g, off, none⟩ ∧ g < B ∧ ∀ (j : Nat) p, Ps[j]? = some p → w.cell? ⟨g, off + j, none⟩ = some p.1)
theorem PRow.below {w w' : World} {v : Value} {Ps : List (Value × List Tx)} {B : Nat} (h : PRow w v Ps B) (hb : Below B w w') : PRow w' v Ps B := by
  obtain ⟨ao, cap, e, h⟩ := h
  refine ⟨ao, cap, e, fun h0 => ?_⟩
  obtain ⟨g, off, e1, hg, hc⟩ := h h0
  exact ⟨g, off, e1, hg, fun j p hj => (hb.cell (p := ⟨g, off + j, none⟩) hg).trans (hc j p hj)⟩
/-- the parts that give something, as cursors -/
def some? (L : List Tx) : Bool := !L.isEmpty
structure BA (w : World) (hb : Nat) (Ls : List (List Tx)) (W : World) (R F : Nat → Prop) (hR : ∀ b, R b → b < W.heap.size) (I : List Cu) : Prop where
  at_ : HAt (uC R W hR) W hb lessA clt I I.length F
  zs : ∀ i ∈ I, Zc R W i
  ls : I.map (·.L) = Ls.filter some?
  rn : ∀ b, R b → w.heap.size ≤ b
  fn : ∀ b, F b → w.heap.size ≤ b
  bl : Below w.heap.size w W
theorem store_fn {P : Program} {sv : Value} {L : List Tx} {B : Nat} {w₀ : World} (h : Gives P sv L B w₀) (w : World) (t : TypeId) : Sem.run P (store ⟨w.heap.size, 0, none⟩ sv) (w.alloc (.cells #[.nilFunc] t)) = .ok () (w.alloc (.cells #[sv] t)) := by
  rcases h with ⟨rfl, rfl⟩ | ⟨gf, lb, rfl, _⟩
  · simp [go_sem]
  · simp [go_sem]
def Ba (w : World) (hb : Nat) (Ls : List (List Tx)) (W : World) : Prop := ∃ R F hR I, BA w hb Ls W R F hR I
def lsOf (Ps : List (Value × List Tx)) : List (List Tx) := Ps.map (·.2)
theorem ls_take (Ps : List (Value × List Tx)) (k : Nat) : (lsOf (Ps.take k)).length ≤ k := by
  simp only [lsOf, List.length_map, List.length_take]; omega
theorem Ba.skip {w W W1 : World} {hb : Nat} {Ls : List (List Tx)} (h : Ba w hb Ls W) (hk : Below W.heap.size W W1) : Ba w hb (Ls ++ [[]]) W1 := by
  obtain ⟨R, F, hR, I, h1, h2, h3, h4, h5, h6⟩ := h
  refine ⟨R, F, fun b hb => Nat.lt_of_lt_of_le (hR b hb) hk.size, I, rebase h1 hk (fun _ x => x) (fun _ x => .inl x), fun i hi => (h2 i hi).rebase (fun _ x => x) fun b hb => hk.block b (hR b hb), ?_, h4, h5, h6.trans (hk.mono h6.size)⟩
  rw [h3, List.filter_append]; simp [some?]
theorem Ba.row {w W W1 : World} {hb : Nat} {Ls : List (List Tx)} {L : List Tx} {a : Option Addr} {c : Nat} (h : Ba w hb Ls W) (hk : Below W.heap.size W W1) (ho : Own W1 (.slice a L.length c) L) (hg : ∀ g, (Value.slice a L.length c).ownBlock = some g → W.heap.size ≤ g) (hr : Rs L) (hne : L ≠ []) (ov : Obj) :
    ∃ R F hR I, BA w hb Ls (W1.alloc ov) R F hR I ∧ Zc R (W1.alloc ov) ⟨a, L.length, c, L⟩ ∧ I.length ≤ Ls.length ∧ ∀ b, F b → b < W1.heap.size := by
  obtain ⟨R, F, hR, I, h1, h2, h3, h4, h5, h6⟩ := h
  have hk2 : Below W.heap.size W (W1.alloc ov) := hk.trans ((Below.refl _ W1).alloc hk.size ov)
  have hs := h6.size
  obtain ⟨ao, c', e, hcc, hat⟩ := ho.crow
  obtain ⟨g, off, ea, hgo, hgl, hcell⟩ := hat (List.length_pos_iff.2 hne)
  injection e with e1 e2 e3
  subst e1 e3
  have hgw := hg g hgo
  refine ⟨fun b => R b ∨ b = g, F, ?_, I, ⟨rebase (w := W) h1 hk2 (fun _ x => .inl x) (fun b x => x.imp id fun e => by subst e; exact hgw), fun i hi => (h2 i hi).rebase (fun _ x => .inl x) fun b hb => hk2.block b (hR b hb), h3, ?_, h5, h6.trans (hk2.mono hs)⟩, ⟨hne, rfl, hcc, hr, g, off, ea, .inr rfl, fun j t hj => ?_⟩, ?_, fun b hb => ?_⟩
  · intro b hb
    have h7 := hk.size
    rw [World.size_alloc]
    rcases hb with e | e
    · have := hR b e; omega
    · omega
  · intro b hb
    rcases hb with e | e
    · exact h4 b e
    · omega
  · exact (World.cell?_of_block (a := ⟨g, off + j, none⟩) (Below.heap_alloc _ _ _ hgl)).trans (hcell j t hj)
  · have := congrArg List.length h3
    rw [List.length_map] at this
    rw [this]; exact List.length_filter_le _ _
  · exact Nat.lt_of_lt_of_le (h1.lt b hb) hk.size
theorem Ba.push {w W2 W3 : World} {hb : Nat} {Ls : List (List Tx)} {R F : Nat → Prop} {hR : ∀ b, R b → b < W2.heap.size} {I : List Cu} {x : Cu} (h : BA w hb Ls W2 R F hR I) (zx : Zc R W2 x) (k : Res (uC R W2 hR) F W2 hb lessA clt (I ++ [x]) (I.length + [x].length) W3) : Ba w hb (Ls ++ [x.L]) W3 := by
  obtain ⟨h1, h2, h3, h4, h5, h6⟩ := h
  obtain ⟨k1, k2⟩ := k
  have hkw : ∀ b, R b → W3.heap[b]? = W2.heap[b]? := k1.kw
  have hs := h6.size
  have hs2 := k2.size
  refine ⟨R, Hp.Up F W2 W3, fun b hb => Nat.lt_of_lt_of_le (hR b hb) hs2, I ++ [x], ?_, fun i hi => ?_, ?_, h4, fun b hb => ?_, ?_⟩
  · rw [List.length_append]
    exact rebase k1 (Below.refl _ _) (fun _ x => x) (fun _ x => .inl x)
  · rcases List.mem_append.1 hi with e | e
    · exact (h2 i e).rebase (fun _ x => x) hkw
    · simp at e; subst e; exact zx.rebase (fun _ x => x) hkw
  · rw [List.map_append, List.filter_append, h3]
    have : some? x.L = true := by
      have := zx.ne
      unfold some?
      cases e : x.L with
      | nil => exact absurd e this
      | cons _ _ => rfl
    simp [this]
  · rcases hb with e | e
    · exact h5 b e
    · omega
  · exact h6.trans ⟨k2.os, k2.tape, k2.output, k2.size, fun i hi => k2.block i (by omega) fun e => by have := h5 i e; omega⟩
set_option maxRecDepth 100000 in
set_option maxHeartbeats 4000000 in
theorem begin_all {w w₀ : World} {pv : Value} {Ps : List (Value × List Tx)} {B : Nat} (hp : PRow w pv Ps B) (hb : Below B w₀ w) (hB : B ≤ w.heap.size) (hg : ∀ p ∈ Ps, Gives Try.prog p.1 p.2 B w₀ ∧ Rs p.2 ∧ p.2.length ≤ 8796093022208) (hz : Ps.length ≤ 1048576) :
    Calls Try.prog 31 #[pv] w fun e w' => ∃ hb, e = .returned (.pointer (some ⟨hb, 0, none⟩)) ∧ Ba w hb (lsOf Ps) w' := by
  have HNE : Hid (Calls Try.prog 40 #[lessA, .slice none 0 0] w fun e w' => ∃ hb, e = .returned (.pointer (some ⟨hb, 0, none⟩)) ∧ Ba w hb [] w') := by
    refine (Hpc.new_any (lessV_ahead (fun _ => False) w (fun _ h => h.elim)) (X := []) ⟨none, 0, rfl, fun h => by simp at h⟩ (fun _ h => by cases h) (fun _ h => h.elim) (Nat.le_refl _) (by simp)).mono ?_
    rintro e w' ⟨rfl, h1, h2⟩
    refine ⟨_, rfl, fun _ => False, _, (fun _ h => False.elim h), [], rebase h1 (Below.refl _ _) (fun _ x => x) (fun _ x => .inl x), (fun _ h => by cases h), rfl, (fun _ h => h.elim), (fun b hb => hb.1), h2⟩
  have HP := hide hp
  have HB := hide hb
  have HG := hide hg
  obtain ⟨ao, cap, rfl, hat⟩ := hp
  clear hb hg hat
  go_enter Try.func31, Try.ntmps31
  go_wp2_with (go_at_call 40; refine (unhide HNE).mono ?_; rintro e w1 ⟨hb, rfl, hba⟩; have HBA := hide hba; clear hba)
  obtain ⟨n, hn⟩ : ∃ n, Ps.length = n := ⟨_, rfl⟩
  have HN := hide hn
  rw [hn] at hz HP ⊢
  clear hn
  go_loopw [10] (fun s10 wr => ∃ (k : Nat), s10 = .int .i64 k ∧ k ≤ n ∧ Hid (Ba w hb (lsOf (Ps.take k)) wr)) (fun s10 _ => n - (intOf s10).toNat)
  case atStart => exact ⟨0, rfl, Nat.zero_le _, HBA⟩
  case round =>
    obtain ⟨k, rfl, hk, HK⟩ := hrel
    by_cases hlt : k < n
    · have hltz : (k : Int) < (n : Int) := by omega
      have hk0 : 0 ≤ (k : Int) := by omega
      obtain ⟨⟨sv, L⟩, hx⟩ : ∃ x, Ps[k]? = some x := ⟨_, List.getElem?_eq_getElem (by rw [unhide HN]; exact hlt)⟩
      have hbl : Below w.heap.size w wr := by
        obtain ⟨_, _, _, _, q⟩ := unhide HK
        exact q.bl
      obtain ⟨ao', cap', e1, hat⟩ := (unhide HP).below (hbl.mono hB)
      obtain ⟨g, off, e2, hg, hc⟩ := hat (by rw [unhide HN]; omega)
      have e3 : ao = ao' := by injection e1
      clear e1
      subst e3
      subst e2
      have x0 := hc k _ hx
      have hgw : g < wr.heap.size := by have := hbl.size; omega
      obtain ⟨g1, g2, g3⟩ := unhide HG _ (List.mem_of_getElem? hx)
      have HRL := hide g2
      have HT : Hid (lsOf (Ps.take (k + 1)) = lsOf (Ps.take k) ++ [L]) := by
        rw [Hid, List.take_succ_eq_append_getElem (by rw [unhide HN]; exact hlt), (List.getElem?_eq_some_iff.1 hx).2, lsOf, List.map_append]
        rfl
      have HBG : Hid (∀ V, Below wr.heap.size wr V → Calls Try.prog 42 #[.agg #[sv]] V fun e w' => ∃ sl, e = .returned sl ∧ Own w' sl L ∧ (∀ g, sl.ownBlock = some g → V.heap.size + 1 ≤ g) ∧ Below V.heap.size V w') := fun V hV => begin_any g1 ((unhide HB).trans ((hbl.trans (hV.mono hbl.size)).mono hB)) (by have := hbl.size; have := hV.size; omega) g3
      have hst := store_fn g1 wr 27
      clear hat hc g1 g2 hbl hx
      have HBG2 := hide (unhide HBG _ ((Below.refl _ wr).alloc (Nat.le_refl _) (.cells #[sv] 27)))
      have HKS : Hid (∀ w2 a c, Own w2 (.slice a L.length c) L → Below (wr.heap.size + 1) (wr.alloc (.cells #[sv] 27)) w2 → Below wr.heap.size wr w2) := fun w2 a c _ h => ((Below.refl _ wr).alloc (Nat.le_refl _) (.cells #[sv] 27)).trans (h.mono (by omega))
      clear HBG
      rcases L with _ | ⟨z, L⟩
      · go_wp2_with (go_at_call 42; refine (unhide HBG2).mono ?_; rintro e w2 ⟨sl, rfl, ho, hn2, hb2⟩; obtain ⟨a2, c2, rfl⟩ := ho.slice; rw [World.size_alloc] at hb2; have HO := hide ((unhide HK).skip (unhide HKS w2 a2 c2 ho hb2)); clear ho hn2 hb2; simp only [List.length_nil])
        refine ⟨⟨k + 1, by simp, by omega, ?_⟩, ?_⟩
        · rw [unhide HT]; exact HO
        · show n - ((k : Int) + 1).toNat < n - (k : Int).toNat
          omega
      · have hl0 : (0 : Int) < ((L.length + 1 : Nat) : Int) := by omega
        go_wp2_with (first | (go_at_call 42; refine (unhide HBG2).mono ?_; rintro e w2 ⟨sl, rfl, ho, hn2, hb2⟩; obtain ⟨a2, c2, rfl⟩ := ho.slice; rw [World.size_alloc] at hb2 hn2; have hq := (unhide HK).row (unhide HKS w2 a2 c2 ho hb2) ho (fun g hg => by have := hn2 g hg; omega) (unhide HRL) (by simp) (.cells #[.slice a2 (z :: L).length c2] 51); clear ho hn2 hb2; obtain ⟨R, F, hR, I, b1, b2, b3, b4⟩ := hq; have HPU := hide (Hpc.push_any (lessV_ahead R _ hR) b1.at_ (v := .slice (some ⟨w2.heap.size, 0, none⟩) 1 1) (X := [⟨a2, (z :: L).length, c2, z :: L⟩]) ⟨_, _, rfl, fun _ => ⟨w2.heap.size, 0, rfl, by simp, fun h => by have := b4 _ h; omega, fun j x hj => by rcases j with _ | j; simp at hj; subst hj; exact World.cell?_alloc_at _ _ _ _ rfl; simp at hj⟩⟩ (fun x hx => by simp at hx; subst hx; exact b2) (by have := ls_take Ps k; show I.length + 1 ≤ _; omega) (by have := ls_take Ps k; show I.length + 1 ≤ _; omega)); have HB1 := hide (b1); have HB2 := hide b2; clear b1 b2 b3 b4; simp only [List.length_cons] at *) | (go_at_call 43; refine (unhide HPU).mono ?_; rintro e w4 ⟨rfl, hres⟩; have H4 := hide (Ba.push (unhide HB1) (unhide HB2) hres); clear hres))
        refine ⟨⟨k + 1, by simp, by omega, ?_⟩, ?_⟩
        · rw [unhide HT]; exact H4
        · show n - ((k : Int) + 1).toNat < n - (k : Int).toNat
          omega
    · go_wp2
      go_ret
      have : Ps.take k = Ps := List.take_of_length_le (by rw [unhide HN]; omega)
      rw [this] at HK
      exact ⟨hb, rfl, HK⟩
end Sm
end Go.Proofs.Ytamlfmohalkemaa
