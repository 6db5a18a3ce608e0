/- Layer 8, a heap of cursors: Push. -/
import Derived.Test.YtamlfmohalkemaaCe
namespace Go.Proofs.Ytamlfmohalkemaa
open Go.RowKit
namespace Hpc
open Hp
variable {C : Cx}
theorem ent_next (x y : Value) (W : World) : Sem.run Try.prog (callFunc 60 #[x, y]) W = .ok (.enter 60 #[x, y]) W := by kernel_rfl
theorem Res.trans {F : Nat → Prop} {w w1 w2 : World} {hb : Nat} {fv : Value} {lt : It → It → Bool} {I J : List It} {p q : Nat} (h : Res C F w hb fv lt I p w1) (k : Res C (Up F w w1) w1 hb fv lt J q w2) : Res C F w hb fv lt J q w2 :=
  ⟨k.1.kept (fun _ _ => rfl) (up_up h.2.size k.2.size) (fun _ hb => hb.elim (fun x => Nat.lt_of_lt_of_le (h.1.lt _ (.inl x)) k.2.size) (fun x => x.2)) k.1.kw (fun b hb => k.1.fn b (by
    rcases hb with e | e
    · exact .inl (.inl e)
    · by_cases q : b < w1.heap.size
      · exact .inl (.inr ⟨e.1, q⟩)
      · exact .inr ⟨by omega, e.2⟩)) (Nat.le_refl _), h.2.trans k.2⟩
theorem Res.below {F : Nat → Prop} {w w1 w2 : World} {hb : Nat} {fv : Value} {lt : It → It → Bool} {I : List It} {p : Nat} (h : Res C F w hb fv lt I p w1) (k : Below w1.heap.size w1 w2) : Res C F w hb fv lt I p w2 :=
  ⟨h.1.kept (fun b hF => k.block b (h.1.lt b hF)) (fun _ hb => hb.imp id fun x => ⟨x.1, Nat.lt_of_lt_of_le x.2 k.size⟩) (fun b hb => hb.elim (fun x => Nat.lt_of_lt_of_le (h.1.lt b (.inl x)) k.size) (fun x => x.2)) (C.below h.1.kw k) (fun b hb => by
    rcases hb with e | e
    · exact h.1.fn b (.inl e)
    · by_cases q : b < w1.heap.size
      · exact h.1.fn b (.inr ⟨e.1, q⟩)
      · exact C.new b (Nat.le_trans h.1.sz (by omega))) k.size, h.2.trans (Chg.of_below k)⟩
theorem Res.start {F : Nat → Prop} {w : World} {hb : Nat} {fv : Value} {lt : It → It → Bool} {I : List It} {p : Nat} (h : HAt C w hb fv lt I p F) : Res C F w hb fv lt I p w :=
  ⟨h.kept (fun _ _ => rfl) (fun _ x => .inl x) (fun b hb => hb.elim (h.lt b) (fun x => x.2)) h.kw (fun b hb => hb.elim (h.fn b) (fun x => by omega)) (Nat.le_refl _), Chg.refl _ _⟩
/-- items in a list that does not lie in the blocks F -/
def Its (w : World) (v : Value) (X : List It) (F : Nat → Prop) : Prop := ∃ ao cap, v = .slice ao X.length cap ∧ (0 < X.length → ∃ g off, ao = some ⟨g, off, none⟩ ∧ g < w.heap.size ∧ ¬ F g ∧ ∀ (j : Nat) x, X[j]? = some x → w.cell? ⟨g, off + j, none⟩ = some (.slice x.ao x.n x.c))
theorem Its.chg {w w' : World} {v : Value} {X : List It} {F : Nat → Prop} (h : Its w v X F) (c : Chg F w w') : Its w' v X F := by
  obtain ⟨ao, cap, e, h⟩ := h
  refine ⟨ao, cap, e, fun h0 => ?_⟩
  obtain ⟨g, off, e1, hg, hF, hc⟩ := h h0
  refine ⟨g, off, e1, Nat.lt_of_lt_of_le hg c.size, hF, fun j x hx => ?_⟩
  have hb := c.block g hg hF
  exact (World.cell?_of_block (a := ⟨g, off + j, none⟩) hb).trans (hc j x hx)
theorem Its.mono {w : World} {v : Value} {X : List It} {F G : Nat → Prop} (h : Its w v X F) (hG : ∀ b, b < w.heap.size → G b → F b) : Its w v X G := by
  obtain ⟨ao, cap, e, h⟩ := h
  refine ⟨ao, cap, e, fun h0 => ?_⟩
  obtain ⟨g, off, e1, hg, hF, hc⟩ := h h0
  exact ⟨g, off, e1, hg, fun x => hF (hG g hg x), hc⟩
/-- the nodes were grown by one, in a row that may have moved -/
theorem HIn.pushed {w W5 : World} {hb : Nat} {fv nv nv' : Value} {A : List Nd} {p : Nat} {F : Nat → Prop} {x : Nd} (h : HIn C w hb fv A p F nv) (hown : W5.ownsRow 0 85 2 nv' (A ++ [x]).length (rowN (A ++ [x]))) (hg : w.grownBy W5 nv.ownBlock) (zx : C.Z x.1) (hbk : nv'.ownBlock = nv.ownBlock ∨ nv'.ownBlock = some w.heap.size) :
    W5.cell? ⟨hb, 1, none⟩ = some nv ∧ W5.frozen? ⟨hb, 1, none⟩ = false ∧ HIn C (W5.setCell ⟨hb, 1, none⟩ nv') hb fv (A ++ [x]) p (Up F w W5) nv' ∧ Chg F w (W5.setCell ⟨hb, 1, none⟩ nv') ∧ hb < W5.heap.size := by
  have hne : nv.ownBlock ≠ some hb := fun e => by
    obtain ⟨C, fz, hx⟩ := Lib.ownsRow_kind h.row hb e
    rw [h.obj] at hx
    injection hx with hx
    injection hx with _ hx _
    exact absurd hx (by decide)
  have hlt := h.lt _ h.own
  have ho : W5.heap[hb]? = _ := (hg.block hb hlt (fun e => hne e.symm)).trans h.obj
  obtain ⟨c0, c1, c2, cf, hl⟩ := hcells ho
  have hne' : nv'.ownBlock ≠ some hb := fun e => by
    rcases hbk with q | q
    · exact hne (q ▸ e)
    · rw [q] at e; injection e with e; omega
  have hsz := hg.size
  have hch : Chg F w (W5.setCell ⟨hb, 1, none⟩ nv') := ((Chg.refl F w).grown hg fun k hk => .inl (h.rowF k hk)).setCell (.inl h.own) _
  refine ⟨c1, cf 1, ⟨fun b hb => ?_, .inl h.own, by rw [set_heap1 ho]; rfl, own_kept hown fun g hg => Below.heap_setCell _ _ _ _ (fun e => hne' (by rw [hg, e])), fun g hg' => ?_, fun y hy => ?_, C.keeps _ _ h.kw hch.size fun b hb hn => hch.block b hb fun e => hn (h.fn b e), fun b hb => hb.elim (h.fn b) (fun x => C.new b (Nat.le_trans h.sz x.1)), Nat.le_trans h.sz hch.size⟩, hch, hl⟩
  · rcases hb with hb | hb
    · have := h.lt b hb; simp; omega
    · simpa using hb.2
  · rcases hbk with q | q
    · exact .inl (h.rowF g (q ▸ hg'))
    · rw [q] at hg'
      injection hg' with hg'
      have := (hown.lt g (by rw [q, hg'])).2
      exact .inr ⟨by omega, this⟩
  · rcases List.mem_append.1 hy with e | e
    · exact h.zz y e
    · simp at e; subst e; exact zx
theorem gd_app {A : List Nd} {x : Nd} {i : Nat} (h : i < A.length) : gd (A ++ [x]) i = gd A i := by
  unfold gd
  simp [List.getElem?_append_left h]
theorem shape_more {lt : It → It → Bool} {A : List Nd} {x : Nd} (h : Shape lt (gd A) A.length) : Rising lt (gd (A ++ [x])) (A ++ [x]).length ((A ++ [x]).length - 1) := by
  simp only [List.length_append, List.length_singleton, Nat.add_sub_cancel]
  refine ⟨fun i h0 hi hne => ?_, fun h0 c hc hc0 hp => by simp only [par] at hp; omega⟩
  rw [gd_app (by omega), gd_app (by simp only [par]; omega)]
  exact h i h0 (by omega)
theorem push_fin {F : Nat → Prop} {w wr V w3 W5 w7 : World} {hb : Nat} {fv nv nv7 : Value} {lt : It → It → Bool} {I J : List It} {p q : Nat} {B : List Nd} {o : Obj} (hR : Res C F w hb fv lt I p wr) (hV : Below wr.heap.size wr V) (h4 : Chg (Up F w wr) V.drew w3) (h5 : Chg (Up F w wr) (w3.alloc o) (W5.setCell ⟨hb, 1, none⟩ nv)) (h6 : HIn C w7 hb fv B q (Up (Up F w wr) (w3.alloc o) W5) nv7) (h7 : Chg (Up (Up F w wr) (w3.alloc o) W5) (W5.setCell ⟨hb, 1, none⟩ nv) w7) (hbag : Bag B J q) (hsh : Shape lt (gd B) B.length) : Res C F w hb fv lt J q w7 := by
  have c1 : Chg (Up F w wr) wr w3 := (Chg.of_below hV).drew.then h4
  have c2 : Chg (Up F w wr) wr (W5.setCell ⟨hb, 1, none⟩ nv) := (c1.alloc o).then h5
  have s1 := c1.size
  have s2 := c2.size
  have s3 := h7.size
  have s5 := h5.size
  have e5 : (W5.setCell ⟨hb, 1, none⟩ nv).heap.size = W5.heap.size := by simp
  have eo : (w3.alloc o).heap.size = w3.heap.size + 1 := by simp
  rw [e5] at s2 s3 s5
  rw [eo] at s5
  have c3 : Chg (Up F w wr) wr w7 := c2.trans (h7.mono fun b hb => by
    rcases hb with hb | hb
    · exact .inl hb
    · refine .inr ⟨?_, ?_⟩
      · have := hb.1; simp at this; omega
      · simpa using hb.2)
  refine hR.trans ⟨⟨B, nv7, h6.kept (fun _ _ => rfl) (fun b hb => ?_) (fun b hb => ?_) h6.kw (fun b hb => hb.elim (hR.1.fn b) (fun x => C.new b (Nat.le_trans hR.1.sz x.1))) (Nat.le_refl _), hbag, hsh⟩, c3⟩
  · rcases hb with hb | hb
    · exact .inl hb
    · refine .inr ⟨?_, ?_⟩
      · have := hb.1; simp at this; omega
      · have := hb.2; omega
  · rcases hb with hb | hb
    · exact Nat.lt_of_lt_of_le (hR.1.lt b hb) c3.size
    · exact hb.2
set_option maxRecDepth 100000 in
set_option maxHeartbeats 4000000 in
theorem push_any {fv : Value} {lt : It → It → Bool} (L : LessV C fv lt) {w : World} {hb : Nat} {I : List It} {p : Nat} {F : Nat → Prop} (h : HAt C w hb fv lt I p F) {v : Value} {X : List It} (hx : Its w v X F) (zX : ∀ x ∈ X, C.Z x) (hz : I.length + X.length ≤ 1099511627775) (hp : p + X.length ≤ 4611686018427387904) :
    Calls Try.prog 43 #[.pointer (some ⟨hb, 0, none⟩), v] w fun e w' => e = .returned (.tuple #[]) ∧ Res C F w hb fv lt (I ++ X) (p + X.length) w' := by
  have HX := hide hx
  have HZX := hide zX
  clear zX
  obtain ⟨ao, cap, rfl, hat⟩ := hx
  have HL := hide L
  have H0 := hide (Res.start h)
  clear h L hat
  have HIP : Hid (∀ k, k ≤ X.length → I.length + k ≤ 1099511627775 ∧ p + k ≤ 4611686018427387904) := fun k hk => by omega
  generalize hn : X.length = n at *
  have HN := hide hn
  clear hn hz hp
  go_enter Try.func43, Try.ntmps43
  go_wp2
  go_loopw [10] (fun s10 wr => ∃ (k : Nat), s10 = .int .i64 k ∧ k ≤ n ∧ Hid (Res C F w hb fv lt (I ++ X.take k) (p + k) wr)) (fun s10 _ => n - (intOf s10).toNat)
  case atStart => exact ⟨0, rfl, Nat.zero_le _, by simpa using H0⟩
  case round =>
    obtain ⟨k, rfl, hk, HR⟩ := hrel
    by_cases hlt : k < n
    · have hltz : (k : Int) < (n : Int) := by omega
      have hk0 : 0 ≤ (k : Int) := by omega
      obtain ⟨x, hx⟩ : ∃ x, X[k]? = some x := ⟨_, List.getElem?_eq_getElem (by rw [unhide HN]; exact hlt)⟩
      have hXr := (unhide HX).chg (unhide HR).2
      obtain ⟨ao', cap', e1, hat⟩ := hXr
      obtain ⟨g, off, e2, hg, hF, hc⟩ := hat (by rw [unhide HN]; omega)
      have e3 : ao = ao' := by injection e1
      clear e1
      subst e3
      subst e2
      have x0 := hc k x hx
      obtain ⟨A, nv, hin, hbag, hsh⟩ := (unhide HR).1
      have hAl : A.length = I.length + k := by rw [hbag.len]; simp [unhide HN]; omega
      have hb1 := (unhide HIP k hk).1
      have hb2 := (unhide HIP k hk).2
      obtain ⟨c0, c1, c2, cf, hl⟩ := hcells hin.obj
      have HT : Hid (I ++ X.take (k + 1) = (I ++ X.take k) ++ [x]) := by
        rw [Hid, List.take_succ_eq_append_getElem (by rw [unhide HN]; exact hlt), (List.getElem?_eq_some_iff.1 hx).2, List.append_assoc]
      obtain ⟨q, hq⟩ : ∃ q, q = p + k + 1 := ⟨_, rfl⟩
      have HZx := hide (unhide HZX x (List.mem_of_getElem? hx))
      have HIN := hide hin
      have HBAG : Hid (Bag (A ++ [(x, q)]) ((I ++ X.take k) ++ [x]) q) := by rw [hq]; exact hbag.push x
      have HSH := hide (shape_more (x := (x, q)) hsh)
      have HAL := hide hAl
      have HNX : Hid (∀ W, Below wr.heap.size wr W → Calls Try.prog 60 #[.pointer (some ⟨hb, 0, none⟩), .slice x.ao x.n x.c] W fun e w' => e = .returned (.agg #[.slice x.ao x.n x.c, .int .i64 (q : Int)]) ∧ HIn C w' hb fv A q (Up F w wr) nv ∧ Chg (Up F w wr) W w') := fun W hW => by
        rw [hq]
        exact next_any (hin.below hW) hb2 x
      have HLT := hide hin.lt
      have HQ := hide hq
      clear hat hc hx hin hbag hsh hAl c0 c2 hq
      go_wp2
      refine gen_world ?_
      intro V hV
      have s0 : V.cell? ⟨hb, 1, none⟩ = some nv := by rw [hV]; exact c1
      have hVB : Below wr.heap.size wr V := by rw [hV]; exact Below.refl _ _
      have HVB := hide hVB
      clear hV hVB
      go_region_law
        (first
          | (refine step_call2 (by rfl) 60 _ _ _ (by rfl) (.pointer (some ⟨hb, 0, none⟩)) (.slice x.ao x.n x.c) (by rfl) (by rfl) (fun W => ent_next _ _ W) ((unhide HNX _ (unhide HVB).drew).mono ?_)
             rintro e w3 ⟨rfl, h3, h4⟩
             refine ⟨_, rfl, ?_⟩
             have k3 : w3.cell? ⟨hb, 1, none⟩ = some nv := (hcells h3.obj).2.1
             have hl3 : hb < w3.heap.size := (hcells h3.obj).2.2.2.2
             obtain ⟨nv5, W5, hap, hown5, hgr5, hbk5⟩ := push_node (W := w3.alloc (.cells #[.slice x.ao x.n x.c, .int .i64 (q : Int)] 85)) (h3.row.alloc _) w3.heap.size (x, q) (World.cell?_alloc_at _ _ _ _ rfl) (World.cell?_alloc_at _ _ _ _ rfl) (by rw [unhide HAL]; omega) 63 1
             obtain ⟨a5, c5, rfl⟩ := own_slice hown5
             have HAP := hide hap
             obtain ⟨z1, z2, z3, z4, z5⟩ := HIn.pushed (h3.below ((Below.refl _ _).alloc (Nat.le_refl _) _)) hown5 hgr5 (unhide HZx) hbk5
             have HZ := hide (And.intro z3 z4)
             have H4 := hide h4
             clear h3 h4 hap hown5 hgr5 hbk5 z3 z4)
          | (refine step_app (by rfl) _ _ _ (by rfl) _ _ _ _ (by rfl) (by rfl) (by exact unhide HAP) ?_))
      all_goals
        have HRS := hide (rise_any (unhide HL) (unhide HZ).1 (by simp) (by simp [unhide HAL]; omega) (unhide HSH))
        rw [List.length_append, List.length_singleton] at HRS HZ
        go_wp2_with (go_at_call 61; refine (unhide HRS).mono ?_; rintro e w7 ⟨rfl, hB7⟩; have H7 := hide hB7; clear hB7)
        have HFI : Hid (Res C F w hb fv lt (I ++ X.take (k + 1)) (p + (k + 1)) w7) := by
          obtain ⟨B, y1, y2, y3, y4⟩ := unhide H7
          rw [unhide HT, show p + (k + 1) = q by rw [unhide HQ]; omega]
          exact push_fin (unhide HR) (unhide HVB) (unhide H4) (unhide HZ).2 y1 y4 ((unhide HBAG).perm y2) y3
        clear H7 HRS HZ H4 HAP k3
        go_roundw
        case rel => exact ⟨k + 1, by go_num, by omega, HFI⟩
        case measure => simp [intOf]; omega
    · obtain rfl : k = n := by omega
      have hltz : ¬ (k : Int) < (k : Int) := by omega
      have HE : Hid (X.take k = X) := by rw [Hid, ← unhide HN, List.take_length]
      rw [unhide HE] at HR
      clear HE
      go_wp2
      go_end0
      exact ⟨rfl, unhide HR⟩
end Hpc
end Go.Proofs.Ytamlfmohalkemaa
