/- Layer 7: Push. -/
import Derived.Test.YtddfljlecnllaaaHq
import Derived.Deep.RegionLaw
namespace Go.Proofs.Ytddfljlecnllaaa
open Go.RowKit
namespace Hp
theorem step_app {P : Program} {ops : Array Oper} {o : Oper} {a : Act} {w : World} {K : Act → World → Prop} {Q : Exit → Act → World → Prop} {E : Prop}
    (hg : o.guard = none) (s x : Operand) (t : TypeId) (hop : o.op = Op.call { callee := Callee.builtin Builtin.append, args := #[s, x], argTypes := #[t, t] })
    (v u v' : Value) (w' : World) (hs : a.eval s = v) (hx : a.eval x = u) (hrun : (Builtin.append_ #[t, t] o.type #[v, u]).run P w = .ok v' w') (hK : K (a.put o.dst v') w') :
    if Region.wanted o (yielded ops a.tmps) = true then Oper.wp P o a w K Q else E := by
  have hw : Region.wanted o (yielded ops a.tmps) = true := by simp [Region.wanted, hg]
  rw [if_pos hw]
  unfold Oper.wp
  simp [execOp, hop, resolve, invoke, builtin, hs, hx, hrun, Result.andThen]
  exact hK
theorem step_call2 {P : Program} {ops : Array Oper} {o : Oper} {a : Act} {w : World} {K : Act → World → Prop} {Q : Exit → Act → World → Prop} {E : Prop}
    (hg : o.guard = none) (f : FuncId) (x y : Operand) (ts : Array TypeId) (hop : o.op = Op.call { callee := Callee.value (Operand.func f), args := #[x, y], argTypes := ts })
    (u v : Value) (hx : a.eval x = u) (hy : a.eval y = v) (hent : ∀ W : World, Sem.run P (callFunc f #[u, v]) W = .ok (.enter f #[u, v]) W) (hc : Calls P f #[u, v] w fun e w' => ∃ r, e = .returned r ∧ K (a.put o.dst r) w') :
    if Region.wanted o (yielded ops a.tmps) = true then Oper.wp P o a w K Q else E := by
  have hw : Region.wanted o (yielded ops a.tmps) = true := by simp [Region.wanted, hg]
  rw [if_pos hw]
  unfold Oper.wp
  have e : (execOp a.eval o).run P w = .ok (.enter f #[u, v]) w := by
    simp [execOp, hop, resolve, invoke, BigFrame.eval_func, Deferred.ofValue, hx, hy, hent]
  rw [e]
  unfold Oper.upon
  refine hc.mono ?_
  rintro e w' ⟨r, rfl, h⟩
  exact h
theorem ent_next (x y : Value) (W : World) : Sem.run Try.prog (callFunc 36 #[x, y]) W = .ok (.enter 36 #[x, y]) W := by kernel_rfl
theorem up_up {F : Nat → Prop} {a b c : World} (h1 : a.heap.size ≤ b.heap.size) (h2 : b.heap.size ≤ c.heap.size) (k : Nat) : Up (Up F a b) b c k → Up F a c k := by
  unfold Up
  rintro ((h | h) | h)
  · exact .inl h
  · exact .inr ⟨h.1, by omega⟩
  · exact .inr ⟨by omega, h.2⟩
theorem Res.trans {F : Nat → Prop} {w w1 w2 : World} {hb : Nat} {fv : Value} {lt : It → It → Bool} {I J : List It} {p q : Nat} (h : Res F w hb fv lt I p w1) (k : Res (Up F w w1) w1 hb fv lt J q w2) : Res F w hb fv lt J q w2 :=
  ⟨k.1.kept (fun _ _ => rfl) (up_up h.2.size k.2.size) (fun _ hb => hb.elim (fun x => Nat.lt_of_lt_of_le (h.1.lt _ (.inl x)) k.2.size) (fun x => x.2)), h.2.trans k.2⟩
theorem Res.below {F : Nat → Prop} {w w1 w2 : World} {hb : Nat} {fv : Value} {lt : It → It → Bool} {I : List It} {p : Nat} (h : Res F w hb fv lt I p w1) (k : Below w1.heap.size w1 w2) : Res F w hb fv lt I p w2 :=
  ⟨h.1.kept (fun b hF => k.block b (h.1.lt b hF)) (fun _ hb => hb.imp id fun x => ⟨x.1, Nat.lt_of_lt_of_le x.2 k.size⟩) (fun b hb => hb.elim (fun x => Nat.lt_of_lt_of_le (h.1.lt b (.inl x)) k.size) (fun x => x.2)), h.2.trans (Chg.of_below k)⟩
theorem Res.start {F : Nat → Prop} {w : World} {hb : Nat} {fv : Value} {lt : It → It → Bool} {I : List It} {p : Nat} (h : HAt w hb fv lt I p F) : Res F w hb fv lt I p w :=
  ⟨h.kept (fun _ _ => rfl) (fun _ x => .inl x) (fun b hb => hb.elim (h.lt b) (fun x => x.2)), Chg.refl _ _⟩
/-- items in a list that does not lie in the blocks F -/
def Its (w : World) (v : Value) (X : List It) (F : Nat → Prop) : Prop := ∃ ao cap, v = .slice ao X.length cap ∧ (0 < X.length → ∃ g off, ao = some ⟨g, off, none⟩ ∧ g < w.heap.size ∧ ¬ F g ∧ ∀ (j : Nat) x, X[j]? = some x → w.cell? ⟨g, off + j * 2, none⟩ = some (.int .i64 x.1) ∧ w.cell? ⟨g, off + j * 2 + 1, none⟩ = some (.int .i64 x.2))
theorem Its.chg {w w' : World} {v : Value} {X : List It} {F : Nat → Prop} (h : Its w v X F) (c : Chg F w w') : Its w' v X F := by
  obtain ⟨ao, cap, e, h⟩ := h
  refine ⟨ao, cap, e, fun h0 => ?_⟩
  obtain ⟨g, off, e1, hg, hF, hc⟩ := h h0
  refine ⟨g, off, e1, Nat.lt_of_lt_of_le hg c.size, hF, fun j x hx => ?_⟩
  have hb := c.block g hg hF
  exact ⟨(World.cell?_of_block (a := ⟨g, off + j * 2, none⟩) hb).trans (hc j x hx).1, (World.cell?_of_block (a := ⟨g, off + j * 2 + 1, none⟩) hb).trans (hc j x hx).2⟩
theorem Its.mono {w : World} {v : Value} {X : List It} {F G : Nat → Prop} (h : Its w v X F) (hG : ∀ b, b < w.heap.size → G b → F b) : Its w v X G := by
  obtain ⟨ao, cap, e, h⟩ := h
  refine ⟨ao, cap, e, fun h0 => ?_⟩
  obtain ⟨g, off, e1, hg, hF, hc⟩ := h h0
  exact ⟨g, off, e1, hg, fun x => hF (hG g hg x), hc⟩
/-- the nodes were grown by one, in a row that may have moved -/
theorem HIn.pushed {w W5 : World} {hb : Nat} {fv nv nv' : Value} {A : List Nd} {p : Nat} {F : Nat → Prop} {x : Nd} (h : HIn w hb fv A p F nv) (hown : W5.ownsRow 0 74 3 nv' (A ++ [x]).length (rowN (A ++ [x]))) (hg : w.grownBy W5 nv.ownBlock) (hbk : nv'.ownBlock = nv.ownBlock ∨ nv'.ownBlock = some w.heap.size) :
    W5.cell? ⟨hb, 1, none⟩ = some nv ∧ W5.frozen? ⟨hb, 1, none⟩ = false ∧ HIn (W5.setCell ⟨hb, 1, none⟩ nv') hb fv (A ++ [x]) p (Up F w W5) nv' ∧ Chg F w (W5.setCell ⟨hb, 1, none⟩ nv') ∧ hb < W5.heap.size := by
  have hne : nv.ownBlock ≠ some hb := fun e => by
    obtain ⟨C, fz, hx⟩ := Lib.ownsRow_kind h.row hb e
    rw [h.obj] at hx
    injection hx with hx
    injection hx with _ hx _
    exact absurd hx (by decide)
  have hlt := h.lt _ h.own
  have ho : W5.heap[hb]? = _ := (hg.block hb hlt (fun e => hne e.symm)).trans h.obj
  obtain ⟨c0, c1, c2, cf, hl⟩ := hcells ho
  have hne' : nv'.ownBlock ≠ some hb := fun e => by
    rcases hbk with q | q
    · exact hne (q ▸ e)
    · rw [q] at e; injection e with e; omega
  have hsz := hg.size
  refine ⟨c1, cf 1, ⟨fun b hb => ?_, .inl h.own, by rw [set_heap1 ho]; rfl, own_kept hown fun g hg => Below.heap_setCell _ _ _ _ (fun e => hne' (by rw [hg, e])), fun g hg' => ?_⟩, ((Chg.refl F w).grown hg fun k hk => .inl (h.rowF k hk)).setCell (.inl h.own) _, hl⟩
  · rcases hb with hb | hb
    · have := h.lt b hb; simp; omega
    · simpa using hb.2
  · rcases hbk with q | q
    · exact .inl (h.rowF g (q ▸ hg'))
    · rw [q] at hg'
      injection hg' with hg'
      have := (hown.lt g (by rw [q, hg'])).2
      exact .inr ⟨by omega, this⟩
theorem gd_app {A : List Nd} {x : Nd} {i : Nat} (h : i < A.length) : gd (A ++ [x]) i = gd A i := by
  unfold gd
  simp [List.getElem?_append_left h]
theorem Shape.more {lt : It → It → Bool} {A : List Nd} {x : Nd} (h : Shape lt (gd A) A.length) : Rising lt (gd (A ++ [x])) (A ++ [x]).length ((A ++ [x]).length - 1) := by
  simp only [List.length_append, List.length_singleton, Nat.add_sub_cancel]
  refine ⟨fun i h0 hi hne => ?_, fun h0 c hc hc0 hp => by simp only [par] at hp; omega⟩
  rw [gd_app (by omega), gd_app (by simp only [par]; omega)]
  exact h i h0 (by omega)
theorem push_fin {F : Nat → Prop} {w wr V w3 W5 w7 : World} {hb : Nat} {fv nv nv7 : Value} {lt : It → It → Bool} {I J : List It} {p q : Nat} {B : List Nd} {o : Obj} (hR : Res F w hb fv lt I p wr) (hV : Below wr.heap.size wr V) (h4 : Chg (Up F w wr) V.drew w3) (h5 : Chg (Up F w wr) (w3.alloc o) (W5.setCell ⟨hb, 1, none⟩ nv)) (h6 : HIn w7 hb fv B q (Up (Up F w wr) (w3.alloc o) W5) nv7) (h7 : Chg (Up (Up F w wr) (w3.alloc o) W5) (W5.setCell ⟨hb, 1, none⟩ nv) w7) (hbag : Bag B J q) (hsh : Shape lt (gd B) B.length) : Res F w hb fv lt J q w7 := by
  have c1 : Chg (Up F w wr) wr w3 := (Chg.of_below hV).drew.then h4
  have c2 : Chg (Up F w wr) wr (W5.setCell ⟨hb, 1, none⟩ nv) := (c1.alloc o).then h5
  have s1 := c1.size
  have s2 := c2.size
  have s3 := h7.size
  have s5 := h5.size
  have e5 : (W5.setCell ⟨hb, 1, none⟩ nv).heap.size = W5.heap.size := by simp
  have eo : (w3.alloc o).heap.size = w3.heap.size + 1 := by simp
  rw [e5] at s2 s3 s5
  rw [eo] at s5
  have c3 : Chg (Up F w wr) wr w7 := c2.trans (h7.mono fun b hb => by
    rcases hb with hb | hb
    · exact .inl hb
    · refine .inr ⟨?_, ?_⟩
      · have := hb.1; simp at this; omega
      · simpa using hb.2)
  refine hR.trans ⟨⟨B, nv7, h6.kept (fun _ _ => rfl) (fun b hb => ?_) (fun b hb => ?_), hbag, hsh⟩, c3⟩
  · rcases hb with hb | hb
    · exact .inl hb
    · refine .inr ⟨?_, ?_⟩
      · have := hb.1; simp at this; omega
      · have := hb.2; omega
  · rcases hb with hb | hb
    · exact Nat.lt_of_lt_of_le (hR.1.lt b hb) c3.size
    · exact hb.2
set_option maxRecDepth 100000 in
set_option maxHeartbeats 4000000 in
theorem push_any {fv : Value} {lt : It → It → Bool} (L : LessV fv lt) {w : World} {hb : Nat} {I : List It} {p : Nat} {F : Nat → Prop} (h : HAt w hb fv lt I p F) {v : Value} {X : List It} (hx : Its w v X F) (hz : I.length + X.length ≤ 1099511627775) (hp : p + X.length ≤ 4611686018427387904) :
    Calls Try.prog 21 #[.pointer (some ⟨hb, 0, none⟩), v] w fun e w' => e = .returned (.tuple #[]) ∧ Res F w hb fv lt (I ++ X) (p + X.length) w' := by
  have HX := hide hx
  obtain ⟨ao, cap, rfl, hat⟩ := hx
  have HL := hide L
  have H0 := hide (Res.start h)
  clear h L hat
  have HIP : Hid (∀ k, k ≤ X.length → I.length + k ≤ 1099511627775 ∧ p + k ≤ 4611686018427387904) := fun k hk => by omega
  generalize hn : X.length = n at *
  have HN := hide hn
  clear hn hz hp
  go_enter Try.func21, Try.ntmps21
  go_wp2
  go_loopw [10] (fun s10 wr => ∃ (k : Nat), s10 = .int .i64 k ∧ k ≤ n ∧ Hid (Res F w hb fv lt (I ++ X.take k) (p + k) wr)) (fun s10 _ => n - (intOf s10).toNat)
  case atStart => exact ⟨0, rfl, Nat.zero_le _, by simpa using H0⟩
  case round =>
    obtain ⟨k, rfl, hk, HR⟩ := hrel
    by_cases hlt : k < n
    · have hltz : (k : Int) < (n : Int) := by omega
      have hk0 : 0 ≤ (k : Int) := by omega
      obtain ⟨x, hx⟩ : ∃ x, X[k]? = some x := ⟨_, List.getElem?_eq_getElem (by rw [unhide HN]; exact hlt)⟩
      have hXr := (unhide HX).chg (unhide HR).2
      obtain ⟨ao', cap', e1, hat⟩ := hXr
      obtain ⟨g, off, e2, hg, hF, hc⟩ := hat (by rw [unhide HN]; omega)
      have e3 : ao = ao' := by injection e1
      clear e1
      subst e3
      subst e2
      obtain ⟨x0, x1⟩ := hc k x hx
      obtain ⟨A, nv, hin, hbag, hsh⟩ := (unhide HR).1
      have hAl : A.length = I.length + k := by rw [hbag.len]; simp [unhide HN]; omega
      have hb1 := (unhide HIP k hk).1
      have hb2 := (unhide HIP k hk).2
      obtain ⟨c0, c1, c2, cf, hl⟩ := hcells hin.obj
      have HT : Hid (I ++ X.take (k + 1) = (I ++ X.take k) ++ [x]) := by
        rw [Hid, List.take_succ_eq_append_getElem (by rw [unhide HN]; exact hlt), (List.getElem?_eq_some_iff.1 hx).2, List.append_assoc]
      obtain ⟨q, hq⟩ : ∃ q, q = p + k + 1 := ⟨_, rfl⟩
      have HIN := hide hin
      have HBAG : Hid (Bag (A ++ [(x, q)]) ((I ++ X.take k) ++ [x]) q) := by rw [hq]; exact hbag.push x
      have HSH := hide (hsh.more (x := (x, q)))
      have HAL := hide hAl
      have HNX : Hid (∀ W, Below wr.heap.size wr W → Calls Try.prog 36 #[.pointer (some ⟨hb, 0, none⟩), .agg #[.int .i64 x.1, .int .i64 x.2]] W fun e w' => e = .returned (.agg #[.int .i64 x.1, .int .i64 x.2, .int .i64 (q : Int)]) ∧ HIn w' hb fv A q (Up F w wr) nv ∧ Chg (Up F w wr) W w') := fun W hW => by
        rw [hq]
        exact next_any (hin.below hW) hb2 x
      have HLT := hide hin.lt
      have HQ := hide hq
      clear hat hc hx hin hbag hsh hAl c0 c2 hq
      go_wp2
      refine gen_world ?_
      intro V hV
      have s0 : V.cell? ⟨hb, 1, none⟩ = some nv := by rw [hV]; exact cell_old c1 hl
      have s1 : V.cell? ⟨wr.heap.size, 0, none⟩ = some (.int .i64 x.1) := by rw [hV]; go_simp
      have s2 : V.cell? ⟨wr.heap.size, 1, none⟩ = some (.int .i64 x.2) := by rw [hV]; go_simp
      have hVB : Below wr.heap.size wr V := by rw [hV]; exact (Below.refl _ _).alloc (Nat.le_refl _) _
      have HVB := hide hVB
      have hVs : wr.heap.size < V.heap.size := by rw [hV]; simp
      clear hV hVB
      go_region_law
        (first
          | (refine step_call2 (by rfl) 36 _ _ _ (by rfl) (.pointer (some ⟨hb, 0, none⟩)) (.agg #[.int .i64 x.1, .int .i64 x.2]) (by rfl) (by rfl) (fun W => ent_next _ _ W) ((unhide HNX _ (unhide HVB).drew).mono ?_)
             rintro e w3 ⟨rfl, h3, h4⟩
             refine ⟨_, rfl, ?_⟩
             have k3 : w3.cell? ⟨hb, 1, none⟩ = some nv := (hcells h3.obj).2.1
             have hl3 : hb < w3.heap.size := (hcells h3.obj).2.2.2.2
             obtain ⟨nv5, W5, hap, hown5, hgr5, hbk5⟩ := push_node (W := w3.alloc (.cells #[.int .i64 x.1, .int .i64 x.2, .int .i64 (q : Int)] 74)) (h3.row.alloc _) w3.heap.size (x, q) (World.cell?_alloc_at _ _ _ _ rfl) (World.cell?_alloc_at _ _ _ _ rfl) (World.cell?_alloc_at _ _ _ _ rfl) (by rw [unhide HAL]; omega) 70 1
             obtain ⟨a5, c5, rfl⟩ := own_slice hown5
             have HAP := hide hap
             obtain ⟨z1, z2, z3, z4, z5⟩ := HIn.pushed (h3.below ((Below.refl _ _).alloc (Nat.le_refl _) _)) hown5 hgr5 hbk5
             have HZ := hide (And.intro z3 z4)
             have H4 := hide h4
             clear h3 h4 hap hown5 hgr5 hbk5 z3 z4)
          | (refine step_app (by rfl) _ _ _ (by rfl) _ _ _ _ (by rfl) (by rfl) (by exact unhide HAP) ?_))
      all_goals
        have HRS := hide (rise_any (unhide HL) (unhide HZ).1 (by simp) (by simp [unhide HAL]; omega) (unhide HSH))
        rw [List.length_append, List.length_singleton] at HRS HZ
        go_wp2_with (go_at_call 37; refine (unhide HRS).mono ?_; rintro e w7 ⟨rfl, hB7⟩; have H7 := hide hB7; clear hB7)
        have HFI : Hid (Res F w hb fv lt (I ++ X.take (k + 1)) (p + (k + 1)) w7) := by
          obtain ⟨B, y1, y2, y3, y4⟩ := unhide H7
          rw [unhide HT, show p + (k + 1) = q by rw [unhide HQ]; omega]
          exact push_fin (unhide HR) (unhide HVB) (unhide H4) (unhide HZ).2 y1 y4 ((unhide HBAG).perm y2) y3
        clear H7 HRS HZ H4 HAP k3
        go_roundw
        case rel => exact ⟨k + 1, by go_num, by omega, HFI⟩
        case measure => simp [intOf]; omega
    · obtain rfl : k = n := by omega
      have hltz : ¬ (k : Int) < (k : Int) := by omega
      have HE : Hid (X.take k = X) := by rw [Hid, ← unhide HN, List.take_length]
      rw [unhide HE] at HR
      clear HE
      go_wp2
      go_end0
      exact ⟨rfl, unhide HR⟩
end Hp
end Go.Proofs.Ytddfljlecnllaaa
