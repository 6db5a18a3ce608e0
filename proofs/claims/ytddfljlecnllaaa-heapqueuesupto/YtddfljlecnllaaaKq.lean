/- Layer 7: the walk of HeapQueues. -/
import Derived.Test.YtddfljlecnllaaaKa
namespace Go.Proofs.Ytddfljlecnllaaa
open Go.RowKit
namespace Hp
theorem pop_queue (x : It) (t : List It) : pop none_ (x :: t) = some (x, t) := by
  simp only [pop]
  split
  · next h => rw [pop_none h]
  · next y r h => rw [if_neg (by simp [none_])]
theorem drain_queue : ∀ l : List It, drain none_ l = l
  | [] => rfl
  | x :: t => by rw [drain_step (pop_queue x t), drain_queue t]
/-- what is in the queue behind k rounds -/
def inQ (X Y : List It) (k : Nat) : List It := (X ++ Y.take k).drop k
theorem inQ_push {X Y : List It} {k : Nat} {y : It} (h : Y[k]? = some y) : inQ X Y k ++ [y] = (X ++ Y.take (k + 1)).drop k := by
  have hk := (List.getElem?_eq_some_iff.1 h).1
  unfold inQ
  rw [List.take_succ_eq_append_getElem hk, (List.getElem?_eq_some_iff.1 h).2, ← List.append_assoc]
  conv => rhs; rw [List.drop_append_of_le_length (by simp; omega)]
theorem inQ_pop {X Y : List It} {k : Nat} {y : It} (h : Y[k]? = some y) : ∃ x, (X ++ Y)[k]? = some x ∧ inQ X Y k ++ [y] = x :: inQ X Y (k + 1) := by
  have hk := (List.getElem?_eq_some_iff.1 h).1
  rw [inQ_push h]
  have hl : k < (X ++ Y.take (k + 1)).length := by simp; omega
  refine ⟨(X ++ Y.take (k + 1))[k], ?_, by rw [List.drop_eq_getElem_cons hl]; rfl⟩
  have e : (X ++ Y)[k]? = (X ++ Y.take (k + 1))[k]? := by
    rw [List.getElem?_append, List.getElem?_append]
    split
    · rfl
    · rw [List.getElem?_take_of_lt (by omega)]
  rw [e]
  exact List.getElem?_eq_getElem hl
theorem inQ_len (X Y : List It) (k : Nat) (h : k ≤ Y.length) : (inQ X Y k).length = X.length := by simp [inQ]; omega
theorem inQ_all (X Y : List It) : inQ X Y Y.length = (X ++ Y).drop Y.length := by unfold inQ; rw [List.take_length]
theorem below_n {B : Nat} {a w : World} (h : Below B a w) (n : Nat) : Below B a (w.drewN n) := h.trans ⟨rfl, rfl, rfl, Nat.le_refl _, fun _ _ => rfl⟩
theorem Res.of {F G : Nat → Prop} {w w' : World} {hb : Nat} {fv : Value} {lt : It → It → Bool} {I : List It} {p : Nat} (h : HAt w' hb fv lt I p G) (hG : ∀ b, G b → F b ∨ w.heap.size ≤ b) (c : Chg F w w') (hF : ∀ b, F b → b < w.heap.size) : Res F w hb fv lt I p w' :=
  ResB.res ⟨G, h, hG, c⟩ (Nat.le_refl _) hF
theorem Res.more {F : Nat → Prop} {w w1 W w2 : World} {hb : Nat} {fv : Value} {lt : It → It → Bool} {I J : List It} {p q : Nat} (h : Res F w hb fv lt I p w1) (hF : ∀ b, F b → b < w.heap.size) (hW : Below w1.heap.size w1 W) (k : Res (Up F w w1) W hb fv lt J q w2) : Res F w hb fv lt J q w2 := by
  have c1 : Chg F w W := h.2.then (Chg.of_below hW)
  have c2 : Chg F w w2 := c1.trans (k.2.mono fun b hb => hb.imp id fun x => ⟨x.1, Nat.lt_of_lt_of_le x.2 hW.size⟩)
  refine Res.of k.1 (fun b hb => ?_) c2 hF
  rcases hb with (hb | hb) | hb
  · exact .inl hb
  · exact .inr hb.1
  · exact .inr (Nat.le_trans c1.size hb.1)
theorem one_its (W : World) (o : Obj) (x : It) {F : Nat → Prop} (hF : ∀ b, F b → b < W.heap.size) : Its ((W.alloc o).alloc (.cells #[.int .i64 x.1, .int .i64 x.2] 39)) (.slice (some ⟨W.heap.size + 1, 0, none⟩) 1 1) [x] F := by
  refine ⟨_, _, rfl, fun _ => ⟨_, _, rfl, by simp, fun e => by have := hF _ e; omega, fun j y hj => ?_⟩⟩
  rcases j with _ | j
  · simp at hj; subst hj
    have e : ∀ k, ((W.alloc o).alloc (.cells #[.int .i64 x.1, .int .i64 x.2] 39)).cell? ⟨W.heap.size + 1, k, none⟩ = (#[Value.int .i64 x.1, Value.int .i64 x.2])[k]? := fun k => World.cell?_alloc_at _ _ _ _ (by simp)
    exact ⟨e _, e _⟩
  · simp at hj
set_option maxRecDepth 100000 in
set_option maxHeartbeats 4000000 in
theorem queues_walk {w : World} {v1 v2 : Value} {X Y : List It} (h1 : Its w v1 X (fun b => w.heap.size ≤ b)) (h2 : Its w v2 Y (fun b => w.heap.size ≤ b)) (hz : X.length + Y.length ≤ 1048576) :
    Calls Try.prog 6 #[v1, v2] w fun e w' => e = .returned (.bool true) ∧ Below w.heap.size w w' := by
  have H1 := hide h1
  have H2 := hide h2
  have LV : LessV .nilFunc none_ := .inl ⟨rfl, rfl⟩
  obtain ⟨ao2, cap2, rfl, hat2⟩ := h2
  have HAT2 := hide hat2
  clear h1 hat2
  have HTW := hide (twin_any (unhide H1) (by omega))
  have hXl : X.length ≤ 1048576 := by omega
  have hYl : Y.length ≤ 1048576 := by omega
  go_enter Try.func6, Try.ntmps6
  go_wp2_with fail
  refine (unhide HTW).mono ?_
  rintro e w1 ⟨u1, rfl, r1, b1⟩
  have HNW := hide (new_any LV (r1.its.mono (fun b hb hg => absurd hg (by omega)) : Its w1 u1 X (fun b => w1.heap.size ≤ b)) (by omega))
  have B1 := hide b1
  clear r1 b1 HTW
  go_wp2_with fail
  refine (unhide HNW).mono ?_
  rintro e w2 ⟨rfl, a2, b2⟩
  have A2 := hide a2
  have B2 : Hid (Below w.heap.size w w2) := (unhide B1).trans (b2.mono (unhide B1).size)
  clear a2 b2 HNW
  go_wp2_with fail
  refine (wakes_any w2).mono ?_
  rintro e w3 ⟨rfl, b3⟩
  have B3 : Hid (Below w.heap.size w w3) := (unhide B2).trans (b3.mono (unhide B2).size)
  have A3 := hide ((unhide A2).below b3)
  have S3 := hide b3.size
  have HTW := hide (twin_any ((unhide H1).chg (Chg.of_below (unhide B3)) |>.mono (G := fun _ => False) (fun _ _ h => h.elim)) (by omega))
  clear b3 B2 A2
  go_wp2_with fail
  refine (unhide HTW).mono ?_
  rintro e w4 ⟨u4, rfl, r4, b4⟩
  have B4 : Hid (Below w.heap.size w w4) := (unhide B3).trans (b4.mono (unhide B3).size)
  have i4 := (unhide H2).chg (Chg.of_below (unhide B4))
  obtain ⟨va, W5, hap, hown5, hgr5, hbk5⟩ := push_items r4.1 i4 (by omega) 22
  obtain ⟨aa, ca, rfl⟩ := own_slice hown5
  have hlo : ∀ g, u4.ownBlock = some g → w3.heap.size ≤ g := fun g hg => by have := r4.2 g hg; omega
  have hB45 : Below w3.heap.size w4 W5 := (Below.refl _ w4).grown hgr5 b4.size hlo
  have B5 : Hid (Below w.heap.size w W5) := (unhide B4).trans (hB45.mono (unhide B3).size)
  have A5 : Hid (HAt W5 w1.heap.size .nilFunc none_ X X.length (fun b => w1.heap.size ≤ b ∧ b < w2.heap.size)) := (unhide A3).below (b4.trans hB45)
  have hw32 : w2.heap.size ≤ w3.heap.size := unhide S3
  have I5 : Hid (Its W5 (.slice aa (X ++ Y).length ca) (X ++ Y) (fun b => w1.heap.size ≤ b ∧ b < w2.heap.size)) := by
    refine IRow.its ⟨hown5, fun g hg e => ?_⟩
    rcases hbk5 with q | q
    · have := hlo g (q ▸ hg); omega
    · rw [q] at hg; injection hg with hg; have := b4.size; omega
  have M5 : Hid (Its W5 (.slice ao2 Y.length cap2) Y (fun b => w1.heap.size ≤ b ∧ b < w2.heap.size)) := by
    have q := (unhide H2).chg (Chg.of_below (unhide B5))
    have s1 := (unhide B1).size
    refine q.mono fun b _ e => by omega
  have HAP := hide hap
  have hs5 : w2.heap.size ≤ W5.heap.size := Nat.le_trans hw32 (Nat.le_trans b4.size hB45.size)
  have hs1 := (unhide B1).size
  clear r4 b4 i4 hap hown5 hgr5 hbk5 hlo hB45 HTW A3 S3 B4 B3 H1
  go_wp2_with (at_builtin; refine wpList_append_run rfl _ _ 22 22 rfl _ _ rfl rfl (.slice aa (X ++ Y).length ca) W5 (unhide HAP) ?_)
  clear HAP
  have hXY : (X ++ Y).length = X.length + Y.length := by simp
  obtain ⟨F, hF⟩ : ∃ F : Nat → Prop, F = fun b => w1.heap.size ≤ b ∧ b < w2.heap.size := ⟨_, rfl⟩
  rw [← hF] at A5 I5 M5
  have HF5 : Hid (∀ b, F b → w.heap.size ≤ b ∧ b < W5.heap.size) := fun b hb => by rw [hF] at hb; omega
  clear hF
  have HR0 : Hid (Res F W5 w1.heap.size .nilFunc none_ (inQ X Y 0) X.length W5) := by
    have e : inQ X Y 0 = X := by simp [inQ]
    rw [e]; exact Res.start (unhide A5)
  generalize w1.heap.size = hb at *
  clear A5
  go_loopw [7, 29] (fun s7 s29 wr => ∃ (k : Nat), s7 = .int .i64 k ∧ s29 = .int .i64 k ∧ k ≤ Y.length ∧ Hid (Res F W5 hb .nilFunc none_ (inQ X Y k) (X.length + k) wr)) (fun _ s29 _ => Y.length - (intOf s29).toNat)
  case atStart => exact ⟨0, rfl, rfl, Nat.zero_le _, HR0⟩
  case round =>
    obtain ⟨k, rfl, rfl, hk, HR⟩ := hrel
    by_cases hlt : k < Y.length
    · have hltz : (k : Int) < (Y.length : Int) := by omega
      have hk0 : 0 ≤ (k : Int) := by omega
      obtain ⟨y, hy⟩ : ∃ y, Y[k]? = some y := ⟨_, List.getElem?_eq_getElem hlt⟩
      obtain ⟨x, hx, hpu⟩ := inQ_pop (X := X) hy
      obtain ⟨a', c', e1, hat⟩ := (unhide M5).chg (unhide HR).2
      have e3 : ao2 = a' := by injection e1
      clear e1
      subst e3
      obtain ⟨g2, off2, rfl, hg2, -, hc2⟩ := hat (by omega)
      obtain ⟨y0, y1⟩ := hc2 k y hy
      have HLR : Hid (∀ b, Up F W5 wr b → b < wr.heap.size) := (unhide HR).1.lt
      have HPU : Hid (∀ o : Obj, Calls Try.prog 21 #[.pointer (some ⟨hb, 0, none⟩), .slice (some ⟨wr.heap.size + 1, 0, none⟩) 1 1] ((wr.alloc o).alloc (.cells #[.int .i64 y.1, .int .i64 y.2] 39)) fun e w' => e = .returned (.tuple #[]) ∧ Res F W5 hb .nilFunc none_ (x :: inQ X Y (k + 1)) (X.length + (k + 1)) w') := fun o => by
        have hW : Below wr.heap.size wr ((wr.alloc o).alloc (.cells #[.int .i64 y.1, .int .i64 y.2] 39)) := ((Below.refl _ _).alloc (Nat.le_refl _) _).alloc (by simp) _
        refine (push_any LV ((unhide HR).1.below hW) (one_its wr o y (unhide HLR)) (by rw [inQ_len _ _ _ (by omega)]; simp; omega) (by simp; omega)).mono ?_
        rintro e w' ⟨rfl, hr⟩
        rw [hpu] at hr
        exact ⟨rfl, (unhide HR).more (fun b hb => (unhide HF5 b hb).2) hW hr⟩
      have HX : Hid ((X ++ Y)[k]? = some x) := hx
      have hkl : k < (X ++ Y).length := by omega
      clear hat hc2 hy hx hpu
      go_wp2_with fail
      refine (unhide HPU _).mono ?_
      rintro e w6 ⟨rfl, r6⟩
      have HPO := hide (pop_some LV r6.1 (by simp [inQ_len X Y (k + 1) (by omega)]; omega) (pop_queue x _))
      have R6 := hide r6
      clear r6 HPU
      go_wp2_with fail
      refine (unhide HPO).mono ?_
      rintro e w7 ⟨rfl, r7⟩
      have R7 : Hid (Res F W5 hb .nilFunc none_ (inQ X Y (k + 1)) (X.length + (k + 1)) w7) := (unhide R6).trans r7
      obtain ⟨a', c', e1, hat⟩ := (unhide I5).chg (unhide R7).2
      have e3 : aa = a' := by injection e1
      clear e1
      subst e3
      obtain ⟨ga, offa, rfl, hga, -, hca⟩ := hat (by omega)
      obtain ⟨x0, x1⟩ := hca k x (unhide HX)
      clear r7 HPO R6 hat hca
      have hkz : (k : Int) < ((X ++ Y).length : Int) := by omega
      generalize (X ++ Y).length = N at *
      go_wp2
      refine gen_world ?_
      intro V hV
      have t0 : V.cell? ⟨w7.heap.size, 0, none⟩ = some (.int .i64 x.1) := by rw [hV]; go_simp
      have t1 : V.cell? ⟨w7.heap.size, 1, none⟩ = some (.int .i64 x.2) := by rw [hV]; go_simp
      have s0 : V.cell? ⟨ga, offa + k * 2, none⟩ = some (.int .i64 x.1) := by rw [hV]; exact cell_old x0 hga
      have s1 : V.cell? ⟨ga, offa + k * 2 + 1, none⟩ = some (.int .i64 x.2) := by rw [hV]; exact cell_old x1 hga
      have R8 : Hid (Res F W5 hb .nilFunc none_ (inQ X Y (k + 1)) (X.length + (k + 1)) V) := by rw [hV]; exact (unhide R7).below ((Below.refl _ _).alloc (Nat.le_refl _) _)
      clear hV x0 x1 R7
      go_quiet (fail)
      go_wp2
      exact ⟨⟨k + 1, by go_num, by go_num, by omega, hide ((unhide R8).below (below_n (Below.refl _ _) _))⟩, by simp [intOf]; omega⟩
    · obtain rfl : k = Y.length := by omega
      have hltz : ¬ (Y.length : Int) < (Y.length : Int) := by omega
      have HDA := hide (drain_any LV (unhide HR).1 (by rw [inQ_len _ _ _ (Nat.le_refl _)]; omega))
      rw [drain_queue, inQ_all] at HDA
      go_wp2_with fail
      refine (unhide HDA).mono ?_
      rintro e w7 ⟨v, rfl, G, -, -, ir, c7⟩
      have c8 : Chg F W5 w7 := (unhide HR).2.trans c7
      obtain ⟨a', c', e1, hat⟩ := (unhide I5).chg c8
      have e3 : aa = a' := by injection e1
      clear e1
      subst e3
      obtain ⟨ar, cr, rfl, har⟩ := ir.its
      have HAR := hide har
      have HAA := hide hat
      have HBE : Hid (Below w.heap.size w w7) := (unhide B5).trans (c8.below (unhide B5).size (fun b hb => (unhide HF5 b hb).1))
      have HSL : Hid (((X ++ Y).drop Y.length).length = X.length) := by rw [Hid, List.length_drop, hXY]; omega
      have hne : (X.length : Int) = (X.length : Int) + (Y.length : Int) - (Y.length : Int) := by omega
      rw [unhide HSL]
      have HNN := hide hXY
      clear har hat ir c7 c8 HDA HR hXY
      clear hne
      generalize X.length = m at *
      have hsub : (m : Int) + (Y.length : Int) - (Y.length : Int) = (m : Int) := by omega
      go_wp2
      go_loopw [66] (fun s66 wr2 => ∃ (i q : Nat), s66 = .int .i64 i ∧ i ≤ m ∧ wr2 = w7.drewN q) (fun s66 _ => m - (intOf s66).toNat)
      case atStart => exact ⟨0, 0, rfl, Nat.zero_le _, rfl⟩
      case round =>
        obtain ⟨i, q, rfl, hi, rfl⟩ := hrel
        by_cases hil : i < m
        · have hilz : (i : Int) < (m : Int) := by omega
          have hi0 : 0 ≤ (i : Int) := by omega
          obtain ⟨gr, offr, rfl, hgr, -, hcr⟩ := unhide HAR (by rw [unhide HSL]; omega)
          obtain ⟨ga, offa, rfl, hga, -, hca⟩ := unhide HAA (by rw [unhide HNN]; omega)
          obtain ⟨x, hx⟩ : ∃ x, ((X ++ Y).drop Y.length)[i]? = some x := ⟨_, List.getElem?_eq_getElem (by rw [unhide HSL]; exact hil)⟩
          obtain ⟨x0, x1⟩ := hcr i x hx
          obtain ⟨y0, y1⟩ := hca (Y.length + i) x (by rw [← hx, List.getElem?_drop])
          have k0 : (w7.drewN q).cell? ⟨gr, offr + i * 2, none⟩ = some (.int .i64 x.1) := x0
          have k1 : (w7.drewN q).cell? ⟨gr, offr + i * 2 + 1, none⟩ = some (.int .i64 x.2) := x1
          have l0 : (w7.drewN q).cell? ⟨ga, offa + (Y.length + i) * 2, none⟩ = some (.int .i64 x.1) := y0
          have l1 : (w7.drewN q).cell? ⟨ga, offa + (Y.length + i) * 2 + 1, none⟩ = some (.int .i64 x.2) := y1
          have HW : Hid (∀ m, ∃ q', (w7.drewN q).drewN m = w7.drewN q') := fun m => ⟨q + m, by rw [World.drewN_drewN]⟩
          clear hcr hca hx x0 x1 y0 y1
          generalize w7.drewN q = W at *
          generalize Y.length = M at *
          have hiM : (M : Int) + (i : Int) < (m : Int) + (M : Int) := by omega
          have hiM0 : 0 ≤ (M : Int) + (i : Int) := by omega
          go_wp2
          go_quiet (fail)
          go_wp2
          obtain ⟨q', hq'⟩ := unhide HW nq
          exact ⟨⟨i + 1, q', by go_num, by omega, hq'⟩, by simp [intOf]; omega⟩
        · obtain rfl : i = m := by omega
          have hilz : ¬ (i : Int) < (i : Int) := by omega
          go_wp2
          go_ret
          exact ⟨rfl, below_n (unhide HBE) _⟩
end Hp
end Go.Proofs.Ytddfljlecnllaaa
