/- Layer 7: the walk of HeapKeeps. -/
import Derived.Test.YtddfljlecnllaabKk
import Derived.Test.YtddfljlecnllaabKi
namespace Go.Proofs.Ytddfljlecnllaab
open Go.RowKit
namespace Hp
theorem below_n {B : Nat} {a w : World} (h : Below B a w) (n : Nat) : Below B a (w.drewN n) := h.trans ⟨rfl, rfl, rfl, Nat.le_refl _, fun _ _ => rfl⟩
theorem Res.of {F G : Nat → Prop} {w w' : World} {hb : Nat} {fv : Value} {lt : It → It → Bool} {I : List It} {p : Nat} (h : HAt w' hb fv lt I p G) (hG : ∀ b, G b → F b ∨ w.heap.size ≤ b) (c : Chg F w w') (hF : ∀ b, F b → b < w.heap.size) : Res F w hb fv lt I p w' :=
  ResB.res ⟨G, h, hG, c⟩ (Nat.le_refl _) hF
theorem Res.more {F : Nat → Prop} {w w1 W w2 : World} {hb : Nat} {fv : Value} {lt : It → It → Bool} {I J : List It} {p q : Nat} (h : Res F w hb fv lt I p w1) (hF : ∀ b, F b → b < w.heap.size) (hW : Below w1.heap.size w1 W) (k : Res (Up F w w1) W hb fv lt J q w2) : Res F w hb fv lt J q w2 := by
  have c1 : Chg F w W := h.2.then (Chg.of_below hW)
  have c2 : Chg F w w2 := c1.trans (k.2.mono fun b hb => hb.imp id fun x => ⟨x.1, Nat.lt_of_lt_of_le x.2 hW.size⟩)
  refine Res.of k.1 (fun b hb => ?_) c2 hF
  rcases hb with (hb | hb) | hb
  · exact .inl hb
  · exact .inr hb.1
  · exact .inr (Nat.le_trans c1.size hb.1)
/-- a new heap of the document's around a row -/
theorem new_ref {w W : World} {v : Value} {X : List It} (h : Grow w v X W) : RAt (W.alloc (.cells #[v] 36)) W.heap.size X (fun b => w.heap.size ≤ b ∧ b < W.heap.size + 1) := by
  have hs := h.old.size
  refine ⟨v, fun b hb => by simpa using hb.2, ⟨hs, by omega⟩, (MapKept.heap_alloc W _).1, own_kept h.row fun g hg => Below.heap_alloc _ _ _ (h.row.lt g hg).2, fun g hg => ⟨h.new g hg, by have := (h.row.lt g hg).2; omega⟩⟩
/-- the two items behind -/
def tail2 : List It := [(77, 77), (78, 78)]
/-- a room: the list and two items behind it, in a block that is newer than w1 -/
structure Room (w1 W : World) (X : List It) (N R c : Nat) : Prop where
  new : w1.heap.size ≤ R
  lt : R < W.heap.size
  cap : N ≤ c
  max : c ≤ maxLen
  old : Below w1.heap.size w1 W
  row : W.ownsRow 0 30 2 (.slice (some ⟨R, 0, none⟩) N c) N (rowI (X ++ tail2))
theorem room_made {w1 w2 : World} {u : Value} {X : List It} {n : Nat} (r2 : IRow w2 u X (fun b => b < w1.heap.size)) (b2 : Below w1.heap.size w1 w2) (hn : X.length = n) (hz : n ≤ 1048576) {N : Nat} (hN : n + 2 = N) (ty : TypeId) :
    ∃ R c W3, (Builtin.append_ #[25, 25] ty #[u, .slice (some ⟨w2.heap.size, 0, none⟩) 2 2]).run Try.prog (w2.alloc (.cells #[.int .i64 77, .int .i64 77, .int .i64 78, .int .i64 78] 30)) = .ok (.slice (some ⟨R, 0, none⟩) N c) W3 ∧ Room w1 W3 X N R c := by
  subst hN
  have hb : Below w2.heap.size w2 (w2.alloc (.cells #[.int .i64 77, .int .i64 77, .int .i64 78, .int .i64 78] 30)) := (Below.refl _ _).alloc (Nat.le_refl _) _
  have hit : Its (w2.alloc (.cells #[.int .i64 77, .int .i64 77, .int .i64 78, .int .i64 78] 30)) (.slice (some ⟨w2.heap.size, 0, none⟩) 2 2) tail2 (fun _ => False) := by
    refine ⟨_, _, rfl, fun _ => ⟨_, _, rfl, by simp, fun e => e, fun j x hj => ?_⟩⟩
    unfold tail2 at hj
    rcases j with _ | _ | j
    · simp at hj; subst hj; exact ⟨by simp, by simp⟩
    · simp at hj; subst hj; exact ⟨by simp, by simp⟩
    · simp at hj
  have hrow' := own_kept r2.1 fun g hg => hb.block g (r2.1.lt g hg).2
  obtain ⟨v', W', hrun, hown, hg, hbk⟩ := push_items hrow' hit (by simp [tail2]; omega) ty
  have e : (X ++ tail2).length = n + 2 := by simp [tail2]; omega
  rw [e] at hown
  have s2 := b2.size
  have hlo : ∀ g, u.ownBlock = some g → w1.heap.size ≤ g := fun g hg => by have := r2.2 g hg; omega
  rcases hown.2 with ⟨e1, e2⟩ | ⟨R, c, cur, e1, e2, e3, e4, e5, e6, e7⟩
  · omega
  · subst e1
    refine ⟨R, c, W', hrun, ⟨?_, (Array.getElem?_eq_some_iff.1 e3).1, e4, e5, ?_, hown⟩⟩
    · rcases hbk with q | q
      · exact hlo R q.symm
      · have : R = w2.heap.size + 1 := by simpa [Value.ownBlock] using q
        omega
    · refine ((b2.trans (hb.mono s2)).grown hg ?_ hlo)
      simp; omega
/-- the list's items lie in the front of the room -/
theorem room_get {W : World} {X : List It} {N R c : Nat} (h : W.ownsRow 0 30 2 (.slice (some ⟨R, 0, none⟩) N c) N (rowI (X ++ tail2))) {i : Nat} {x : It} (hx : (X ++ tail2)[i]? = some x) (hi : i < N) : W.cell? ⟨R, i * 2, none⟩ = some (.int .i64 x.1) ∧ W.cell? ⟨R, i * 2 + 1, none⟩ = some (.int .i64 x.2) := by
  obtain ⟨a1, a2⟩ := rowI_get hx
  exact ⟨by rw [h.cellAt (i * 2) (by omega)]; exact a1, by rw [h.cellAt (i * 2 + 1) (by omega)]; exact a2⟩
/-- behind the loop that writes into the room -/
structure S6 (w : World) (X : List It) (n hb : Nat) (F : Nat → Prop) (wr : World) : Prop where
  at_ : HAt wr hb lessI rise_ (X ++ X) (n + n) F
  new : ∀ b, F b → w.heap.size ≤ b
  old : Below w.heap.size w wr
/-- a push of a list that is new -/
theorem Res.pushN {F : Nat → Prop} {w w1 W : World} {hb p : Nat} {I X : List It} {v : Value} (h : Res F w hb lessI rise_ I p w1) (hF : ∀ b, F b → b < w.heap.size) (hW : Below w1.heap.size w1 W) (r : IRow W v X (fun b => b < w1.heap.size)) (hz : I.length + X.length ≤ 1099511627775) (hp : p + X.length ≤ 4611686018427387904) :
    Calls Try.prog 6 #[.pointer (some ⟨hb, 0, none⟩), v] W fun e w' => e = .returned (.tuple #[]) ∧ Res F w hb lessI rise_ (I ++ X) (p + X.length) w' := by
  refine (push_any lessV_item (h.1.below hW) (r.its.mono fun b _ hb => h.1.lt b hb) hz hp).mono ?_
  rintro e w' ⟨e1, k⟩
  exact ⟨e1, h.more hF hW k⟩
/-- behind the second Drain: both answers and the document's -/
structure S17 (w : World) (va vb vw : Value) (S : List It) (m : Nat) (wr : World) : Prop where
  ra : RowL wr va m
  ia : Its wr va S (fun _ => False)
  ib : Its wr vb S (fun x => va.ownBlock = some x)
  iw : Its wr vw S (fun x => va.ownBlock = some x)
  an : ∀ g, va.ownBlock = some g → w.heap.size ≤ g
  old : Below w.heap.size w wr
theorem S17.below {w wr W : World} {va vb vw : Value} {S : List It} {m : Nat} (h : S17 w va vb vw S m wr) (b : Below wr.heap.size wr W) : S17 w va vb vw S m W := by
  obtain ⟨L, hl, hr⟩ := h.ra
  exact ⟨⟨L, hl, own_kept hr fun g hg => b.block g (hr.lt g hg).2⟩, h.ia.chg (Chg.of_below b), h.ib.chg (Chg.of_below b), h.iw.chg (Chg.of_below b), h.an, h.old.trans (b.mono h.old.size)⟩
theorem s17 {w w11 w12 w16 w17 : World} {va vb vw : Value} {S : List It} {m hb p : Nat} {F G G' : Nat → Prop} {I : List It} (hm : S.length = m) (IW : Its w11 vw S (fun b => F b ∨ w11.heap.size ≤ b)) (hw11 : Below w.heap.size w w11) (hF : ∀ b, F b → w.heap.size ≤ b)
    (d2 : ∀ b, G b → Up F w11 w12 b) (d3 : IRow w12 va S (fun b => G b ∨ b < w11.heap.size)) (d4 : Chg F w11 w12) (r16 : Res G w12 hb lessI rise_ I p w16) (e3 : IRow w17 vb S (fun b => G' b ∨ b < w16.heap.size)) (e4 : Chg (Up G w12 w16) w16 w17) : S17 w va vb vw S m w17 := by
  have C : Chg G w12 w17 := r16.2.trans e4
  have s11 := hw11.size
  have s12 := d4.size
  have s16 := r16.2.size
  have CF : Chg (fun b => F b ∨ w11.heap.size ≤ b) w11 w17 := (d4.mono fun b hb => .inl hb).then (C.mono fun b hb => (d2 b hb).imp id fun x => x.1)
  refine ⟨⟨S, hm, ?_⟩, ?_, ?_, ?_, fun g hg => ?_, ?_⟩
  · rw [← hm]; exact own_kept d3.1 fun g hg => C.block g (d3.1.lt g hg).2 fun e => d3.2 g hg (.inl e)
  · exact ((d3.its.mono (G := G) fun b _ hb => .inl hb).chg C).mono fun _ _ h => h.elim
  · exact e3.its.mono fun b _ hb => .inr (by have := (d3.1.lt b hb).2; omega)
  · refine (IW.chg CF).mono fun b _ hb => .inr ?_
    have := d3.2 b hb
    exact Nat.le_of_not_lt fun e => this (.inr e)
  · have := d3.2 g hg
    have : ¬ g < w11.heap.size := fun e => this (.inr e)
    omega
  · exact hw11.trans (CF.below s11 fun b hb => hb.elim (hF b) (fun x => by omega))
set_option maxRecDepth 100000 in
set_option maxHeartbeats 4000000 in
theorem keeps_walk {w : World} {v1 : Value} {X : List It} (h1 : Its w v1 X (fun b => w.heap.size ≤ b)) (hz : X.length ≤ 1048576) :
    Calls Try.prog 4 #[v1] w fun e w' => e = .returned (.bool true) ∧ Below w.heap.size w w' := by
  have H1 := hide h1
  obtain ⟨ao, cap, rfl, hat⟩ := h1
  have HAT := hide hat
  obtain ⟨n, hn⟩ : ∃ n, X.length = n := ⟨_, rfl⟩
  have HN := hide hn
  rw [hn] at hz H1 HAT ⊢
  clear hn hat
  obtain ⟨N, hN⟩ : ∃ N, n + 2 = N := ⟨_, rfl⟩
  have HNN := hide hN
  clear hN
  go_enter Try.func4, Try.ntmps4
  go_wp2_with fail
  refine (wakes_any w).mono ?_
  rintro e w1 ⟨rfl, b1⟩
  have B1 := hide b1
  have HTW := hide (twin_any ((unhide H1).chg (Chg.of_below b1)) (by rw [unhide HN]; omega))
  clear b1
  go_wp2_with fail
  refine (unhide HTW).mono ?_
  rintro e w2 ⟨u2, rfl, r2, b2⟩
  obtain ⟨R, c, W3, hap, rm⟩ := room_made r2 b2 (unhide HN) hz (unhide HNN) 25
  have HAP := hide hap
  have hc2 : n ≤ c := by have := rm.cap; have := unhide HNN; omega
  have hc1 : (n : Int) ≤ (c : Int) := by omega
  have B3 : Hid (Below w.heap.size w W3) := (unhide B1).trans (rm.old.mono (unhide B1).size)
  have hRn : w.heap.size ≤ R := Nat.le_trans (unhide B1).size rm.new
  have hRl : R < W3.heap.size := rm.lt
  have ROW3 := hide rm.row
  have hll : N = (X ++ tail2).length := by have := unhide HNN; have := unhide HN; simp [tail2]; omega
  have HLL := hide hll
  have HIT := hide (items_any (its_take (n := n) (F := fun b => W3.heap.size ≤ b) rm.row hll (unhide HN).symm (by omega)) (by rw [unhide HN]; omega))
  clear r2 b2 hap HTW rm hll B1
  go_wp2_with (at_builtin; refine wpList_append_run rfl _ _ 25 25 rfl _ _ rfl rfl (.slice (some ⟨R, 0, none⟩) N c) W3 (unhide HAP) ?_)
  clear HAP
  go_wp2_with fail
  refine (unhide HIT).mono ?_
  rintro e w4 ⟨rfl, a4, b4⟩
  have row4 := own_kept (unhide ROW3) fun g hg => b4.block g (by have e : R = g := (by injection hg); omega)
  have HPU := hide (push_any lessV_item a4 (its_take (n := n) row4 (unhide HLL) (unhide HN).symm (by omega)) (by rw [unhide HN]; omega) (by rw [unhide HN]; omega))
  have ROW4 := hide row4
  have B4 : Hid (Below w.heap.size w w4) := (unhide B3).trans (b4.mono (unhide B3).size)
  have hs4 := b4.size
  clear a4 b4 HIT row4 ROW3
  go_wp2_with fail
  refine (unhide HPU).mono ?_
  rintro e w5 ⟨rfl, r5⟩
  have ROW5 : Hid (w5.ownsRow 0 30 2 (.slice (some ⟨R, 0, none⟩) N c) N (rowI (X ++ tail2))) := own_kept (unhide ROW4) fun g hg => r5.2.block g (by have e : R = g := (by injection hg); omega) (by have e : R = g := (by injection hg); omega)
  have B5 : Hid (Below w.heap.size w w5) := (unhide B4).trans (r5.2.below (unhide B4).size fun b hb => by have := (unhide B3).size; omega)
  have A5 : Hid (HAt w5 W3.heap.size lessI rise_ (X ++ X) (n + n) (Up (fun b => W3.heap.size ≤ b ∧ b < w4.heap.size) w4 w5)) := by have := r5.1; rw [unhide HN] at this; exact this
  have F5 : Hid (∀ b, (Up (fun b => W3.heap.size ≤ b ∧ b < w4.heap.size) w4 w5) b → W3.heap.size ≤ b) := fun b hb => hb.elim (fun x => x.1) (fun x => Nat.le_trans hs4 x.1)
  have s3 := (unhide B3).size
  clear r5 HPU ROW4 B4 B3
  generalize (Up (fun b => W3.heap.size ≤ b ∧ b < w4.heap.size) w4 w5) = F at *
  obtain ⟨hb, hhb⟩ : ∃ hb, W3.heap.size = hb := ⟨_, rfl⟩
  rw [hhb] at A5 F5 hRl s3 ⊢
  clear hhb hs4
  go_wp2
  go_loopw [33] (fun s33 wr => ∃ (i q : Nat), s33 = .int .i64 i ∧ i ≤ n ∧ wr = w5.drewN q) (fun s33 _ => n - (intOf s33).toNat)
  case atStart => exact ⟨0, 0, rfl, Nat.zero_le _, rfl⟩
  case round =>
    obtain ⟨i, q, rfl, hi, rfl⟩ := hrel
    by_cases hil : i < n
    · have hilz : (i : Int) < (n : Int) := by omega
      have hi0 : 0 ≤ (i : Int) := by omega
      obtain ⟨x, hx⟩ : ∃ x, X[i]? = some x := ⟨_, List.getElem?_eq_getElem (by rw [unhide HN]; exact hil)⟩
      have hiN : i < N := by have := unhide HNN; omega
      have hiNz : (i : Int) < (N : Int) := by omega
      have hx' : (X ++ tail2)[i]? = some x := by rw [List.getElem?_append_left (by rw [unhide HN]; exact hil)]; exact hx
      obtain ⟨x0, x1⟩ := room_get (unhide ROW5) hx' hiN
      obtain ⟨g, off, rfl, hg, -, hc⟩ := unhide HAT (by omega)
      have y0 := ((unhide B5).cell (p := ⟨g, off + i * 2, none⟩) hg).trans (hc i x hx).1
      have y1 := ((unhide B5).cell (p := ⟨g, off + i * 2 + 1, none⟩) hg).trans (hc i x hx).2
      have k0 : (w5.drewN q).cell? ⟨R, i * 2, none⟩ = some (.int .i64 x.1) := x0
      have k1 : (w5.drewN q).cell? ⟨R, i * 2 + 1, none⟩ = some (.int .i64 x.2) := x1
      have l0 : (w5.drewN q).cell? ⟨g, off + i * 2, none⟩ = some (.int .i64 x.1) := y0
      have l1 : (w5.drewN q).cell? ⟨g, off + i * 2 + 1, none⟩ = some (.int .i64 x.2) := y1
      have HW : Hid (∀ m, ∃ q', (w5.drewN q).drewN m = w5.drewN q') := fun m => ⟨q + m, by rw [World.drewN_drewN]⟩
      clear hx hx' x0 x1 y0 y1 hc
      generalize w5.drewN q = W at *
      go_wp2
      go_quiet (fail)
      go_wp2
      obtain ⟨q', hq'⟩ := unhide HW nq
      exact ⟨⟨i + 1, q', by go_num, by omega, hq'⟩, by simp [intOf]; omega⟩
    · obtain rfl : i = n := by omega
      have hilz : ¬ (i : Int) < (i : Int) := by omega
      have e77 : (X ++ tail2)[i]? = some (77, 77) := by rw [← unhide HN, List.getElem?_append_right (Nat.le_refl _), Nat.sub_self]; rfl
      have e78 : (X ++ tail2)[i + 1]? = some (78, 78) := by rw [← unhide HN, List.getElem?_append_right (by omega), Nat.add_sub_cancel_left]; rfl
      have hnN : i < N := by have := unhide HNN; omega
      have hnN1 : i + 1 < N := by have := unhide HNN; omega
      have hnNz : (i : Int) < (N : Int) := by omega
      have hnN1z : (i : Int) + 1 < (N : Int) := by omega
      have hi0 : 0 ≤ (i : Int) := by omega
      have hi01 : 0 ≤ (i : Int) + 1 := by omega
      have k0 : (w5.drewN q).cell? ⟨R, i * 2, none⟩ = some (.int .i64 77) := (room_get (unhide ROW5) e77 hnN).1
      have k1 : (w5.drewN q).cell? ⟨R, (i + 1) * 2, none⟩ = some (.int .i64 78) := (room_get (unhide ROW5) e78 hnN1).1
      have RL : Hid (RowL (w5.drewN q) (.slice (some ⟨R, 0, none⟩) N c) N ∧ Chg (fun b => b = R) w5 (w5.drewN q)) := ⟨⟨X ++ tail2, (unhide HLL).symm, unhide ROW5⟩, ⟨rfl, rfl, rfl, Nat.le_refl _, fun _ _ _ => rfl⟩⟩
      clear e77 e78 ROW5
      generalize w5.drewN q = W at *
      have hNz : N ≤ 1048578 := by have := unhide HNN; omega
      go_wp2
      go_loopw [65] (fun s65 wr => ∃ (j : Nat), s65 = .int .i64 j ∧ j ≤ N ∧ Hid (RowL wr (.slice (some ⟨R, 0, none⟩) N c) N ∧ Chg (fun b => b = R) w5 wr)) (fun s65 _ => N - (intOf s65).toNat)
      case atStart => exact ⟨0, rfl, Nat.zero_le _, RL⟩
      case round =>
        obtain ⟨j, rfl, hj, HR⟩ := hrel
        by_cases hjl : j < N
        · have hjlz : (j : Int) < (N : Int) := by omega
          have hj0 : 0 ≤ (j : Int) := by omega
          obtain ⟨⟨u0, y0⟩, ⟨u1, y1⟩, yf, yd⟩ := (unhide HR).1.put hjl (-1, -1)
          have HRR : Hid (RowL ((wr.setCell ⟨R, j * 2, none⟩ (.int .i64 (-1))).setCell ⟨R, j * 2 + 1, none⟩ (.int .i64 (-1))) (.slice (some ⟨R, 0, none⟩) N c) N ∧ Chg (fun b => b = R) w5 ((wr.setCell ⟨R, j * 2, none⟩ (.int .i64 (-1))).setCell ⟨R, j * 2 + 1, none⟩ (.int .i64 (-1)))) := ⟨yd, ((unhide HR).2.setCell (.inl rfl) _).setCell (.inl rfl) _⟩
          clear yd
          go_wp2
          go_roundw
          case rel => exact ⟨j + 1, by go_num, by omega, HRR⟩
          case measure => simp [intOf]; omega
        · obtain rfl : j = N := by omega
          have hjlz : ¬ (j : Int) < (j : Int) := by omega
          have c6 := (unhide HR).2
          have H6 : Hid (S6 w X i hb F wr) := ⟨(unhide A5).kept (fun b hb => c6.block b ((unhide A5).lt b hb) (by have := unhide F5 b hb; omega)) (fun _ x => x) (fun b hb => Nat.lt_of_lt_of_le ((unhide A5).lt b hb) c6.size), fun b hb => Nat.le_trans s3 (unhide F5 b hb), (unhide B5).trans (c6.below (unhide B5).size fun b hb => by omega)⟩
          clear c6 HR RL k0 k1 A5 F5 B5 HLL HNN
          obtain ⟨S, hS⟩ : ∃ S, drain rise_ (X ++ X) = S := ⟨_, rfl⟩
          obtain ⟨m, hm⟩ : ∃ m, S.length = m := ⟨_, rfl⟩
          have HM := hide hm
          have hmz : m ≤ 2097152 := by rw [← hm, ← hS, drain_len _ _ rfl, List.length_append, unhide HN]; omega
          have HS := hide hS
          clear hm hS
          have HRF := hide (ref_any (((unhide H1).chg (Chg.of_below (unhide H6).old)).mono (G := fun _ => False) fun _ _ h => h.elim) (by rw [unhide HN]; omega))
          go_wp2_with fail
          refine (unhide HRF).mono ?_
          rintro e w7 ⟨u7, rfl, g7⟩
          obtain ⟨a7, c7, rfl⟩ := own_slice g7.row
          have RA8 := hide (new_ref g7)
          have B8 : Hid (Below wr.heap.size wr (w7.alloc (.cells #[.slice a7 X.length c7] 36))) := g7.old.trans ((Below.refl _ _).alloc g7.old.size _)
          have es : (w7.alloc (.cells #[.slice a7 X.length c7] 36)).heap.size = w7.heap.size + 1 := by simp
          have ES := hide es
          clear g7 HRF es
          go_wp2_with fail
          generalize w7.alloc (.cells #[.slice a7 X.length c7] 36) = W8 at *
          have HRF := hide (ref_any (((unhide H1).chg (Chg.of_below ((unhide H6).old.trans ((unhide B8).mono (unhide H6).old.size)))).mono (G := fun _ => False) fun _ _ h => h.elim) (by rw [unhide HN]; omega))
          refine (unhide HRF).mono ?_
          rintro e w9 ⟨u9, rfl, g9⟩
          have HRP := hide (rpush_any ((unhide RA8).below g9.old) (its_of_row g9.row (fun g hg e => by have := g9.new g hg; have := unhide ES; omega)) (by rw [unhide HN]; omega))
          have B9 : Hid (Below wr.heap.size wr w9) := (unhide B8).trans (g9.old.mono (unhide B8).size)
          clear g9 HRF RA8 B8 ES
          generalize w7.heap.size = rb at *
          go_wp2_with fail
          refine (unhide HRP).mono ?_
          rintro e w10 ⟨rfl, r10⟩
          have HRD := hide (rdrain_any r10.1 (by rw [List.length_append, unhide HN]; omega))
          have B10 : Hid (Below wr.heap.size wr w10) := (unhide B9).trans (r10.2.below (unhide B9).size (fun b hb => hb.1))
          clear r10 HRP
          go_wp2_with fail
          refine (unhide HRD).mono ?_
          rintro e w11 ⟨vw, rfl, G11, -, -, e3, e4⟩
          rw [unhide HS] at e3
          have b11 : Below wr.heap.size wr w11 := (unhide B10).trans (e4.below (unhide B10).size (fun b hb => hb.elim (fun x => x.1) (fun x => Nat.le_trans (unhide B9).size x.1)))
          have IW : Hid (Its w11 vw S (fun b => F b ∨ w11.heap.size ≤ b)) := (its_of_row e3.1 (fun g hg e => e3.2 g hg (.inr e)) : Its w11 vw S (fun b => b < w10.heap.size)).mono (fun b hb h => h.elim (fun x => Nat.lt_of_lt_of_le ((unhide H6).at_.lt b x) (unhide B10).size) (fun x => by omega))
          have B11 : Hid (Below w.heap.size w w11) := (unhide H6).old.trans (b11.mono (unhide H6).old.size)
          have HDR := hide (drain_any lessV_item ((unhide H6).at_.below b11) (by rw [List.length_append, unhide HN]; omega))
          have HFN := hide (unhide H6).new
          clear e3 e4 b11 HRD B10 B9 H6
          go_wp2_with fail
          refine (unhide HDR).mono ?_
          rintro e w12 ⟨va, rfl, G, d1, d2, d3, d4⟩
          rw [unhide HS] at d3
          obtain ⟨aa, ca, rfl⟩ := own_slice d3.1
          rw [unhide HM] at d3 ⊢
          have B12 : Hid (Below w.heap.size w w12) := (unhide B11).trans (d4.below (unhide B11).size (unhide HFN))
          have HTW := hide (twin_any ((unhide H1).chg (Chg.of_below (unhide B12))) (by rw [unhide HN]; omega))
          have R12 := hide (Res.start d1)
          have HGL := hide d1.lt
          have D2 := hide d2
          have D3 := hide d3
          have D4 := hide d4
          clear d1 d2 d3 d4 HDR
          go_wp2_with fail
          refine (unhide HTW).mono ?_
          rintro e w13 ⟨u13, rfl, r13, b13⟩
          have HPU := hide ((unhide R12).pushN (unhide HGL) b13 r13 (by rw [unhide HN]; simp; omega) (by rw [unhide HN]; omega))
          clear r13 b13 HTW R12
          go_wp2_with fail
          refine (unhide HPU).mono ?_
          rintro e w14 ⟨rfl, r14⟩
          have R14 := hide r14
          have B14 : Hid (Below w.heap.size w w14) := (unhide B12).trans (r14.2.below (unhide B12).size fun b hb => (unhide D2 b hb).elim (unhide HFN b) (fun x => Nat.le_trans (unhide B11).size x.1))
          have HTW := hide (twin_any ((unhide H1).chg (Chg.of_below (unhide B14))) (by rw [unhide HN]; omega))
          clear r14 HPU
          go_wp2_with fail
          refine (unhide HTW).mono ?_
          rintro e w15 ⟨u15, rfl, r15, b15⟩
          have HPU := hide ((unhide R14).pushN (unhide HGL) b15 r15 (by rw [List.nil_append, unhide HN]; omega) (by rw [unhide HN]; omega))
          clear r15 b15 HTW R14
          go_wp2_with fail
          refine (unhide HPU).mono ?_
          rintro e w16 ⟨rfl, r16⟩
          rw [List.nil_append] at r16
          have HDR := hide (drain_any lessV_item r16.1 (by rw [List.length_append, unhide HN]; omega))
          have R16 := hide r16
          clear r16 HPU
          go_wp2_with fail
          refine (unhide HDR).mono ?_
          rintro e w17 ⟨vb, rfl, G', -, -, f3, f4⟩
          rw [unhide HS] at f3
          have H17 : Hid (S17 w (.slice aa m ca) vb vw S m w17) := s17 (unhide HM) (unhide IW) (unhide B11) (unhide HFN) (unhide D2) (by rw [unhide HM] at *; exact unhide D3) (unhide D4) (unhide R16) f3 f4
          have HAL := hide (alike_true (unhide H17).ia (unhide H17).iw (by rw [unhide HM]; omega))
          clear f3 f4 HDR R16 IW D2 D3 D4 HGL B14 B12 B11 HFN H1 HAT
          go_wp2_with fail
          refine (unhide HAL).mono ?_
          rintro e w18 ⟨rfl, b18⟩
          have H18 := hide ((unhide H17).below b18)
          have HAL2 := hide (alike_true (unhide H18).ib (unhide H18).iw (by rw [unhide HM]; omega))
          clear b18 HAL H17
          go_wp2_with fail
          refine (unhide HAL2).mono ?_
          rintro e w19 ⟨rfl, b19⟩
          have H19 := hide ((unhide H18).below b19)
          clear b19 HAL2 H18
          go_wp2
          have HL0 : Hid (RowL w19 (.slice aa m ca) m ∧ Chg (fun b => (Value.slice aa m ca).ownBlock = some b) w19 w19) := ⟨(unhide H19).ra, Chg.refl _ _⟩
          go_loopw [107] (fun s107 wr2 => ∃ (j : Nat), s107 = .int .i64 j ∧ j ≤ m ∧ Hid (RowL wr2 (.slice aa m ca) m ∧ Chg (fun b => (Value.slice aa m ca).ownBlock = some b) w19 wr2)) (fun s107 _ => m - (intOf s107).toNat)
          case atStart => exact ⟨0, rfl, Nat.zero_le _, HL0⟩
          case round =>
            obtain ⟨k, rfl, hk, HR2⟩ := hrel
            by_cases hkl : k < m
            · have hklz : (k : Int) < (m : Int) := by omega
              have hk0 : 0 ≤ (k : Int) := by omega
              obtain ⟨g, rfl⟩ := (unhide HR2).1.some_ (by omega)
              obtain ⟨⟨t0, y0⟩, ⟨t1, y1⟩, yf, yd⟩ := (unhide HR2).1.put hkl (5, 5)
              have HRR : Hid (RowL ((wr.setCell ⟨g, k * 2, none⟩ (.int .i64 5)).setCell ⟨g, k * 2 + 1, none⟩ (.int .i64 5)) (.slice (some ⟨g, 0, none⟩) m ca) m ∧ Chg (fun b => (Value.slice (some ⟨g, 0, none⟩) m ca).ownBlock = some b) w19 ((wr.setCell ⟨g, k * 2, none⟩ (.int .i64 5)).setCell ⟨g, k * 2 + 1, none⟩ (.int .i64 5))) := ⟨yd, ((unhide HR2).2.setCell (p := ⟨g, k * 2, none⟩) (.inl rfl) _).setCell (p := ⟨g, k * 2 + 1, none⟩) (.inl rfl) _⟩
              clear yd
              go_wp2
              go_roundw
              case rel => exact ⟨k + 1, by go_num, by omega, HRR⟩
              case measure => simp [intOf]; omega
            · obtain rfl : k = m := by omega
              have hklz : ¬ (k : Int) < (k : Int) := by omega
              generalize wr = w20 at *
              have HC20 := hide (unhide HR2).2
              have HG0 : Hid (Gr w20 (.slice aa k ca) k (.slice aa (k + 0) ca) 0 w20) := ⟨(unhide HR2).1, .inl rfl, Chg.refl _ _⟩
              clear HR2 HL0
              go_wp2
              go_loopw [13, 116] (fun s13 s116 wr => ∃ (j : Nat) (a : Option Addr) (c : Nat), s13 = .slice a (k + j) c ∧ s116 = .int .i64 j ∧ j ≤ 20 ∧ Hid (Gr w20 (.slice aa k ca) k (.slice a (k + j) c) j wr)) (fun _ s116 _ => 20 - (intOf s116).toNat)
              case atStart => exact ⟨0, aa, ca, rfl, rfl, by omega, HG0⟩
              case round =>
                obtain ⟨j, a, c', rfl, rfl, hj20, HG⟩ := hrel
                by_cases hjl2 : j < 20
                · have hjl2z : (j : Int) < 20 := by omega
                  have hj00 : 0 ≤ (j : Int) := by omega
                  obtain ⟨a', c2', W', hrun, hgr⟩ := (unhide HG).push (6, 6) (by omega) 25
                  have HRUN := hide hrun
                  have HG2 := hide hgr
                  clear hrun hgr
                  obtain ⟨kj1, hkj⟩ : ∃ kj1, k + (j + 1) = kj1 := ⟨_, rfl⟩
                  have HKJ := hide hkj
                  rw [hkj] at HRUN HG2
                  clear hkj
                  go_wp2_with (at_builtin; refine wpList_append_run rfl _ _ 25 25 rfl _ _ rfl rfl (.slice a' kj1 c2') W' (unhide HRUN) ?_)
                  refine ⟨⟨j + 1, a', c2', by rw [unhide HKJ], by go_num, by omega, ?_⟩, by simp [intOf]; omega⟩
                  rw [unhide HKJ]; exact HG2
                · obtain rfl : j = 20 := by omega
                  have hjl2z : ¬ ((20 : Nat) : Int) < 20 := by omega
                  have C21 : Hid (Chg (fun b => (Value.slice aa k ca).ownBlock = some b) w19 wr) := (unhide HC20).then (unhide HG).chg
                  have HAL := hide (alike_true ((unhide H19).ib.chg (unhide C21)) ((unhide H19).iw.chg (unhide C21)) (by rw [unhide HM]; omega))
                  have B21 : Hid (Below w.heap.size w wr) := (unhide H19).old.trans ((unhide C21).below (unhide H19).old.size (unhide H19).an)
                  clear HG C21 HC20 HG0 H19
                  go_wp2_with fail
                  refine (unhide HAL).mono ?_
                  rintro e w22 ⟨rfl, b22⟩
                  have B22 : Hid (Below w.heap.size w w22) := (unhide B21).trans (b22.mono (unhide B21).size)
                  clear b22 HAL B21
                  go_wp2
                  go_ret
                  exact ⟨by first | rfl | simp, unhide B22⟩
end Hp
end Go.Proofs.Ytddfljlecnllaab
