/- Layer 7: the walk of HeapTwins. -/
import Derived.Test.YtddfljlecnllaaaKp
namespace Go.Proofs.Ytddfljlecnllaaa
open Go.RowKit
namespace Hp
/-- two pairs of heaps, apart from each other, newer than w -/
structure Quad (w : World) (h1 r1 N1 h2 r2 N2 : Nat) (wr : World) : Prop where
  duo : ∃ I1 p1 F1 I2 p2 F2, Duo wr h1 r1 I1 p1 F1 ∧ Duo wr h2 r2 I2 p2 F2 ∧ (∀ b, F1 b → ¬ F2 b) ∧ (∀ b, F1 b → w.heap.size ≤ b) ∧ (∀ b, F2 b → w.heap.size ≤ b) ∧ I1.length ≤ N1 ∧ p1 ≤ N1 ∧ I2.length ≤ N2 ∧ p2 ≤ N2
  old : Below w.heap.size w wr
theorem Quad.swap {w wr : World} {h1 r1 N1 h2 r2 N2 : Nat} (h : Quad w h1 r1 N1 h2 r2 N2 wr) : Quad w h2 r2 N2 h1 r1 N1 wr := by
  obtain ⟨⟨I1, p1, F1, I2, p2, F2, a1, a2, a3, a4, a5, a6, a7, a8, a9⟩, h⟩ := h
  exact ⟨⟨I2, p2, F2, I1, p1, F1, a2, a1, fun b x y => a3 b y x, a5, a4, a8, a9, a6, a7⟩, h⟩
theorem Duo.below {w W : World} {hb rb : Nat} {I : List It} {p : Nat} {F : Nat → Prop} (h : Duo w hb rb I p F) (hW : Below w.heap.size w W) : Duo W hb rb I p F :=
  h.kept (fun b hb => hW.block b (h.lt b hb)) (fun _ x => x) (fun b hb => Nat.lt_of_lt_of_le (h.lt b hb) hW.size)
theorem Duo.apart {w W : World} {hb rb : Nat} {I : List It} {p : Nat} {F G : Nat → Prop} (h : Duo w hb rb I p F) (c : Chg G w W) (hG : ∀ b, G b → ¬ F b) : Duo W hb rb I p F :=
  h.kept (fun b hb => c.block b (h.lt b hb) (fun e => hG b e hb)) (fun _ x => x) (fun b hb => Nat.lt_of_lt_of_le (h.lt b hb) c.size)
theorem quad_step {w wr W : World} {h1 r1 N1 h2 r2 N2 : Nat} (h : Quad w h1 r1 N1 h2 r2 N2 wr) (hW : Below wr.heap.size wr W) {o : Op7} (ho : Its w o.2.2 o.2.1 (fun b => w.heap.size ≤ b)) (hN : N1 + o.2.1.length ≤ 1048577) :
    Calls Try.prog 13 #[.pointer (some ⟨h1, 0, none⟩), .pointer (some ⟨r1, 0, none⟩), .agg #[.int .i64 o.1, o.2.2]] W fun e w' => e = .returned (.bool true) ∧ Quad w h1 r1 (N1 + o.2.1.length) h2 r2 N2 w' := by
  obtain ⟨⟨I1, p1, F1, I2, p2, F2, a1, a2, a3, a4, a5, a6, a7, a8, a9⟩, h5⟩ := h
  have hwW : Below w.heap.size w W := h5.trans (hW.mono h5.size)
  have hi : Its W o.2.2 o.2.1 F1 := (ho.chg (Chg.of_below hwW)).mono fun b _ hb => a4 b hb
  have d2 := a2.below hW
  refine (step_any (a1.below hW) hi (by omega) (by omega)).mono ?_
  rintro e w' ⟨rfl, J, q, ⟨s1, s2⟩, s3, s4⟩
  have hs := hwW.size
  refine ⟨rfl, ⟨J, q, _, I2, p2, F2, s1, d2.apart s2 a3, fun b hb hb' => ?_, fun b hb => hb.elim (a4 b) (fun x => Nat.le_trans hs x.1), a5, by omega, by omega, a8, a9⟩, hwW.trans (s2.below hs a4)⟩
  rcases hb with hb | hb
  · exact a3 b hb hb'
  · have := d2.lt b hb'; omega
theorem ref_nil (W : World) : RAt (W.alloc (.cells #[.slice none 0 0] 31)) W.heap.size [] (fun b => b = W.heap.size) :=
  ⟨.slice none 0 0, fun b hb => by rw [hb]; simp, rfl, (MapKept.heap_alloc W _).1, World.ownsRow_nil _ _ _ _, fun g hg => by cases hg⟩
theorem ref_one (W : World) : RAt ((W.alloc (.cells #[.int .i64 4, .int .i64 4] 43)).alloc (.cells #[.slice (some ⟨W.heap.size, 0, none⟩) 1 1] 31)) (W.heap.size + 1) [(4, 4)] (fun b => b = W.heap.size ∨ b = W.heap.size + 1) := by
  have q := World.ownsRow_lit (base := 0) (e := 43) (size := 2) W #[.int .i64 4, .int .i64 4] 1 (Nat.zero_le _) (by unfold maxLen; omega) rfl
  have q2 := (MapKept.heap_alloc (W.alloc (.cells #[.int .i64 4, .int .i64 4] 43)) (.cells #[.slice (some ⟨W.heap.size, 0, none⟩) 1 1] 31)).1
  exact ⟨.slice (some ⟨W.heap.size, 0, none⟩) 1 1, ⟨fun b hb => by rcases hb with hb | hb <;> (rw [hb]; simp; try omega), .inr rfl, by simpa using q2, own_kept q fun g hg => Below.heap_alloc _ _ _ (q.lt g hg).2, fun g hg => by injection hg with hg; exact .inl hg.symm⟩⟩
set_option maxRecDepth 100000 in
set_option maxHeartbeats 4000000 in
theorem twins_walk {w : World} {v1 v2 : Value} {os1 os2 : List Op7} (h1 : Scr w v1 os1) (h2 : Scr w v2 os2) (hz : (sumX os1 + os1.length) + (sumX os2 + os2.length) ≤ 1048576) :
    Calls Try.prog 4 #[v1, v2] w fun e w' => e = .returned (.bool true) ∧ Below w.heap.size w w' := by
  obtain ⟨ao1, cap1, rfl, hop1, hat1⟩ := h1
  obtain ⟨ao2, cap2, rfl, hop2, hat2⟩ := h2
  have HOP1 := hide hop1
  have HAT1 := hide hat1
  have HOP2 := hide hop2
  have HAT2 := hide hat2
  have HSL1 : Hid (∀ k, sumX (os1.take k) ≤ sumX os1) := sumX_le os1
  have HSL2 : Hid (∀ k, sumX (os2.take k) ≤ sumX os2) := sumX_le os2
  clear hat1 hop1 hat2 hop2
  have HI1 := hide (items_any (w := w) (v := .slice none 0 0) (X := []) ⟨none, 0, rfl, fun h => absurd h (by simp)⟩ (by simp))
  go_enter Try.func4, Try.ntmps4
  go_wp2_with fail
  refine (unhide HI1).mono ?_
  rintro e w1 ⟨rfl, a1, b1⟩
  have A1 := hide a1
  have B1 := hide b1
  clear a1 b1 HI1
  go_wp2_with fail
  have hIt : Its (w1.alloc (.cells #[.int .i64 4, .int .i64 4] 39)) (.slice (some ⟨w1.heap.size, 0, none⟩) 1 1) [(4, 4)] (fun b => (w1.alloc (.cells #[.int .i64 4, .int .i64 4] 39)).heap.size ≤ b) := by
    refine ⟨_, _, rfl, fun _ => ⟨_, _, rfl, by simp, by simp, fun j x hj => ?_⟩⟩
    rcases j with _ | j
    · simp at hj; subst hj; exact ⟨by simp, by simp⟩
    · simp at hj
  have hbx : Below w1.heap.size w1 (w1.alloc (.cells #[.int .i64 4, .int .i64 4] 39)) := (Below.refl _ _).alloc (Nat.le_refl _) _
  generalize w1.alloc (.cells #[.int .i64 4, .int .i64 4] 39) = W1 at *
  have HI2 := hide (items_any hIt (by simp))
  have BX := hide hbx
  clear hIt hbx
  refine (unhide HI2).mono ?_
  rintro e w2 ⟨rfl, a2, b2⟩
  have A2 := hide a2
  have B2 := hide b2
  clear a2 b2 HI2
  go_wp2_with fail
  have hq1 := ref_nil w2
  have hq2 := ref_one (w2.alloc (.cells #[.slice none 0 0] 31))
  have hs : (w2.alloc (.cells #[.slice none 0 0] 31)).heap.size = w2.heap.size + 1 := by simp
  rw [hs] at hq2
  have hb3 : Below w2.heap.size w2 (((w2.alloc (.cells #[.slice none 0 0] 31)).alloc (.cells #[.int .i64 4, .int .i64 4] 43)).alloc (.cells #[.slice (some ⟨w2.heap.size + 1, 0, none⟩) 1 1] 31)) := (((Below.refl _ _).alloc (Nat.le_refl _) _).alloc (by simp) _).alloc (by simp; omega) _
  have hq1' : RAt (((w2.alloc (.cells #[.slice none 0 0] 31)).alloc (.cells #[.int .i64 4, .int .i64 4] 43)).alloc (.cells #[.slice (some ⟨w2.heap.size + 1, 0, none⟩) 1 1] 31)) w2.heap.size [] (fun b => b = w2.heap.size) := hq1.below (((Below.refl _ _).alloc (Nat.le_refl _) _).alloc (by simp) _)
  clear hq1 hs
  generalize ((w2.alloc (.cells #[.slice none 0 0] 31)).alloc (.cells #[.int .i64 4, .int .i64 4] 43)).alloc (.cells #[.slice (some ⟨w2.heap.size + 1, 0, none⟩) 1 1] 31) = W3 at *
  refine (wakes_any W3).mono ?_
  rintro e w4 ⟨rfl, b4⟩
  have HQ0 : Hid (Quad w w.heap.size w2.heap.size 1 W1.heap.size (w2.heap.size + 1 + 1) 1 w4) := by
    have s1 := (unhide B1).size
    have s2 := (unhide BX).size
    have s3 := (unhide B2).size
    have s4 := hb3.size
    have s5 := b4.size
    have l1 := (unhide A1).lt
    have l2 := (unhide A2).lt
    have k2 := hq2.lt
    have k1 := hq1'.lt
    have c2 : Below w1.heap.size w1 w4 := (unhide BX).trans (((unhide B2).mono s2).trans ((hb3.mono (by omega)).trans (b4.mono (by omega))))
    have c3 : Below w2.heap.size w2 w4 := hb3.trans (b4.mono s4)
    refine ⟨⟨[], 0, fun b => (w.heap.size ≤ b ∧ b < w1.heap.size) ∨ b = w2.heap.size, [(4, 4)], 1, fun b => (W1.heap.size ≤ b ∧ b < w2.heap.size) ∨ b = w2.heap.size + 1 ∨ b = w2.heap.size + 1 + 1, ⟨_, _, ⟨(unhide A1).below c2, hq1'.below b4, fun b x y => by omega, fun b hb => hb, fun b hb => ?_⟩⟩, ⟨_, _, ⟨(unhide A2).below c3, hq2.below b4, fun b x y => by omega, fun b hb => hb, fun b hb => ?_⟩⟩, fun b x y => by omega, fun b hb => by omega, fun b hb => by omega, by simp, by simp, by simp, by simp⟩, (unhide B1).trans (c2.mono s1)⟩
    · have := k2 (w2.heap.size + 1 + 1) (.inr rfl); omega
    · have := k2 (w2.heap.size + 1 + 1) (.inr rfl); omega
  clear b4 hb3 hq1' hq2 A1 A2 B1 B2 BX
  generalize w2.heap.size + 1 + 1 = r2 at *
  generalize w2.heap.size = r1 at *
  generalize W1.heap.size = h2 at *
  obtain ⟨hh1, hhe⟩ : ∃ x, x = w.heap.size := ⟨_, rfl⟩
  rw [← hhe]
  have HQS : Hid (Quad w hh1 r1 (1 + sumX (os1.take 0)) h2 r2 (1 + sumX (os2.take 0)) w4) := by rw [hhe]; simpa [sumX, Hid] using HQ0
  clear HQ0 hhe
  go_wp2
  go_loopw [9] (fun s9 wr => ∃ (k : Nat), s9 = .int .i64 k ∧ (k ≤ os1.length ∨ k ≤ os2.length) ∧ Hid (Quad w hh1 r1 (1 + sumX (os1.take k)) h2 r2 (1 + sumX (os2.take k)) wr)) (fun s9 _ => (os1.length + os2.length) - (intOf s9).toNat)
  case atStart => exact ⟨0, rfl, .inl (Nat.zero_le _), HQS⟩
  case round =>
    obtain ⟨k, rfl, hk, HR⟩ := hrel
    have hk0 : 0 ≤ (k : Int) := by omega
    by_cases hl1 : k < os1.length
    · have hz1 : (k : Int) < (os1.length : Int) := by omega
      obtain ⟨o1, ho1⟩ : ∃ o, os1[k]? = some o := ⟨_, List.getElem?_eq_getElem hl1⟩
      obtain ⟨g1, off1, rfl, hg1, hc1⟩ := unhide HAT1 (by omega)
      have x0 := ((unhide HR).old.cell (p := ⟨g1, off1 + k * 2, none⟩) hg1).trans (hc1 k o1 ho1).1
      have x1 := ((unhide HR).old.cell (p := ⟨g1, off1 + k * 2 + 1, none⟩) hg1).trans (hc1 k o1 ho1).2
      have hoI1 := unhide HOP1 o1 (List.mem_of_getElem? ho1)
      have hst1 := sumX_take ho1
      have hle1 := unhide HSL1 (k + 1)
      have HST1 : Hid (Calls Try.prog 13 #[.pointer (some ⟨hh1, 0, none⟩), .pointer (some ⟨r1, 0, none⟩), .agg #[.int .i64 o1.1, o1.2.2]] wr fun e w' => e = .returned (.bool true) ∧ Quad w hh1 r1 (1 + sumX (os1.take (k + 1))) h2 r2 (1 + sumX (os2.take k)) w') := by
        rw [hst1, ← Nat.add_assoc]
        exact quad_step (unhide HR) (Below.refl _ _) hoI1 (by omega)
      obtain ⟨ai1, ci1, ei1⟩ := its_slice hoI1
      rw [ei1] at x1 HST1
      generalize o1.2.1.length = M1 at *
      generalize o1.1 = kd1 at *
      clear hc1 ho1 hoI1 hst1 hle1 ei1
      by_cases hl2 : k < os2.length
      · have hz2 : (k : Int) < (os2.length : Int) := by omega
        obtain ⟨o2, ho2⟩ : ∃ o, os2[k]? = some o := ⟨_, List.getElem?_eq_getElem hl2⟩
        obtain ⟨g2, off2, rfl, hg2, hc2⟩ := unhide HAT2 (by omega)
        have yy0 := (hc2 k o2 ho2).1
        have yy1 := (hc2 k o2 ho2).2
        have hoI2 := unhide HOP2 o2 (List.mem_of_getElem? ho2)
        have hst2 := sumX_take ho2
        have hle2 := unhide HSL2 (k + 1)
        have HST2F : Hid (∀ W, Quad w hh1 r1 (1 + sumX (os1.take (k + 1))) h2 r2 (1 + sumX (os2.take k)) W → Calls Try.prog 13 #[.pointer (some ⟨h2, 0, none⟩), .pointer (some ⟨r2, 0, none⟩), .agg #[.int .i64 o2.1, o2.2.2]] W fun e w' => e = .returned (.bool true) ∧ Quad w hh1 r1 (1 + sumX (os1.take (k + 1))) h2 r2 (1 + sumX (os2.take (k + 1))) w') := fun W hQ => by
          rw [hst2, ← Nat.add_assoc]
          exact (quad_step hQ.swap (Below.refl _ _) hoI2 (by omega)).mono fun e w' h => ⟨h.1, h.2.swap⟩
        obtain ⟨ai2, ci2, ei2⟩ := its_slice hoI2
        rw [ei2] at yy1 HST2F
        generalize o2.2.1.length = M2 at *
        generalize o2.1 = kd2 at *
        clear hc2 ho2 hoI2 hst2 hle2 ei2
        go_wp2_with (go_at_call 13; refine (unhide HST1).mono ?_; rintro e w6 ⟨rfl, h6⟩; have HST2 := hide (unhide HST2F w6 h6); have y0 := (h6.old.cell (p := ⟨g2, off2 + k * 2, none⟩) hg2).trans yy0; have y1 := (h6.old.cell (p := ⟨g2, off2 + k * 2 + 1, none⟩) hg2).trans yy1; clear h6 HST1)
        refine (unhide HST2).mono ?_
        rintro e w7 ⟨rfl, h7⟩
        have H7 := hide h7
        clear h7 HST2
        go_wp2
        exact ⟨⟨k + 1, by go_num, by omega, H7⟩, by simp [intOf]; omega⟩
      · have hz2 : ¬ (k : Int) < (os2.length : Int) := by omega
        have et : os2.take (k + 1) = os2.take k := by rw [List.take_of_length_le (by omega), List.take_of_length_le (by omega)]
        rw [← et] at HST1
        clear et
        go_wp2_with (go_at_call 13; refine (unhide HST1).mono ?_; rintro e w6 ⟨rfl, h6⟩; have H7 := hide h6; clear h6 HST1)
        exact ⟨⟨k + 1, by go_num, by omega, H7⟩, by simp [intOf]; omega⟩
    · have hz1 : ¬ (k : Int) < (os1.length : Int) := by omega
      by_cases hl2 : k < os2.length
      · have hz2 : (k : Int) < (os2.length : Int) := by omega
        have et : os1.take (k + 1) = os1.take k := by rw [List.take_of_length_le (by omega), List.take_of_length_le (by omega)]
        obtain ⟨o2, ho2⟩ : ∃ o, os2[k]? = some o := ⟨_, List.getElem?_eq_getElem hl2⟩
        obtain ⟨g2, off2, rfl, hg2, hc2⟩ := unhide HAT2 (by omega)
        have yy0 := (hc2 k o2 ho2).1
        have yy1 := (hc2 k o2 ho2).2
        have hoI2 := unhide HOP2 o2 (List.mem_of_getElem? ho2)
        have hst2 := sumX_take ho2
        have hle2 := unhide HSL2 (k + 1)
        have HST2 : Hid (Calls Try.prog 13 #[.pointer (some ⟨h2, 0, none⟩), .pointer (some ⟨r2, 0, none⟩), .agg #[.int .i64 o2.1, o2.2.2]] wr fun e w' => e = .returned (.bool true) ∧ Quad w hh1 r1 (1 + sumX (os1.take (k + 1))) h2 r2 (1 + sumX (os2.take (k + 1))) w') := by
          rw [hst2, ← Nat.add_assoc, et]
          exact (quad_step (unhide HR).swap (Below.refl _ _) hoI2 (by omega)).mono fun e w' h => ⟨h.1, h.2.swap⟩
        have y0 := ((unhide HR).old.cell (p := ⟨g2, off2 + k * 2, none⟩) hg2).trans yy0
        have y1 := ((unhide HR).old.cell (p := ⟨g2, off2 + k * 2 + 1, none⟩) hg2).trans yy1
        obtain ⟨ai2, ci2, ei2⟩ := its_slice hoI2
        rw [ei2] at y1 yy1 HST2
        generalize o2.2.1.length = M2 at *
        generalize o2.1 = kd2 at *
        clear hc2 ho2 hoI2 hst2 hle2 ei2 yy0 yy1 et
        go_wp2_with (go_at_call 13; refine (unhide HST2).mono ?_; rintro e w6 ⟨rfl, h6⟩; have H7 := hide h6; clear h6 HST2)
        exact ⟨⟨k + 1, by go_num, by omega, H7⟩, by simp [intOf]; omega⟩
      · have hz2 : ¬ (k : Int) < (os2.length : Int) := by omega
        obtain ⟨⟨I1, p1, F1, I2, p2, F2, ⟨A1, B1, t1⟩, du2, ap, f1, f2, i1, q1, i2, q2⟩, hold⟩ := unhide HR
        have hle1 := unhide HSL1 k
        have hle2 := unhide HSL2 k
        have hI1 : I1.length ≤ 1048577 := by omega
        have hI2 : I2.length ≤ 1048577 := by omega
        have T1 := hide t1
        have DU2 := hide du2
        have AP := hide ap
        have FF1 := hide f1
        have FF2 := hide f2
        have HO := hide hold
        have HDRa := hide (drain_any lessV_item t1.h (by omega))
        have HSLDa : Hid ((drain rise_ I1).length ≤ 1099511627776) := by rw [Hid, drain_len _ _ rfl]; omega
        have HSLDb : Hid ((drain rise_ I2).length ≤ 1099511627776) := by rw [Hid, drain_len _ _ rfl]; omega
        clear t1 du2 ap f1 f2 i1 q1 i2 q2 hold hle1 hle2 HR
        go_wp2_with fail
        refine (unhide HDRa).mono ?_
        rintro e w6 ⟨v6a, rfl, Ga, d1, d2, d3, d4⟩
        have hB : ∀ b, B1 b → b < wr.heap.size := fun b hb => (unhide T1).lt b ((unhide T1).inF b (.inr hb))
        have hR6 : RAt w6 r1 I1 B1 := (unhide T1).r.kept (fun b hb => d4.block b (hB b hb) (fun e => (unhide T1).ap b e hb)) (fun _ x => x) (fun b hb => Nat.lt_of_lt_of_le (hB b hb) d4.size)
        have HRDa := hide (rdrain_any hR6 (by omega))
        have I6a : Hid (Its w6 v6a (drain rise_ I1) B1) := d3.its.mono fun b _ hb => .inr (hB b hb)
        have C6a : Hid (Chg F1 wr w6) := d4.mono fun b hb => (unhide T1).inF b (.inl hb)
        clear d1 d2 d3 d4 hB hR6 HDRa
        go_wp2_with fail
        refine (unhide HRDa).mono ?_
        rintro e w7 ⟨v7a, rfl, G7a, e1, e2, e3, e4⟩
        have HALa := hide (alike_true ((unhide I6a).chg e4) (its_of_row (F := fun _ => False) e3.1 (fun _ _ h => h)) (unhide HSLDa))
        have C7a : Hid (Chg F1 wr w7) := (unhide C6a).then (e4.mono fun b hb => (unhide T1).inF b (.inr hb))
        clear e1 e2 e3 e4 HRDa I6a C6a
        go_wp2_with fail
        refine (unhide HALa).mono ?_
        rintro e w8 ⟨rfl, b8⟩
        have C8a : Hid (Chg F1 wr w8) := (unhide C7a).then (Chg.of_below b8)
        clear b8 HALa C7a
        obtain ⟨A2, B2, t2⟩ := (unhide DU2).apart (unhide C8a) (unhide AP)
        have T2 := hide t2
        have HDRb := hide (drain_any lessV_item t2.h (by omega))
        clear t2
        go_wp2_with fail
        refine (unhide HDRb).mono ?_
        rintro e w9 ⟨v6b, rfl, Gb, d1, d2, d3, d4⟩
        have hB : ∀ b, B2 b → b < w8.heap.size := fun b hb => (unhide T2).lt b ((unhide T2).inF b (.inr hb))
        have hR6 : RAt w9 r2 I2 B2 := (unhide T2).r.kept (fun b hb => d4.block b (hB b hb) (fun e => (unhide T2).ap b e hb)) (fun _ x => x) (fun b hb => Nat.lt_of_lt_of_le (hB b hb) d4.size)
        have HRDb := hide (rdrain_any hR6 (by omega))
        have I6b : Hid (Its w9 v6b (drain rise_ I2) B2) := d3.its.mono fun b _ hb => .inr (hB b hb)
        have C6b : Hid (Chg F2 w8 w9) := d4.mono fun b hb => (unhide T2).inF b (.inl hb)
        clear d1 d2 d3 d4 hB hR6 HDRb
        go_wp2_with fail
        refine (unhide HRDb).mono ?_
        rintro e w10 ⟨v7b, rfl, G7b, e1, e2, e3, e4⟩
        have HALb := hide (alike_true ((unhide I6b).chg e4) (its_of_row (F := fun _ => False) e3.1 (fun _ _ h => h)) (unhide HSLDb))
        have C7b : Hid (Chg F2 w8 w10) := (unhide C6b).then (e4.mono fun b hb => (unhide T2).inF b (.inr hb))
        clear e1 e2 e3 e4 HRDb I6b C6b
        go_wp2_with fail
        refine (unhide HALb).mono ?_
        rintro e w11 ⟨rfl, b8⟩
        have C8b : Hid (Chg F2 w8 w11) := (unhide C7b).then (Chg.of_below b8)
        clear b8 HALb C7b
        have HBE : Hid (Below w.heap.size w w11) := by
          have s1 := (unhide HO).size
          have s2 := (unhide C8a).size
          exact ((unhide HO).trans ((unhide C8a).below s1 (unhide FF1))).trans ((unhide C8b).below (by omega) (unhide FF2))
        go_wp2
        go_ret
        exact ⟨by first | rfl | simp, unhide HBE⟩
end Hp
end Go.Proofs.Ytddfljlecnllaaa
