/- Layer 7: the walk of HeapPlays. -/
import Derived.Test.YtddfljlecnllaaaKo
import Derived.Test.YtddfljlecnllaaaKn0
namespace Go.Proofs.Ytddfljlecnllaaa
open Go.RowKit
namespace Hp
/-- a new heap of the document's around a row -/
theorem new_ref {w W : World} {v : Value} {X : List It} (h : Grow w v X W) : RAt (W.alloc (.cells #[v] 31)) W.heap.size X (fun b => w.heap.size ≤ b ∧ b < W.heap.size + 1) := by
  have hs := h.old.size
  refine ⟨v, fun b hb => by simpa using hb.2, ⟨hs, by omega⟩, (MapKept.heap_alloc W _).1, own_kept h.row fun g hg => Below.heap_alloc _ _ _ (h.row.lt g hg).2, fun g hg => ⟨h.new g hg, by have := (h.row.lt g hg).2; omega⟩⟩
/-- both heaps, newer than w -/
structure Pair (w : World) (hb rb N : Nat) (wr : World) : Prop where
  duo : ∃ I p F, Duo wr hb rb I p F ∧ (∀ b, F b → w.heap.size ≤ b) ∧ I.length ≤ N ∧ p ≤ N
  old : Below w.heap.size w wr
/-- both heaps made new -/
theorem Pair.start {w W1 W2 w3 W5 : World} {v : Value} {X : List It} (b1 : Below w.heap.size w W1) (h : HAt W2 W1.heap.size lessI rise_ X X.length (fun b => W1.heap.size ≤ b ∧ b < W2.heap.size)) (b2 : Below W1.heap.size W1 W2) (g : Grow W2 v X w3) (b5 : Below (w3.heap.size + 1) (w3.alloc (.cells #[v] 31)) W5) : Pair w W1.heap.size w3.heap.size X.length W5 := by
  have s1 := b1.size
  have s2 := b2.size
  have s3 := g.old.size
  have s5 := b5.size
  have e5 : (w3.alloc (.cells #[v] 31)).heap.size = w3.heap.size + 1 := by simp
  rw [e5] at s5
  have r := new_ref g
  have hb3 : Below W2.heap.size W2 W5 := (g.old.trans ((Below.refl _ _).alloc s3 _)).trans (b5.mono (by omega))
  refine ⟨⟨X, X.length, fun b => (W1.heap.size ≤ b ∧ b < W2.heap.size) ∨ (W2.heap.size ≤ b ∧ b < w3.heap.size + 1), ⟨_, _, ⟨h.below hb3, r.kept (fun b hb => b5.block b (by omega)) (fun _ x => x) (fun b hb => by omega), fun b h1 h2 => by omega, fun b hb => hb, fun b hb => by omega⟩⟩, fun b hb => by omega, Nat.le_refl _, Nat.le_refl _⟩, b1.trans ((b2.mono s1).trans (hb3.mono (by omega)))⟩
/-- one call of a script -/
theorem pair_step {w wr W : World} {hb rb N : Nat} (h : Pair w hb rb N wr) (hW : Below wr.heap.size wr W) {o : Op7} (ho : Its w o.2.2 o.2.1 (fun b => w.heap.size ≤ b)) (hN : N + o.2.1.length ≤ 1048576) :
    Calls Try.prog 13 #[.pointer (some ⟨hb, 0, none⟩), .pointer (some ⟨rb, 0, none⟩), .agg #[.int .i64 o.1, o.2.2]] W fun e w' => e = .returned (.bool true) ∧ Pair w hb rb (N + o.2.1.length) w' := by
  obtain ⟨⟨I, p, F, h1, h2, h3, h4⟩, h5⟩ := h
  have hwW : Below w.heap.size w W := h5.trans (hW.mono h5.size)
  have hd : Duo W hb rb I p F := h1.kept (fun b hb => hW.block b (h1.lt b hb)) (fun _ x => x) (fun b hb => Nat.lt_of_lt_of_le (h1.lt b hb) hW.size)
  have hi : Its W o.2.2 o.2.1 F := (ho.chg (Chg.of_below hwW)).mono fun b _ hb => h2 b hb
  refine (step_any hd hi (by omega) (by omega)).mono ?_
  rintro e w' ⟨rfl, J, q, ⟨r1, r2⟩, r3, r4⟩
  have hs := hwW.size
  refine ⟨rfl, ⟨J, q, _, r1, fun b hb => hb.elim (h2 b) (fun x => Nat.le_trans hs x.1), by omega, by omega⟩, hwW.trans (r2.below hs (fun b hb => h2 b hb))⟩
theorem its_slice {w : World} {v : Value} {X : List It} {F : Nat → Prop} (h : Its w v X F) : ∃ ao cap, v = .slice ao X.length cap := by
  obtain ⟨ao, cap, e, _⟩ := h
  exact ⟨ao, cap, e⟩
set_option maxRecDepth 100000 in
set_option maxHeartbeats 4000000 in
theorem plays_walk {w : World} {v1 v2 : Value} {X : List It} {os : List Op7} (h1 : Its w v1 X (fun b => w.heap.size ≤ b)) (h2 : Scr w v2 os) (hz : X.length + (sumX os + os.length) ≤ 1048576) :
    Calls Try.prog 3 #[v1, v2] w fun e w' => e = .returned (.bool true) ∧ Below w.heap.size w w' := by
  have H1 := hide h1
  obtain ⟨ao2, cap2, rfl, hop, hat2⟩ := h2
  have HOP := hide hop
  have HAT2 := hide hat2
  have HSL : Hid (∀ k, sumX (os.take k) ≤ sumX os) := sumX_le os
  clear h1 hat2 hop
  have HTW := hide (twin_any (unhide H1) (by omega))
  go_enter Try.func3, Try.ntmps3
  go_wp2_with fail
  refine (unhide HTW).mono ?_
  rintro e w1 ⟨u1, rfl, r1, b1⟩
  have HNW := hide (items_any (r1.its.mono (fun b hb hg => absurd hg (by omega)) : Its w1 u1 X (fun b => w1.heap.size ≤ b)) (by omega))
  have B1 := hide b1
  clear r1 b1 HTW
  go_wp2_with fail
  refine (unhide HNW).mono ?_
  rintro e w2 ⟨rfl, a2, b2⟩
  have A2 := hide a2
  have B2 := hide b2
  have HRF := hide (ref_any ((((unhide H1).chg (Chg.of_below ((unhide B1).trans (b2.mono (unhide B1).size)))).mono (G := fun _ => False) fun _ _ h => h.elim)) (by omega))
  clear a2 b2 HNW
  go_wp2_with fail
  refine (unhide HRF).mono ?_
  rintro e w3 ⟨u3, rfl, g3⟩
  have G3 := hide g3
  obtain ⟨a3, c3, rfl⟩ := own_slice g3.row
  clear g3 HRF
  go_wp2_with fail
  have HP0 : Hid (∀ W, Below (w3.heap.size + 1) (w3.alloc (.cells #[.slice a3 X.length c3] 31)) W → Pair w w1.heap.size w3.heap.size X.length W) := fun W hW => Pair.start (unhide B1) (unhide A2) (unhide B2) (unhide G3) hW
  have es : (w3.alloc (.cells #[.slice a3 X.length c3] 31)).heap.size = w3.heap.size + 1 := by simp
  generalize w3.alloc (.cells #[.slice a3 X.length c3] 31) = W4 at *
  refine (wakes_any W4).mono ?_
  rintro e w5 ⟨rfl, b5⟩
  have HP5 := hide (unhide HP0 w5 (by rw [← es]; exact b5))
  clear HP0 b5 es G3 A2 B2
  generalize w1.heap.size = hb at *
  generalize w3.heap.size = rb at *
  have HPS : Hid (Pair w hb rb (X.length + sumX (os.take 0)) w5) := by simpa [sumX, Hid] using HP5
  clear HP5
  go_wp2
  go_loopw [24] (fun s24 wr => ∃ (k : Nat), s24 = .int .i64 k ∧ k ≤ os.length ∧ Hid (Pair w hb rb (X.length + sumX (os.take k)) wr)) (fun s24 _ => os.length - (intOf s24).toNat)
  case atStart => exact ⟨0, rfl, Nat.zero_le _, HPS⟩
  case round =>
    obtain ⟨k, rfl, hk, HR⟩ := hrel
    by_cases hlt : k < os.length
    · have hltz : (k : Int) < (os.length : Int) := by omega
      have hk0 : 0 ≤ (k : Int) := by omega
      obtain ⟨o, ho⟩ : ∃ o, os[k]? = some o := ⟨_, List.getElem?_eq_getElem hlt⟩
      obtain ⟨g2, off2, rfl, hg2, hc2⟩ := unhide HAT2 (by omega)
      have x0 := ((unhide HR).old.cell (p := ⟨g2, off2 + k * 2, none⟩) hg2).trans (hc2 k o ho).1
      have x1 := ((unhide HR).old.cell (p := ⟨g2, off2 + k * 2 + 1, none⟩) hg2).trans (hc2 k o ho).2
      have hoI := unhide HOP o (List.mem_of_getElem? ho)
      have hst := sumX_take ho
      have hle := unhide HSL (k + 1)
      have HST : Hid (∀ ob : Obj, Calls Try.prog 13 #[.pointer (some ⟨hb, 0, none⟩), .pointer (some ⟨rb, 0, none⟩), .agg #[.int .i64 o.1, o.2.2]] (wr.alloc ob) fun e w' => e = .returned (.bool true) ∧ Pair w hb rb (X.length + sumX (os.take (k + 1))) w') := fun ob => by
        rw [hst, ← Nat.add_assoc]
        exact pair_step (unhide HR) ((Below.refl _ _).alloc (Nat.le_refl _) ob) hoI (by omega)
      obtain ⟨ai, ci, ei⟩ := its_slice hoI
      rw [ei] at x1 HST
      generalize o.2.1.length = M at *
      generalize o.1 = kd at *
      clear hc2 ho hoI hst hle ei
      go_wp2_with (go_at_call 13; refine (unhide HST _).mono ?_; rintro e w6 ⟨rfl, h6⟩; have H6 := hide h6; clear h6)
      go_roundw
      case rel => exact ⟨k + 1, by go_num, by omega, H6⟩
      case measure => simp [intOf]; omega
    · obtain rfl : k = os.length := by omega
      have hltz : ¬ (os.length : Int) < (os.length : Int) := by omega
      obtain ⟨⟨I, p, F, ⟨A, B, h2⟩, hF, hI, hp⟩, hold⟩ := unhide HR
      have hle := unhide HSL os.length
      have hIl : I.length ≤ 1048576 := by omega
      have H2 := hide h2
      have HFF := hide hF
      have HO := hide hold
      have HDR := hide (drain_any lessV_item h2.h (by omega))
      have HSLD : Hid ((drain rise_ I).length ≤ 1099511627776) := by rw [Hid, drain_len _ _ rfl]; omega
      clear h2 hF hI hp hold hle HR
      go_wp2_with fail
      refine (unhide HDR).mono ?_
      rintro e w6 ⟨v6, rfl, G, d1, d2, d3, d4⟩
      have hB : ∀ b, B b → b < wr.heap.size := fun b hb => (unhide H2).lt b ((unhide H2).inF b (.inr hb))
      have hR6 : RAt w6 rb I B := (unhide H2).r.kept (fun b hb => d4.block b (hB b hb) (fun e => (unhide H2).ap b e hb)) (fun _ x => x) (fun b hb => Nat.lt_of_lt_of_le (hB b hb) d4.size)
      have HRD := hide (rdrain_any hR6 (by omega))
      have I6 : Hid (Its w6 v6 (drain rise_ I) B) := d3.its.mono fun b _ hb => .inr (hB b hb)
      have hGB : ∀ b, G b → ¬ B b := fun b hg hb => (d2 b hg).elim (fun x => (unhide H2).ap b x hb) (fun x => by have := hB b hb; omega)
      have C6 : Hid (Chg F wr w6) := d4.mono fun b hb => (unhide H2).inF b (.inl hb)
      have D1 := hide d1
      have HGB := hide hGB
      clear d1 d2 d3 d4 hB hR6 hGB HDR
      go_wp2_with fail
      refine (unhide HRD).mono ?_
      rintro e w7 ⟨v7, rfl, G7, e1, e2, e3, e4⟩
      have HAL := hide (alike_true ((unhide I6).chg e4) (its_of_row (F := fun _ => False) e3.1 (fun _ _ h => h)) (unhide HSLD))
      have D7 : Hid (HAt w7 hb lessI rise_ [] p G) := (unhide D1).kept (fun b hb => e4.block b ((unhide D1).lt b hb) (unhide HGB b hb)) (fun _ x => x) (fun b hb => Nat.lt_of_lt_of_le ((unhide D1).lt b hb) e4.size)
      have C7 : Hid (Chg F wr w7) := (unhide C6).then (e4.mono fun b hb => (unhide H2).inF b (.inr hb))
      clear e1 e2 e3 e4 HRD I6 D1 C6
      go_wp2_with fail
      refine (unhide HAL).mono ?_
      rintro e w8 ⟨rfl, b8⟩
      have HLN := hide (len_any ((unhide D7).below b8))
      have HBE : Hid (Below w.heap.size w w8) := ((unhide HO).trans ((unhide C7).below (unhide HO).size (unhide HFF))).trans (b8.mono (Nat.le_trans (unhide HO).size (unhide C7).size))
      simp only [List.length_nil] at HLN
      clear b8 HAL D7 C7
      go_wp2_with (go_at_call 17; refine (unhide HLN).mono ?_; rintro e w9 ⟨rfl, hw9⟩; have hw10 := hw9.symm; subst hw10; clear hw9)
      go_ret
      exact ⟨by first | rfl | simp, unhide HBE⟩
end Hp
end Go.Proofs.Ytddfljlecnllaaa
