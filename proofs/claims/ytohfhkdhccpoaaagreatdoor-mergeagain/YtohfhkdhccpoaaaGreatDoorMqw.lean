/- Layer 10: the law MergeAgain, the walk. -/
import Derived.Laws.Cover1
import Derived.Test.YtohfhkdhccpoaaaGreatDoorMq
import Derived.Test.YtohfhkdhccpoaaaGreatDoorMq1
namespace Go.Proofs.YtohfhkdhccpoaaaGreatDoor
open Go.RowKit Go.Shelf
namespace Rs
open Sm (Tx ofS)
/-- both stores, and the numbers of their runs -/
def Ag (w : World) (sb tb lb rb : Nat) (L R : List (Nat × List Tx)) (x y z x' y' z' : Int) (c : Nat) (wr : World) : Prop :=
  ∃ ms mt, Sep w [stoT sb ms, stoT tb mt, arrT lb x y z, arrT rb x' y' z'] (fun _ => wr.heap.size) wr ∧ Bk ms L ∧ Bk mt R ∧ ms.made ≤ c ∧ mt.made ≤ c
theorem bel_al2 (W : World) (o : Obj) : Below W.heap.size W (W.alloc o) := (Below.refl _ W).alloc (Nat.le_refl _) o
theorem index3_0 (W : World) (a b c : Value) : (Instr.index 61 (.agg #[a, b, c]) (.int .i64 0)).run Tryz.prog W = .ok a W := by
  simp [Instr.index, run_underlying Tryz.underlying61, go_sem]
theorem index3_1 (W : World) (a b c : Value) : (Instr.index 61 (.agg #[a, b, c]) (.int .i64 1)).run Tryz.prog W = .ok b W := by
  simp [Instr.index, run_underlying Tryz.underlying61, go_sem]
theorem index3_2 (W : World) (a b c : Value) : (Instr.index 61 (.agg #[a, b, c]) (.int .i64 2)).run Tryz.prog W = .ok c W := by
  simp [Instr.index, run_underlying Tryz.underlying61, go_sem]
theorem own_new10 {B : Nat} {W : World} {v : Value} {L : List Tx} (h : Um.OwnT B W v L) : ∀ a n c, v = .slice (some a) n c → B ≤ a.block ∧ a.block < W.heap.size := fun a n c e => by
  rcases h.2 with ⟨e1, _⟩ | ⟨g, cap, cur, e1, hb, hg, _⟩
  · rw [e1] at e; cases e
  · rw [e1] at e
    injection e with e _ _
    injection e with e
    rw [← e]
    exact ⟨hb, (Array.getElem?_eq_some_iff.1 hg).1⟩
theorem bk_sort {w wr w7 : World} {E : Nat → Addr} {TL : List Thing} {i sb b fan z : Nat} {m : Sto} {L : List (Nat × List Tx)} {D : List Tx} {t : Value} (V : EnvZ w E w.heap.size) (h : Sep w TL (fun _ => wr.heap.size) wr) (hi : TL[i]? = some (stoT sb m)) (k : Bk m L) (hm : m.made ≤ 2097666) (hl : fz (L.map (·.2)).flatten ≤ 4195328) (hF : Fit D z) (hz : z ≤ 1048832) (b7 : Below wr.heap.size wr w7) (ho : Um.OwnT wr.heap.size w7 t D) (h1 : 1 ≤ b) (h2 : b ≤ 65536) (h3 : 2 ≤ fan) (h4 : fan ≤ 64) :
    Calls Tryz.prog 15 #[.pointer (some ⟨sb, 0, none⟩), .int .i64 b, .int .i64 fan, t] w7 fun e w' => ∃ m' n, e = .returned (.tuple #[.int .i64 (n : Nat), .nilIface]) ∧ Sep w (TL.set i (stoT sb m')) (fun _ => w'.heap.size) w' ∧ Bk m' (L ++ [(n, ofS D)]) ∧ m'.made ≤ m.made + 1048833 := by
  have ht := k.tot
  have hd : 2 * D.length ≤ z := by have := fz_len D; rw [hF.sum] at this; exact this
  refine (sep_sort V (h.below b7) hi ho.txs (fun a n c e => ?_) hF.short h1 h2 h3 h4 k.ahead (by rw [k.cap, hF.sum]; omega) (by omega)).mono ?_
  · obtain ⟨o1, o2⟩ := own_new10 ho a n c e
    exact ⟨.inr o1, o2⟩
  · rintro e w' ⟨m', n, rfl, q1, q2, -, q3⟩
    exact ⟨m', n, rfl, q3, k.sort q1 hF.short, by omega⟩
theorem own_low {B : Nat} {W : World} {v : Value} {L : List Tx} (h : Um.OwnT B W v L) {a : Addr} (ha : a.block < B) (u : Value) : Um.OwnT B (W.setCell a u) v L := ownsRow_setCell_below h ha u
set_option maxRecDepth 100000 in
set_option maxHeartbeats 4000000 in
theorem again10 {w : World} {va vb vc : Value} {A B C : List Tx} {E : Nat → Addr} (V : EnvZ w E w.heap.size) (hA : Um.Txs w va A) (hB : Um.Txs w vb B) (hC : Um.Txs w vc C) (nA : A.length ≤ 9223372036854775807) (nB : B.length ≤ 9223372036854775807) (nC : C.length ≤ 9223372036854775807) :
    Calls Tryz.prog 7 #[va, vb, vc] w fun e w' => e = .returned (.bool true) ∧ Below w.heap.size w w' := by
  have HV := hide V
  have HWK := hide (wakes_any V)
  have HFA : Hid (∀ W, Below w.heap.size w W → Calls Tryz.prog 14 #[va] W fun e w' => ∃ u D z, e = .returned (.tuple #[u, .int .i64 (z : Nat)]) ∧ z ≤ 1048832 ∧ Fit D z ∧ Um.OwnT W.heap.size w' u D ∧ Below W.heap.size W w') := fun W hW => fit_any (hA.below hW) nA
  have HFB : Hid (∀ W, Below w.heap.size w W → Calls Tryz.prog 14 #[vb] W fun e w' => ∃ u D z, e = .returned (.tuple #[u, .int .i64 (z : Nat)]) ∧ z ≤ 1048832 ∧ Fit D z ∧ Um.OwnT W.heap.size w' u D ∧ Below W.heap.size W w') := fun W hW => fit_any (hB.below hW) nB
  have HFC : Hid (∀ W, Below w.heap.size w W → Calls Tryz.prog 14 #[vc] W fun e w' => ∃ u D z, e = .returned (.tuple #[u, .int .i64 (z : Nat)]) ∧ z ≤ 1048832 ∧ Fit D z ∧ Um.OwnT W.heap.size w' u D ∧ Below W.heap.size W w') := fun W hW => fit_any (hC.below hW) nC
  obtain ⟨oa, ca, rfl, -⟩ := hA
  obtain ⟨ob, cb, rfl, -⟩ := hB
  obtain ⟨oc, cc, rfl, -⟩ := hC
  have ix0 := index3_0
  have ix1 := index3_1
  have ix2 := index3_2
  clear V
  go_enter Tryz.func7, Tryz.ntmps7
  go_wp2_with fail
  refine (unhide HWK).mono ?_
  rintro e w1 ⟨rfl, b1⟩
  obtain ⟨ab, hab⟩ : ∃ ab, w1.heap.size = ab := ⟨_, rfl⟩
  have hw0 : Below w.heap.size w (w1.alloc (.cells #[.slice none 0 0, .slice none 0 0, .slice none 0 0] 61)) := b1.trans ((bel_al2 w1 _).mono b1.size)
  have q0 : (w1.alloc (.cells #[.slice none 0 0, .slice none 0 0, .slice none 0 0] 61)).heap[ab]? = some (.cells #[.slice none 0 0, .slice none 0 0, .slice none 0 0] 61 (0, 0)) := by rw [← hab]; exact (MapKept.heap_alloc w1 _).1
  have hal : ab < (w1.alloc (.cells #[.slice none 0 0, .slice none 0 0, .slice none 0 0] 61)).heap.size := by rw [← hab]; simp
  have HF1 := hide (unhide HFA _ hw0)
  clear HWK HFA
  go_wp2_with fail
  have hwa : w.heap.size ≤ ab := by have := b1.size; omega
  clear b1 hab
  refine (unhide HF1).mono ?_
  generalize w1.alloc _ = W0 at *
  rintro e w2 ⟨u0, D0, z0, rfl, hz0, F0, O0, b2⟩
  obtain ⟨a0, c0, rfl⟩ := own_slice O0
  have p2 : w2.heap[ab]? = some (.cells #[.slice none 0 0, .slice none 0 0, .slice none 0 0] 61 (0, 0)) := (b2.block ab hal).trans q0
  have bw2 : Below w.heap.size w w2 := hw0.trans (b2.mono hw0.size)
  have hal2 : ab < w2.heap.size := Nat.lt_of_lt_of_le hal b2.size
  have g0 : w2.cell? ⟨ab, 0, none⟩ = some (.slice none 0 0) := by rw [cell_of_row w2 ab 0 _ _ (0, 0) p2]; rfl
  have f0 : w2.frozen? ⟨ab, 0, none⟩ = false := frozen_of_row w2 ab 0 _ _ p2
  have P1 : (w2.setCell ⟨ab, 0, none⟩ (.slice a0 D0.length c0)).heap[ab]? = some (.cells #[.slice a0 D0.length c0, .slice none 0 0, .slice none 0 0] 61 (0, 0)) := heap_setCell_same w2 ab 0 _ _ _ p2
  have hw1 : Below w.heap.size w (w2.setCell ⟨ab, 0, none⟩ (.slice a0 D0.length c0)) := bw2.setCell (p := ⟨ab, 0, none⟩) hwa _
  have O0a : Um.OwnT W0.heap.size (w2.setCell ⟨ab, 0, none⟩ (.slice a0 D0.length c0)) (.slice a0 D0.length c0) D0 := own_low O0 hal _
  obtain ⟨n0, en0⟩ : ∃ n, W0.heap.size = n := ⟨_, rfl⟩
  rw [en0] at O0a
  have hn0 : ab < n0 := by omega
  have sz0 : n0 ≤ w2.heap.size := by rw [← en0]; exact b2.size
  have halx : ab < (w2.setCell ⟨ab, 0, none⟩ (.slice a0 D0.length c0)).heap.size := by rw [World.size_setCell]; exact hal2
  have HF2 := hide (unhide HFB _ hw1)
  clear p2 bw2 hal2 hal O0 en0 b2 q0 hw0
  have hal := halx
  clear halx
  go_wp2_with fail
  clear g0 f0
  refine (unhide HF2).mono ?_
  generalize w2.setCell _ _ = W1 at *
  rintro e w3 ⟨u1, D1, z1, rfl, hz1, F1, O1, b3⟩
  obtain ⟨a1, c1, rfl⟩ := own_slice O1
  have p3 : w3.heap[ab]? = some (.cells #[.slice a0 D0.length c0, .slice none 0 0, .slice none 0 0] 61 (0, 0)) := (b3.block ab hal).trans P1
  have bw3 : Below w.heap.size w w3 := hw1.trans (b3.mono hw1.size)
  have hal3 : ab < w3.heap.size := Nat.lt_of_lt_of_le hal b3.size
  have g1 : w3.cell? ⟨ab, 1, none⟩ = some (.slice none 0 0) := by rw [cell_of_row w3 ab 1 _ _ (0, 0) p3]; rfl
  have f1 : w3.frozen? ⟨ab, 1, none⟩ = false := frozen_of_row w3 ab 1 _ _ p3
  have P2 : (w3.setCell ⟨ab, 1, none⟩ (.slice a1 D1.length c1)).heap[ab]? = some (.cells #[.slice a0 D0.length c0, .slice a1 D1.length c1, .slice none 0 0] 61 (0, 0)) := heap_setCell_same w3 ab 1 _ _ _ p3
  have hw2 : Below w.heap.size w (w3.setCell ⟨ab, 1, none⟩ (.slice a1 D1.length c1)) := bw3.setCell (p := ⟨ab, 1, none⟩) hwa _
  have O1a : Um.OwnT W1.heap.size (w3.setCell ⟨ab, 1, none⟩ (.slice a1 D1.length c1)) (.slice a1 D1.length c1) D1 := own_low O1 hal _
  have O0b : Um.OwnT n0 (w3.setCell ⟨ab, 1, none⟩ (.slice a1 D1.length c1)) (.slice a0 D0.length c0) D0 := own_low (O0a.below b3) hn0 _
  obtain ⟨n1, en1⟩ : ∃ n, W1.heap.size = n := ⟨_, rfl⟩
  rw [en1] at O1a
  have hn1 : ab < n1 := by omega
  have sz1 : n1 ≤ w3.heap.size := by rw [← en1]; exact b3.size
  have halx : ab < (w3.setCell ⟨ab, 1, none⟩ (.slice a1 D1.length c1)).heap.size := by rw [World.size_setCell]; exact hal3
  have HF3 := hide (unhide HFC _ hw2)
  clear p3 bw3 hal3 hal O1 en1 b3 P1 hw1
  have hal := halx
  clear halx
  go_wp2_with fail
  clear g1 f1
  clear O0a
  refine (unhide HF3).mono ?_
  generalize w3.setCell _ _ = W2 at *
  rintro e w4 ⟨u2, D2, z2, rfl, hz2, F2, O2, b4⟩
  obtain ⟨a2, c2, rfl⟩ := own_slice O2
  have p4 : w4.heap[ab]? = some (.cells #[.slice a0 D0.length c0, .slice a1 D1.length c1, .slice none 0 0] 61 (0, 0)) := (b4.block ab hal).trans P2
  have bw4 : Below w.heap.size w w4 := hw2.trans (b4.mono hw2.size)
  have hal4 : ab < w4.heap.size := Nat.lt_of_lt_of_le hal b4.size
  have g2 : w4.cell? ⟨ab, 2, none⟩ = some (.slice none 0 0) := by rw [cell_of_row w4 ab 2 _ _ (0, 0) p4]; rfl
  have f2 : w4.frozen? ⟨ab, 2, none⟩ = false := frozen_of_row w4 ab 2 _ _ p4
  have P3 : (w4.setCell ⟨ab, 2, none⟩ (.slice a2 D2.length c2)).heap[ab]? = some (.cells #[.slice a0 D0.length c0, .slice a1 D1.length c1, .slice a2 D2.length c2] 61 (0, 0)) := heap_setCell_same w4 ab 2 _ _ _ p4
  have hw3 : Below w.heap.size w (w4.setCell ⟨ab, 2, none⟩ (.slice a2 D2.length c2)) := bw4.setCell (p := ⟨ab, 2, none⟩) hwa _
  have O2a : Um.OwnT W2.heap.size (w4.setCell ⟨ab, 2, none⟩ (.slice a2 D2.length c2)) (.slice a2 D2.length c2) D2 := own_low O2 hal _
  have O0c : Um.OwnT n0 (w4.setCell ⟨ab, 2, none⟩ (.slice a2 D2.length c2)) (.slice a0 D0.length c0) D0 := own_low (O0b.below b4) hn0 _
  have O1b : Um.OwnT n1 (w4.setCell ⟨ab, 2, none⟩ (.slice a2 D2.length c2)) (.slice a1 D1.length c1) D1 := own_low (O1a.below b4) hn1 _
  obtain ⟨n2, en2⟩ : ∃ n, W2.heap.size = n := ⟨_, rfl⟩
  rw [en2] at O2a
  have hn2 : ab < n2 := by omega
  have sz2 : n2 ≤ w4.heap.size := by rw [← en2]; exact b4.size
  have halx : ab < (w4.setCell ⟨ab, 2, none⟩ (.slice a2 D2.length c2)).heap.size := by rw [World.size_setCell]; exact hal4
  clear p4 bw4 hal4 hal O2 en2 b4 P2 hw2 HF1 HF2 HF3 HFB HFC O0b O1a
  have hal := halx
  clear halx
  go_wp2_with fail
  clear g2 f2
  generalize w4.setCell _ _ = wb at *
  have Vb : EnvZ wb E wb.heap.size := ((unhide HV).below hw3).over hw3.size
  have HVB := hide Vb
  have HBW := hide hw3
  have HO0 : Hid (∀ W, Below wb.heap.size wb W → Um.Txs W (.slice a0 D0.length c0) D0) := fun W hW => (O0c.below hW).txs
  have HO1 : Hid (∀ W, Below wb.heap.size wb W → Um.Txs W (.slice a1 D1.length c1) D1) := fun W hW => (O1b.below hW).txs
  have HO2 : Hid (∀ W, Below wb.heap.size wb W → Um.Txs W (.slice a2 D2.length c2) D2) := fun W hW => (O2a.below hW).txs
  have HP : Hid (∀ W, Below wb.heap.size wb W → W.heap[ab]? = some (.cells #[.slice a0 D0.length c0, .slice a1 D1.length c1, .slice a2 D2.length c2] 61 (0, 0))) := fun W hW => (hW.block ab hal).trans P3
  have HF0_ := hide F0
  have HF1_ := hide F1
  have HF2_ := hide F2
  clear F0 F1 F2
  obtain ⟨sb, hsb⟩ : ∃ sb, wb.heap.size = sb := ⟨_, rfl⟩
  have HN1 : Hid (Calls Tryz.prog 9 #[.int .i64 67108864] wb fun e w6 => e = .returned (.pointer (some ⟨sb, 0, none⟩)) ∧ Sep wb [stoT sb (newS 67108864)] (fun _ => w6.heap.size) w6) := by
    have q := sep_new (Sep.nil wb (fun _ => wb.heap.size)) 67108864 (by decide) (by decide)
    rw [hsb] at q
    exact q
  have HN2 : Hid (∀ w6, Sep wb [stoT sb (newS 67108864)] (fun _ => w6.heap.size) w6 → Calls Tryz.prog 9 #[.int .i64 67108864] w6 fun e w7 => e = .returned (.pointer (some ⟨w6.heap.size, 0, none⟩)) ∧ Sep wb [stoT sb (newS 67108864), stoT w6.heap.size (newS 67108864)] (fun _ => w7.heap.size) w7) := fun w6 h => sep_new h 67108864 (by decide) (by decide)
  clear Vb hw3 O0c O1b O2a P3 hal hsb
  refine (unhide HN1).mono ?_
  rintro e w5 ⟨rfl, s5⟩
  have HN3 := hide (unhide HN2 w5 s5)
  clear s5 HN1 HN2
  go_wp2_with fail
  refine (unhide HN3).mono ?_
  rintro e w6 ⟨rfl, s6⟩
  generalize w5.heap.size = tb at *
  obtain ⟨lb, hlb⟩ : ∃ lb, w6.heap.size = lb := ⟨_, rfl⟩
  have s8 := sep_arr_new (sep_arr_new s6)
  rw [World.size_alloc, hlb] at s8
  have P8 := unhide HP _ s8.old
  have y0 := (cell_of_row _ ab 0 _ _ (0, 0) P8)
  have y1 := (cell_of_row _ ab 1 _ _ (0, 0) P8)
  have y2 := (cell_of_row _ ab 2 _ _ (0, 0) P8)
  simp at y0 y1 y2
  have HA0 : Hid (Ag wb sb tb lb (lb + 1) [] [] 0 0 0 0 0 0 0 ((w6.alloc (.cells #[.int .i64 0, .int .i64 0, .int .i64 0] 62)).alloc (.cells #[.int .i64 0, .int .i64 0, .int .i64 0] 62))) := ⟨_, _, s8.reset, Bk.new, Bk.new, Nat.le_refl _, Nat.le_refl _⟩
  clear s6 s8 HN3
  go_wp2
  go_loopw [47] (fun s47 wr => ∃ k : Nat, s47 = .int .i64 (k : Int) ∧ k ≤ 3 ∧ Hid ((k = 0 ∧ Ag wb sb tb lb (lb + 1) [] [] 0 0 0 0 0 0 0 wr) ∨ (k = 1 ∧ ∃ p0 r0 : Nat, Ag wb sb tb lb (lb + 1) [(p0, ofS D0)] [(r0, ofS D0)] (p0 : Nat) 0 0 (r0 : Nat) 0 0 1048833 wr) ∨ (k = 2 ∧ ∃ p0 p1 r0 r1 : Nat, Ag wb sb tb lb (lb + 1) [(p0, ofS D0), (p1, ofS D1)] [(r0, ofS D0), (r1, ofS D1)] (p0 : Nat) (p1 : Nat) 0 (r0 : Nat) (r1 : Nat) 0 2097666 wr) ∨ (k = 3 ∧ ∃ p0 p1 p2 r0 r1 r2 : Nat, Ag wb sb tb lb (lb + 1) [(p0, ofS D0), (p1, ofS D1), (p2, ofS D2)] [(r0, ofS D0), (r1, ofS D1), (r2, ofS D2)] (p0 : Nat) (p1 : Nat) (p2 : Nat) (r0 : Nat) (r1 : Nat) (r2 : Nat) 3146499 wr))) (fun s47 _ => 3 - (intOf s47).toNat)
  case atStart => exact ⟨0, rfl, by omega, .inl ⟨rfl, HA0⟩⟩
  case round =>
    obtain ⟨k, rfl, hk3, HAG⟩ := hrel
    clear HA0 y0 y1 y2 P8 hlb
    rcases unhide HAG with ⟨rfl, ms, mt, s0, kL, kR, m1, m2⟩ | ⟨rfl, p0, r0, ms, mt, s0, kL, kR, m1, m2⟩ | ⟨rfl, p0, p1, r0, r1, ms, mt, s0, kL, kR, m1, m2⟩ | ⟨rfl, p0, p1, p2, r0, r1, r2, ms, mt, s0, kL, kR, m1, m2⟩
    · clear HAG
      have hfl : fz ((([] : List (Nat × List Tx))).map (·.2)).flatten ≤ 4195328 := by simp [fz_nil]
      have HTW := hide (Um.twin_any (.slice a0 D0.length c0) D0 wr (unhide HO0 wr s0.old) (by have := fz_len D0; rw [(unhide HF0_).sum] at this; omega))
      have HS1 : Hid (∀ w7 t, Below wr.heap.size wr w7 → Um.OwnT wr.heap.size w7 t D0 → Calls Tryz.prog 15 #[.pointer (some ⟨sb, 0, none⟩), .int .i64 3, .int .i64 2, t] w7 fun e w' => ∃ m' n, e = .returned (.tuple #[.int .i64 (n : Nat), .nilIface]) ∧ Sep wb [stoT sb m', stoT tb mt, arrT lb 0 0 0, arrT (lb + 1) 0 0 0] (fun _ => w'.heap.size) w' ∧ Bk m' ([] ++ [(n, ofS D0)]) ∧ m'.made ≤ ms.made + 1048833) := fun w7 t b7 ho => bk_sort (i := 0) (b := 3) (fan := 2) (unhide HVB) s0 rfl kL (by omega) hfl (unhide HF0_) hz0 b7 ho (by decide) (by decide) (by decide) (by decide)
      have HTW2 : Hid (∀ w8 m', Sep wb [stoT sb m', stoT tb mt, arrT lb 0 0 0, arrT (lb + 1) 0 0 0] (fun _ => w8.heap.size) w8 → Calls Tryz.prog 16 #[.slice a0 D0.length c0] w8 fun e w9 => ∃ u, e = .returned u ∧ Hid (Calls Tryz.prog 15 #[.pointer (some ⟨tb, 0, none⟩), .int .i64 7, .int .i64 5, u] w9 fun e w' => ∃ m'' n, e = .returned (.tuple #[.int .i64 (n : Nat), .nilIface]) ∧ Sep wb [stoT sb m', stoT tb m'', arrT lb 0 0 0, arrT (lb + 1) 0 0 0] (fun _ => w'.heap.size) w' ∧ Bk m'' ([] ++ [(n, ofS D0)]) ∧ m''.made ≤ mt.made + 1048833)) := fun w8 m' h8 => by
        refine (Um.twin_any (.slice a0 D0.length c0) D0 w8 (unhide HO0 w8 h8.old) (by have := fz_len D0; rw [(unhide HF0_).sum] at this; omega)).mono ?_
        rintro e w9 ⟨u, rfl, ho, b9⟩
        exact ⟨u, rfl, bk_sort (i := 1) (b := 7) (fan := 5) (unhide HVB) h8 rfl kR (by omega) hfl (unhide HF0_) hz0 b9 ho (by decide) (by decide) (by decide) (by decide)⟩
      obtain ⟨S, hS⟩ : ∃ S, strB (Um.frs (Um.rl (ofS D0))) = S := ⟨_, rfl⟩
      have HT1 : Hid (∀ m' m'' n w10, Sep wb [stoT sb m', stoT tb m'', arrT lb 0 0 0, arrT (lb + 1) 0 0 0] (fun _ => w10.heap.size) w10 → Bk m' ([] ++ [(n, ofS D0)]) → Calls Tryz.prog 18 #[.pointer (some ⟨sb, 0, none⟩), .int .i64 (n : Nat)] w10 fun e w' => e = .returned (.string S) ∧ Sep wb [stoT sb m', stoT tb m'', arrT lb 0 0 0, arrT (lb + 1) 0 0 0] (fun _ => w'.heap.size) w') := fun m' m'' n w10 h10 q => by
        rw [← hS]
        exact (sep_text10 (i := 0) (n := n) (unhide HVB) h10 rfl (q.le (T := ofS D0) (by simp)) (q.look (T := ofS D0) (by simp))).mono fun e w' hh => ⟨hh.1, hh.2.reset⟩
      have HT2 : Hid (∀ m' m'' n w10, Sep wb [stoT sb m', stoT tb m'', arrT lb 0 0 0, arrT (lb + 1) 0 0 0] (fun _ => w10.heap.size) w10 → Bk m'' ([] ++ [(n, ofS D0)]) → Calls Tryz.prog 18 #[.pointer (some ⟨tb, 0, none⟩), .int .i64 (n : Nat)] w10 fun e w' => e = .returned (.string S) ∧ Sep wb [stoT sb m', stoT tb m'', arrT lb 0 0 0, arrT (lb + 1) 0 0 0] (fun _ => w'.heap.size) w') := fun m' m'' n w10 h10 q => by
        rw [← hS]
        exact (sep_text10 (i := 1) (n := n) (unhide HVB) h10 rfl (q.le (T := ofS D0) (by simp)) (q.look (T := ofS D0) (by simp))).mono fun e w' hh => ⟨hh.1, hh.2.reset⟩
      have HM1 := hide m1
      have HM2 := hide m2
      clear s0 kL kR hfl hS m1 m2
      go_wp2_with fail
      refine (unhide HTW).mono ?_
      rintro e w7 ⟨t7, rfl, o7, b7⟩
      have HS7 := hide (unhide HS1 w7 t7 b7 o7)
      clear o7 b7 HTW HS1
      go_wp2_with fail
      refine (unhide HS7).mono ?_
      rintro e w8 ⟨m', n, rfl, s8, q8, l8⟩
      have HT8 := hide (unhide HTW2 w8 m' s8)
      have HQ8 := hide q8
      have HL8 := hide l8
      clear s8 q8 l8 HS7 HTW2
      go_wp2_with fail
      refine (unhide HT8).mono ?_
      rintro e w9 ⟨t9, rfl, HS9⟩
      clear HT8
      go_wp2_with fail
      refine (unhide HS9).mono ?_
      rintro e w10 ⟨m'', n', rfl, s10, q10, l10⟩
      have HT10 := hide (unhide HT1 m' m'' n w10 s10 (unhide HQ8))
      have HQ10 := hide q10
      have HL10 := hide l10
      clear s10 q10 l10 HS9 HT1
      go_wp2_with fail
      refine (unhide HT10).mono ?_
      rintro e w11 ⟨rfl, s11⟩
      have HT11 := hide (unhide HT2 m' m'' n' w11 s11 (unhide HQ10))
      clear s11 HT10 HT2
      go_wp2_with fail
      refine (unhide HT11).mono ?_
      rintro e w12 ⟨rfl, s12⟩
      obtain ⟨y0, y1, y2, y3⟩ := sep_arr_get (i := 2) s12 rfl
      have s13 := sep_arr_set (i := 2) s12 rfl 0 (n : Nat) (n : Nat) 0 0 rfl
      obtain ⟨z0, z1, z2, z3⟩ := sep_arr_get (i := 3) s13 rfl
      have s14 := sep_arr_set (i := 3) s13 rfl 0 (n' : Nat) (n' : Nat) 0 0 rfl
      have HAG : Hid (Ag wb sb tb lb (lb + 1) [(n, ofS D0)] [(n', ofS D0)] (n : Nat) 0 0 (n' : Nat) 0 0 1048833 ((w12.setCell ⟨lb, 0, none⟩ (.int .i64 n)).setCell ⟨lb + 1, 0, none⟩ (.int .i64 n'))) := ⟨m', m'', s14.reset, unhide HQ8, unhide HQ10, by have := unhide HM1; have := unhide HL8; omega, by have := unhide HM2; have := unhide HL10; omega⟩
      clear s12 s13 s14 HT11
      go_wp2
      go_roundw
      case rel => exact ⟨1, by simp, by omega, .inr (.inl ⟨rfl, n, n', unhide HAG⟩)⟩
      case measure => simp [intOf]
    · clear HAG
      have d0 := fz_ofS D0
      rw [(unhide HF0_).sum] at d0
      have hfl : fz ((([(p0, ofS D0)] : List (Nat × List Tx))).map (·.2)).flatten ≤ 4195328 := by simp; omega
      have HTW := hide (Um.twin_any (.slice a1 D1.length c1) D1 wr (unhide HO1 wr s0.old) (by have := fz_len D1; rw [(unhide HF1_).sum] at this; omega))
      have HS1 : Hid (∀ w7 t, Below wr.heap.size wr w7 → Um.OwnT wr.heap.size w7 t D1 → Calls Tryz.prog 15 #[.pointer (some ⟨sb, 0, none⟩), .int .i64 3, .int .i64 2, t] w7 fun e w' => ∃ m' n, e = .returned (.tuple #[.int .i64 (n : Nat), .nilIface]) ∧ Sep wb [stoT sb m', stoT tb mt, arrT lb (p0 : Nat) 0 0, arrT (lb + 1) (r0 : Nat) 0 0] (fun _ => w'.heap.size) w' ∧ Bk m' ([(p0, ofS D0)] ++ [(n, ofS D1)]) ∧ m'.made ≤ ms.made + 1048833) := fun w7 t b7 ho => bk_sort (i := 0) (b := 3) (fan := 2) (unhide HVB) s0 rfl kL (by omega) hfl (unhide HF1_) hz1 b7 ho (by decide) (by decide) (by decide) (by decide)
      have HTW2 : Hid (∀ w8 m', Sep wb [stoT sb m', stoT tb mt, arrT lb (p0 : Nat) 0 0, arrT (lb + 1) (r0 : Nat) 0 0] (fun _ => w8.heap.size) w8 → Calls Tryz.prog 16 #[.slice a1 D1.length c1] w8 fun e w9 => ∃ u, e = .returned u ∧ Hid (Calls Tryz.prog 15 #[.pointer (some ⟨tb, 0, none⟩), .int .i64 7, .int .i64 5, u] w9 fun e w' => ∃ m'' n, e = .returned (.tuple #[.int .i64 (n : Nat), .nilIface]) ∧ Sep wb [stoT sb m', stoT tb m'', arrT lb (p0 : Nat) 0 0, arrT (lb + 1) (r0 : Nat) 0 0] (fun _ => w'.heap.size) w' ∧ Bk m'' ([(r0, ofS D0)] ++ [(n, ofS D1)]) ∧ m''.made ≤ mt.made + 1048833)) := fun w8 m' h8 => by
        refine (Um.twin_any (.slice a1 D1.length c1) D1 w8 (unhide HO1 w8 h8.old) (by have := fz_len D1; rw [(unhide HF1_).sum] at this; omega)).mono ?_
        rintro e w9 ⟨u, rfl, ho, b9⟩
        exact ⟨u, rfl, bk_sort (i := 1) (b := 7) (fan := 5) (unhide HVB) h8 rfl kR (by omega) hfl (unhide HF1_) hz1 b9 ho (by decide) (by decide) (by decide) (by decide)⟩
      obtain ⟨S, hS⟩ : ∃ S, strB (Um.frs (Um.rl (ofS D1))) = S := ⟨_, rfl⟩
      have HT1 : Hid (∀ m' m'' n w10, Sep wb [stoT sb m', stoT tb m'', arrT lb (p0 : Nat) 0 0, arrT (lb + 1) (r0 : Nat) 0 0] (fun _ => w10.heap.size) w10 → Bk m' ([(p0, ofS D0)] ++ [(n, ofS D1)]) → Calls Tryz.prog 18 #[.pointer (some ⟨sb, 0, none⟩), .int .i64 (n : Nat)] w10 fun e w' => e = .returned (.string S) ∧ Sep wb [stoT sb m', stoT tb m'', arrT lb (p0 : Nat) 0 0, arrT (lb + 1) (r0 : Nat) 0 0] (fun _ => w'.heap.size) w') := fun m' m'' n w10 h10 q => by
        rw [← hS]
        exact (sep_text10 (i := 0) (n := n) (unhide HVB) h10 rfl (q.le (T := ofS D1) (by simp)) (q.look (T := ofS D1) (by simp))).mono fun e w' hh => ⟨hh.1, hh.2.reset⟩
      have HT2 : Hid (∀ m' m'' n w10, Sep wb [stoT sb m', stoT tb m'', arrT lb (p0 : Nat) 0 0, arrT (lb + 1) (r0 : Nat) 0 0] (fun _ => w10.heap.size) w10 → Bk m'' ([(r0, ofS D0)] ++ [(n, ofS D1)]) → Calls Tryz.prog 18 #[.pointer (some ⟨tb, 0, none⟩), .int .i64 (n : Nat)] w10 fun e w' => e = .returned (.string S) ∧ Sep wb [stoT sb m', stoT tb m'', arrT lb (p0 : Nat) 0 0, arrT (lb + 1) (r0 : Nat) 0 0] (fun _ => w'.heap.size) w') := fun m' m'' n w10 h10 q => by
        rw [← hS]
        exact (sep_text10 (i := 1) (n := n) (unhide HVB) h10 rfl (q.le (T := ofS D1) (by simp)) (q.look (T := ofS D1) (by simp))).mono fun e w' hh => ⟨hh.1, hh.2.reset⟩
      have HM1 := hide m1
      have HM2 := hide m2
      clear s0 kL kR hfl hS m1 m2
      go_wp2_with fail
      refine (unhide HTW).mono ?_
      rintro e w7 ⟨t7, rfl, o7, b7⟩
      have HS7 := hide (unhide HS1 w7 t7 b7 o7)
      clear o7 b7 HTW HS1
      go_wp2_with fail
      refine (unhide HS7).mono ?_
      rintro e w8 ⟨m', n, rfl, s8, q8, l8⟩
      have HT8 := hide (unhide HTW2 w8 m' s8)
      have HQ8 := hide q8
      have HL8 := hide l8
      clear s8 q8 l8 HS7 HTW2
      go_wp2_with fail
      refine (unhide HT8).mono ?_
      rintro e w9 ⟨t9, rfl, HS9⟩
      clear HT8
      go_wp2_with fail
      refine (unhide HS9).mono ?_
      rintro e w10 ⟨m'', n', rfl, s10, q10, l10⟩
      have HT10 := hide (unhide HT1 m' m'' n w10 s10 (unhide HQ8))
      have HQ10 := hide q10
      have HL10 := hide l10
      clear s10 q10 l10 HS9 HT1
      go_wp2_with fail
      refine (unhide HT10).mono ?_
      rintro e w11 ⟨rfl, s11⟩
      have HT11 := hide (unhide HT2 m' m'' n' w11 s11 (unhide HQ10))
      clear s11 HT10 HT2
      go_wp2_with fail
      refine (unhide HT11).mono ?_
      rintro e w12 ⟨rfl, s12⟩
      obtain ⟨y0, y1, y2, y3⟩ := sep_arr_get (i := 2) s12 rfl
      have s13 := sep_arr_set (i := 2) s12 rfl 1 (n : Nat) (p0 : Nat) (n : Nat) 0 rfl
      obtain ⟨z0, z1, z2, z3⟩ := sep_arr_get (i := 3) s13 rfl
      have s14 := sep_arr_set (i := 3) s13 rfl 1 (n' : Nat) (r0 : Nat) (n' : Nat) 0 rfl
      have HAG : Hid (Ag wb sb tb lb (lb + 1) [(p0, ofS D0), (n, ofS D1)] [(r0, ofS D0), (n', ofS D1)] (p0 : Nat) (n : Nat) 0 (r0 : Nat) (n' : Nat) 0 2097666 ((w12.setCell ⟨lb, 1, none⟩ (.int .i64 n)).setCell ⟨lb + 1, 1, none⟩ (.int .i64 n'))) := ⟨m', m'', s14.reset, unhide HQ8, unhide HQ10, by have := unhide HM1; have := unhide HL8; omega, by have := unhide HM2; have := unhide HL10; omega⟩
      clear s12 s13 s14 HT11
      go_wp2
      go_roundw
      case rel => exact ⟨2, by simp, by omega, .inr (.inr (.inl ⟨rfl, p0, n, r0, n', unhide HAG⟩))⟩
      case measure => simp [intOf]
    · clear HAG
      have d0 := fz_ofS D0
      rw [(unhide HF0_).sum] at d0
      have d1 := fz_ofS D1
      rw [(unhide HF1_).sum] at d1
      have hfl : fz ((([(p0, ofS D0), (p1, ofS D1)] : List (Nat × List Tx))).map (·.2)).flatten ≤ 4195328 := by simp [fz_app]; omega
      have HTW := hide (Um.twin_any (.slice a2 D2.length c2) D2 wr (unhide HO2 wr s0.old) (by have := fz_len D2; rw [(unhide HF2_).sum] at this; omega))
      have HS1 : Hid (∀ w7 t, Below wr.heap.size wr w7 → Um.OwnT wr.heap.size w7 t D2 → Calls Tryz.prog 15 #[.pointer (some ⟨sb, 0, none⟩), .int .i64 3, .int .i64 2, t] w7 fun e w' => ∃ m' n, e = .returned (.tuple #[.int .i64 (n : Nat), .nilIface]) ∧ Sep wb [stoT sb m', stoT tb mt, arrT lb (p0 : Nat) (p1 : Nat) 0, arrT (lb + 1) (r0 : Nat) (r1 : Nat) 0] (fun _ => w'.heap.size) w' ∧ Bk m' ([(p0, ofS D0), (p1, ofS D1)] ++ [(n, ofS D2)]) ∧ m'.made ≤ ms.made + 1048833) := fun w7 t b7 ho => bk_sort (i := 0) (b := 3) (fan := 2) (unhide HVB) s0 rfl kL (by omega) hfl (unhide HF2_) hz2 b7 ho (by decide) (by decide) (by decide) (by decide)
      have HTW2 : Hid (∀ w8 m', Sep wb [stoT sb m', stoT tb mt, arrT lb (p0 : Nat) (p1 : Nat) 0, arrT (lb + 1) (r0 : Nat) (r1 : Nat) 0] (fun _ => w8.heap.size) w8 → Calls Tryz.prog 16 #[.slice a2 D2.length c2] w8 fun e w9 => ∃ u, e = .returned u ∧ Hid (Calls Tryz.prog 15 #[.pointer (some ⟨tb, 0, none⟩), .int .i64 7, .int .i64 5, u] w9 fun e w' => ∃ m'' n, e = .returned (.tuple #[.int .i64 (n : Nat), .nilIface]) ∧ Sep wb [stoT sb m', stoT tb m'', arrT lb (p0 : Nat) (p1 : Nat) 0, arrT (lb + 1) (r0 : Nat) (r1 : Nat) 0] (fun _ => w'.heap.size) w' ∧ Bk m'' ([(r0, ofS D0), (r1, ofS D1)] ++ [(n, ofS D2)]) ∧ m''.made ≤ mt.made + 1048833)) := fun w8 m' h8 => by
        refine (Um.twin_any (.slice a2 D2.length c2) D2 w8 (unhide HO2 w8 h8.old) (by have := fz_len D2; rw [(unhide HF2_).sum] at this; omega)).mono ?_
        rintro e w9 ⟨u, rfl, ho, b9⟩
        exact ⟨u, rfl, bk_sort (i := 1) (b := 7) (fan := 5) (unhide HVB) h8 rfl kR (by omega) hfl (unhide HF2_) hz2 b9 ho (by decide) (by decide) (by decide) (by decide)⟩
      obtain ⟨S, hS⟩ : ∃ S, strB (Um.frs (Um.rl (ofS D2))) = S := ⟨_, rfl⟩
      have HT1 : Hid (∀ m' m'' n w10, Sep wb [stoT sb m', stoT tb m'', arrT lb (p0 : Nat) (p1 : Nat) 0, arrT (lb + 1) (r0 : Nat) (r1 : Nat) 0] (fun _ => w10.heap.size) w10 → Bk m' ([(p0, ofS D0), (p1, ofS D1)] ++ [(n, ofS D2)]) → Calls Tryz.prog 18 #[.pointer (some ⟨sb, 0, none⟩), .int .i64 (n : Nat)] w10 fun e w' => e = .returned (.string S) ∧ Sep wb [stoT sb m', stoT tb m'', arrT lb (p0 : Nat) (p1 : Nat) 0, arrT (lb + 1) (r0 : Nat) (r1 : Nat) 0] (fun _ => w'.heap.size) w') := fun m' m'' n w10 h10 q => by
        rw [← hS]
        exact (sep_text10 (i := 0) (n := n) (unhide HVB) h10 rfl (q.le (T := ofS D2) (by simp)) (q.look (T := ofS D2) (by simp))).mono fun e w' hh => ⟨hh.1, hh.2.reset⟩
      have HT2 : Hid (∀ m' m'' n w10, Sep wb [stoT sb m', stoT tb m'', arrT lb (p0 : Nat) (p1 : Nat) 0, arrT (lb + 1) (r0 : Nat) (r1 : Nat) 0] (fun _ => w10.heap.size) w10 → Bk m'' ([(r0, ofS D0), (r1, ofS D1)] ++ [(n, ofS D2)]) → Calls Tryz.prog 18 #[.pointer (some ⟨tb, 0, none⟩), .int .i64 (n : Nat)] w10 fun e w' => e = .returned (.string S) ∧ Sep wb [stoT sb m', stoT tb m'', arrT lb (p0 : Nat) (p1 : Nat) 0, arrT (lb + 1) (r0 : Nat) (r1 : Nat) 0] (fun _ => w'.heap.size) w') := fun m' m'' n w10 h10 q => by
        rw [← hS]
        exact (sep_text10 (i := 1) (n := n) (unhide HVB) h10 rfl (q.le (T := ofS D2) (by simp)) (q.look (T := ofS D2) (by simp))).mono fun e w' hh => ⟨hh.1, hh.2.reset⟩
      have HM1 := hide m1
      have HM2 := hide m2
      clear s0 kL kR hfl hS m1 m2
      go_wp2_with fail
      refine (unhide HTW).mono ?_
      rintro e w7 ⟨t7, rfl, o7, b7⟩
      have HS7 := hide (unhide HS1 w7 t7 b7 o7)
      clear o7 b7 HTW HS1
      go_wp2_with fail
      refine (unhide HS7).mono ?_
      rintro e w8 ⟨m', n, rfl, s8, q8, l8⟩
      have HT8 := hide (unhide HTW2 w8 m' s8)
      have HQ8 := hide q8
      have HL8 := hide l8
      clear s8 q8 l8 HS7 HTW2
      go_wp2_with fail
      refine (unhide HT8).mono ?_
      rintro e w9 ⟨t9, rfl, HS9⟩
      clear HT8
      go_wp2_with fail
      refine (unhide HS9).mono ?_
      rintro e w10 ⟨m'', n', rfl, s10, q10, l10⟩
      have HT10 := hide (unhide HT1 m' m'' n w10 s10 (unhide HQ8))
      have HQ10 := hide q10
      have HL10 := hide l10
      clear s10 q10 l10 HS9 HT1
      go_wp2_with fail
      refine (unhide HT10).mono ?_
      rintro e w11 ⟨rfl, s11⟩
      have HT11 := hide (unhide HT2 m' m'' n' w11 s11 (unhide HQ10))
      clear s11 HT10 HT2
      go_wp2_with fail
      refine (unhide HT11).mono ?_
      rintro e w12 ⟨rfl, s12⟩
      obtain ⟨y0, y1, y2, y3⟩ := sep_arr_get (i := 2) s12 rfl
      have s13 := sep_arr_set (i := 2) s12 rfl 2 (n : Nat) (p0 : Nat) (p1 : Nat) (n : Nat) rfl
      obtain ⟨z0, z1, z2, z3⟩ := sep_arr_get (i := 3) s13 rfl
      have s14 := sep_arr_set (i := 3) s13 rfl 2 (n' : Nat) (r0 : Nat) (r1 : Nat) (n' : Nat) rfl
      have HAG : Hid (Ag wb sb tb lb (lb + 1) [(p0, ofS D0), (p1, ofS D1), (n, ofS D2)] [(r0, ofS D0), (r1, ofS D1), (n', ofS D2)] (p0 : Nat) (p1 : Nat) (n : Nat) (r0 : Nat) (r1 : Nat) (n' : Nat) 3146499 ((w12.setCell ⟨lb, 2, none⟩ (.int .i64 n)).setCell ⟨lb + 1, 2, none⟩ (.int .i64 n'))) := ⟨m', m'', s14.reset, unhide HQ8, unhide HQ10, by have := unhide HM1; have := unhide HL8; omega, by have := unhide HM2; have := unhide HL10; omega⟩
      clear s12 s13 s14 HT11
      go_wp2
      go_roundw
      case rel => exact ⟨3, by simp, by omega, .inr (.inr (.inr (⟨rfl, p0, p1, n, r0, r1, n', unhide HAG⟩)))⟩
      case measure => simp [intOf]
    · clear HAG
      have d0 := fz_ofS D0
      rw [(unhide HF0_).sum] at d0
      have d1 := fz_ofS D1
      rw [(unhide HF1_).sum] at d1
      have d2 := fz_ofS D2
      rw [(unhide HF2_).sum] at d2
      obtain ⟨ms', nw, e1, q1, l1, K1⟩ := kL.three (by omega) ⟨by omega, by omega, by omega⟩
      obtain ⟨mt', nh, e2, q2, l2, K2⟩ := kR.back (by omega) ⟨by omega, by omega, by omega⟩
      have d3 := fz_ofS (ofS D2 ++ ofS D1)
      rw [fz_app] at d3
      obtain ⟨mt'', no, e3, q3, l3, K3⟩ := K2.pair (by omega) ⟨by omega, by omega⟩
      rw [ofS_again] at K3
      have HM1 : Hid (Calls Tryz.prog 28 #[.pointer (some ⟨sb, 0, none⟩), .int .i64 3, .slice (some ⟨wr.heap.size, 0, none⟩) 3 3] (wr.alloc (.cells #[.int .i64 p0, .int .i64 p1, .int .i64 p2] 3)) fun e w' => e = .returned (.tuple #[.int .i64 nw, .nilIface]) ∧ Sep wb [stoT sb ms', stoT tb mt, arrT lb (p0 : Nat) (p1 : Nat) (p2 : Nat), arrT (lb + 1) (r0 : Nat) (r1 : Nat) (r2 : Nat)] (fun _ => w'.heap.size) w') :=
        sep_merge (i := 0) (fan := 3) (ks := [p0, p1, p2]) (unhide HVB) (s0.below (bel_al2 wr _)) rfl (nums_new wr (zs [p0, p1, p2])) q1 (by decide) (by decide) (by simp) e1
      have HM2 : Hid (∀ w7, Sep wb [stoT sb ms', stoT tb mt, arrT lb (p0 : Nat) (p1 : Nat) (p2 : Nat), arrT (lb + 1) (r0 : Nat) (r1 : Nat) (r2 : Nat)] (fun _ => w7.heap.size) w7 → Calls Tryz.prog 28 #[.pointer (some ⟨tb, 0, none⟩), .int .i64 2, .slice (some ⟨w7.heap.size, 0, none⟩) 2 2] (w7.alloc (.cells #[.int .i64 r2, .int .i64 r1] 3)) fun e w' => e = .returned (.tuple #[.int .i64 nh, .nilIface]) ∧ Sep wb [stoT sb ms', stoT tb mt', arrT lb (p0 : Nat) (p1 : Nat) (p2 : Nat), arrT (lb + 1) (r0 : Nat) (r1 : Nat) (r2 : Nat)] (fun _ => w'.heap.size) w') := fun w7 h =>
        sep_merge (i := 1) (fan := 2) (ks := [r2, r1]) (unhide HVB) (h.below (bel_al2 w7 _)) rfl (nums_new w7 (zs [r2, r1])) q2 (by decide) (by decide) (by simp) e2
      have HM3 : Hid (∀ w8, Sep wb [stoT sb ms', stoT tb mt', arrT lb (p0 : Nat) (p1 : Nat) (p2 : Nat), arrT (lb + 1) (r0 : Nat) (r1 : Nat) (r2 : Nat)] (fun _ => w8.heap.size) w8 → Calls Tryz.prog 28 #[.pointer (some ⟨tb, 0, none⟩), .int .i64 2, .slice (some ⟨w8.heap.size, 0, none⟩) 2 2] (w8.alloc (.cells #[.int .i64 nh, .int .i64 r0] 3)) fun e w' => e = .returned (.tuple #[.int .i64 no, .nilIface]) ∧ Sep wb [stoT sb ms', stoT tb mt'', arrT lb (p0 : Nat) (p1 : Nat) (p2 : Nat), arrT (lb + 1) (r0 : Nat) (r1 : Nat) (r2 : Nat)] (fun _ => w'.heap.size) w') := fun w8 h =>
        sep_merge (i := 1) (fan := 2) (ks := [nh, r0]) (unhide HVB) (h.below (bel_al2 w8 _)) rfl (nums_new w8 (zs [nh, r0])) q3 (by decide) (by decide) (by simp) e3
      obtain ⟨S, hS⟩ : ∃ S, strB (Um.frs (Um.rl (ofS (ofS D0 ++ (ofS D1 ++ ofS D2))))) = S := ⟨_, rfl⟩
      have HT1 : Hid (∀ w9, Sep wb [stoT sb ms', stoT tb mt'', arrT lb (p0 : Nat) (p1 : Nat) (p2 : Nat), arrT (lb + 1) (r0 : Nat) (r1 : Nat) (r2 : Nat)] (fun _ => w9.heap.size) w9 → Calls Tryz.prog 18 #[.pointer (some ⟨sb, 0, none⟩), .int .i64 nw] w9 fun e w' => e = .returned (.string S) ∧ Sep wb [stoT sb ms', stoT tb mt'', arrT lb (p0 : Nat) (p1 : Nat) (p2 : Nat), arrT (lb + 1) (r0 : Nat) (r1 : Nat) (r2 : Nat)] (fun _ => w'.heap.size) w') := fun w9 h => by
        rw [← hS]
        exact (sep_text10 (i := 0) (n := nw) (unhide HVB) h rfl (K1.le (List.mem_singleton.2 rfl)) (K1.look (List.mem_singleton.2 rfl))).mono fun e w' hh => ⟨hh.1, hh.2.reset⟩
      have HT2 : Hid (∀ w9, Sep wb [stoT sb ms', stoT tb mt'', arrT lb (p0 : Nat) (p1 : Nat) (p2 : Nat), arrT (lb + 1) (r0 : Nat) (r1 : Nat) (r2 : Nat)] (fun _ => w9.heap.size) w9 → Calls Tryz.prog 18 #[.pointer (some ⟨tb, 0, none⟩), .int .i64 no] w9 fun e w' => e = .returned (.string S) ∧ Sep wb [stoT sb ms', stoT tb mt'', arrT lb (p0 : Nat) (p1 : Nat) (p2 : Nat), arrT (lb + 1) (r0 : Nat) (r1 : Nat) (r2 : Nat)] (fun _ => w'.heap.size) w') := fun w9 h => by
        rw [← hS]
        exact (sep_text10 (i := 1) (n := no) (unhide HVB) h rfl (K3.le (List.mem_singleton.2 rfl)) (K3.look (List.mem_singleton.2 rfl))).mono fun e w' hh => ⟨hh.1, hh.2.reset⟩
      have HM4 : Hid (∀ w11, Sep wb [stoT sb ms', stoT tb mt'', arrT lb (p0 : Nat) (p1 : Nat) (p2 : Nat), arrT (lb + 1) (r0 : Nat) (r1 : Nat) (r2 : Nat)] (fun _ => w11.heap.size) w11 → Calls Tryz.prog 28 #[.pointer (some ⟨sb, 0, none⟩), .int .i64 2, .slice (some ⟨w11.heap.size, 0, none⟩) 1 1] (w11.alloc (.cells #[.int .i64 nw] 3)) fun e w' => e = .returned (.tuple #[.int .i64 nw, .nilIface]) ∧ Sep wb [stoT sb ms', stoT tb mt'', arrT lb (p0 : Nat) (p1 : Nat) (p2 : Nat), arrT (lb + 1) (r0 : Nat) (r1 : Nat) (r2 : Nat)] (fun _ => w'.heap.size) w') := fun w11 h =>
        sep_merge (i := 0) (fan := 2) (ks := [nw]) (st := fun _ => ofS (ofS D0 ++ (ofS D1 ++ ofS D2))) (unhide HVB) (h.below (bel_al2 w11 _)) rfl (nums_new w11 (zs [nw])) ⟨fun k hk => by rw [List.mem_singleton.1 hk]; exact K1.std (List.mem_singleton.2 rfl), by simp⟩ (by decide) (by decide) (by simp) (mrg_one 2 ms' _ nw)
      have HL1 : Hid (∀ w12, Sep wb [stoT sb ms', stoT tb mt'', arrT lb (p0 : Nat) (p1 : Nat) (p2 : Nat), arrT (lb + 1) (r0 : Nat) (r1 : Nat) (r2 : Nat)] (fun _ => w12.heap.size) w12 → Calls Tryz.prog 20 #[.pointer (some ⟨sb, 0, none⟩)] w12 fun e w' => ∃ a c, e = .returned (.slice a 1 c) ∧ Sep wb [stoT sb ms', stoT tb mt'', arrT lb (p0 : Nat) (p1 : Nat) (p2 : Nat), arrT (lb + 1) (r0 : Nat) (r1 : Nat) (r2 : Nat)] (fun _ => w'.heap.size) w') := fun w12 h => by
        have q := sep_live10 (i := 0) h rfl
        rw [K1.runs] at q
        exact q.mono fun e w' ⟨a, c, hh, h2⟩ => ⟨a, c, hh, h2.reset⟩
      have HL2 : Hid (∀ w12, Sep wb [stoT sb ms', stoT tb mt'', arrT lb (p0 : Nat) (p1 : Nat) (p2 : Nat), arrT (lb + 1) (r0 : Nat) (r1 : Nat) (r2 : Nat)] (fun _ => w12.heap.size) w12 → Calls Tryz.prog 20 #[.pointer (some ⟨tb, 0, none⟩)] w12 fun e w' => ∃ a c, e = .returned (.slice a 1 c) ∧ Sep wb [stoT sb ms', stoT tb mt'', arrT lb (p0 : Nat) (p1 : Nat) (p2 : Nat), arrT (lb + 1) (r0 : Nat) (r1 : Nat) (r2 : Nat)] (fun _ => w'.heap.size) w') := fun w12 h => by
        have q := sep_live10 (i := 1) h rfl
        rw [K3.runs] at q
        exact q.mono fun e w' ⟨a, c, hh, h2⟩ => ⟨a, c, hh, h2.reset⟩
      obtain ⟨y0, y1, y2, -⟩ := sep_arr_get (i := 2) s0 rfl
      clear s0 kL kR hS K1 K2 K3 e1 e2 e3 q1 q2 q3 l1 l2 l3 m1 m2 d0 d1 d2 d3
      go_wp2_with fail
      refine (unhide HM1).mono ?_
      rintro e w7 ⟨rfl, s7⟩
      obtain ⟨-, z1, z2, -⟩ := sep_arr_get (i := 3) s7 rfl
      have HM5 := hide (unhide HM2 w7 s7)
      clear s7 HM1 HM2 y0 y1 y2
      go_wp2_with fail
      refine (unhide HM5).mono ?_
      rintro e w8 ⟨rfl, s8⟩
      obtain ⟨z0, -⟩ := sep_arr_get (i := 3) s8 rfl
      have HM6 := hide (unhide HM3 w8 s8)
      clear s8 HM5 HM3 z1 z2
      go_wp2_with fail
      refine (unhide HM6).mono ?_
      rintro e w9 ⟨rfl, s9⟩
      have HT3 := hide (unhide HT1 w9 s9)
      clear s9 HM6 HT1 z0
      go_wp2_with fail
      refine (unhide HT3).mono ?_
      rintro e w10 ⟨rfl, s10⟩
      have HT4 := hide (unhide HT2 w10 s10)
      clear s10 HT3 HT2
      go_wp2_with fail
      refine (unhide HT4).mono ?_
      rintro e w11 ⟨rfl, s11⟩
      have HM7 := hide (unhide HM4 w11 s11)
      clear s11 HT4 HM4
      go_wp2_with fail
      refine (unhide HM7).mono ?_
      rintro e w12 ⟨rfl, s12⟩
      have HL3 := hide (unhide HL1 w12 s12)
      clear s12 HM7 HL1
      go_wp2_with fail
      refine (unhide HL3).mono ?_
      rintro e w13 ⟨a13, c13, rfl, s13⟩
      have HL4 := hide (unhide HL2 w13 s13)
      clear s13 HL3 HL2
      go_wp2_with fail
      refine (unhide HL4).mono ?_
      rintro e w14 ⟨a14, c14, rfl, s14⟩
      have HB14 := hide s14.old
      clear s14 HL4
      go_wp2
      go_ret
      exact ⟨by simp, (unhide HBW).trans ((unhide HB14).mono (unhide HBW).size)⟩
end Rs
end Go.Proofs.YtohfhkdhccpoaaaGreatDoor
