/- Layer 8: the walk of StreamsAlgebra. -/
import Derived.Deep.RegionHeld3
import Derived.Laws.EntriesVeiled
import Derived.Test.YtamlfmohalkemaaZw
namespace Go.Proofs.Ytamlfmohalkemaa
open Go.RowKit Go.Shelf
namespace Sm

theorem gen_calls {P : Program} {f : FuncId} {args : Array Value} {W : World} {R : Ending → World → Prop} (h : ∀ V, V = W → Calls P f args V R) : Calls P f args W R := h W rfl
set_option maxRecDepth 100000 in
set_option maxHeartbeats 16000000 in
theorem algebra_walk {w : World} {va vb vc : Value} {A B C : List Tx} (h : RowAt w va A w.heap.size) (k : RowAt w vb B w.heap.size) (l : RowAt w vc C w.heap.size) (hz : A.length ≤ 1048576) (kz : B.length ≤ 1048576) (lz : C.length ≤ 1048576) :
    Calls Try.prog 5 #[va, vb, vc] w fun e w' => e = .returned (.bool true) ∧ Below w.heap.size w w' := by
  have H := hide h
  have K := hide k
  have L := hide l
  obtain ⟨ao, cA, rfl, -⟩ := h
  obtain ⟨bo, cB, rfl, -⟩ := k
  obtain ⟨co, cC, rfl, -⟩ := l
  go_enter Try.func5, Try.ntmps5
  go_wp2_with fail
  refine (wakes_true w).mono ?_
  rintro e w1 ⟨rfl, b1⟩
  have s1 := b1.size
  have HF1 := hide b1
  clear b1
  go_wp2_with fail
  refine (twin_any (((unhide H).below (unhide HF1)).mono s1) (by omega)).mono ?_
  rintro e w2 ⟨a2, c2, rfl, ho2, hn2, hb2⟩
  have s2 : w.heap.size ≤ w2.heap.size := Nat.le_trans s1 hb2.size
  have HF2 := hide (⟨ho2, (unhide HF1).trans (hb2.mono s1), hb2⟩ : _ ∧ _ ∧ _)
  clear ho2 hn2 hb2
  go_wp2_with fail
  refine (of_any (own_row (unhide HF2).1) (by omega)).mono ?_
  rintro e w3 ⟨g3, m3, rfl, hw3, hb3⟩
  have s3 : w.heap.size ≤ w3.heap.size := Nat.le_trans s2 hb3.size
  have S3 : Hid (Sts w3 (.func (.func g3) #[] m3) (ofS A)) := (St.new hw3 (ofS_rs A) (by have := ofS_len A; omega)).s
  have HF3 : Hid (Below w.heap.size w w3) := (unhide HF2).2.1.trans (hb3.mono s2)
  have HG3 : Hid (Below w1.heap.size w1 w3) := (unhide HF2).2.2.trans (hb3.mono (unhide HF2).2.2.size)
  clear hw3 hb3 HF2
  go_wp2_with fail
  refine (twin_any (((unhide K).below (unhide HF3)).mono s3) (by omega)).mono ?_
  rintro e w4 ⟨a4, c4, rfl, ho4, hn4, hb4⟩
  have s4 : w.heap.size ≤ w4.heap.size := Nat.le_trans s3 hb4.size
  have HF4 := hide (⟨ho4, (unhide HF3).trans (hb4.mono s3), hb4⟩ : _ ∧ _ ∧ _)
  clear ho4 hn4 hb4
  go_wp2_with fail
  refine (of_any (own_row (unhide HF4).1) (by omega)).mono ?_
  rintro e w5 ⟨g5, m5, rfl, hw5, hb5⟩
  have s5 : w.heap.size ≤ w5.heap.size := Nat.le_trans s4 hb5.size
  have S5 : Hid (Sts w5 (.func (.func g5) #[] m5) (ofS B)) := (St.new hw5 (ofS_rs B) (by have := ofS_len B; omega)).s
  have HF5 : Hid (Below w.heap.size w w5) := (unhide HF4).2.1.trans (hb5.mono s4)
  have HG5 : Hid (Below w3.heap.size w3 w5) := (unhide HF4).2.2.trans (hb5.mono (unhide HF4).2.2.size)
  clear hw5 hb5 HF4
  go_wp2_with fail
  refine (twin_any (((unhide L).below (unhide HF5)).mono s5) (by omega)).mono ?_
  rintro e w6 ⟨a6, c6, rfl, ho6, hn6, hb6⟩
  have s6 : w.heap.size ≤ w6.heap.size := Nat.le_trans s5 hb6.size
  have HF6 := hide (⟨ho6, (unhide HF5).trans (hb6.mono s5), hb6⟩ : _ ∧ _ ∧ _)
  clear ho6 hn6 hb6
  go_wp2_with fail
  refine (of_any (own_row (unhide HF6).1) (by omega)).mono ?_
  rintro e w7 ⟨g7, m7, rfl, hw7, hb7⟩
  have s7 : w.heap.size ≤ w7.heap.size := Nat.le_trans s6 hb7.size
  have S7 : Hid (Sts w7 (.func (.func g7) #[] m7) (ofS C)) := (St.new hw7 (ofS_rs C) (by have := ofS_len C; omega)).s
  have HF7 : Hid (Below w.heap.size w w7) := (unhide HF6).2.1.trans (hb7.mono s6)
  have HG7 : Hid (Below w5.heap.size w5 w7) := (unhide HF6).2.2.trans (hb7.mono (unhide HF6).2.2.size)
  clear hw7 hb7 HF6
  go_wp2_with fail
  refine gen_calls ?_
  intro V hV
  have x3 : Boxed V w7.heap.size 27 (.func (.func g3) #[] m3) := by rw [hV]; exact ((Boxed.new w7 _ _).alloc _).alloc _
  have x5 : Boxed V (w7.heap.size + 1) 27 (.func (.func g5) #[] m5) := by
    have := (Boxed.new (w7.alloc (.cells #[.func (.func g3) #[] m3] 27)) 27 (.func (.func g5) #[] m5)).alloc (.cells #[.func (.func g7) #[] m7] 27)
    rw [World.size_alloc] at this
    rw [hV]; exact this
  have x7 : Boxed V (w7.heap.size + 1 + 1) 27 (.func (.func g7) #[] m7) := by
    have := Boxed.new ((w7.alloc (.cells #[.func (.func g3) #[] m3] 27)).alloc (.cells #[.func (.func g5) #[] m5] 27)) 27 (.func (.func g7) #[] m7)
    rw [World.size_alloc, World.size_alloc] at this
    rw [hV]; exact this
  have bV : Below w7.heap.size w7 V := by rw [hV]; (repeat (first | exact Below.refl _ _ | refine Below.drew ?_ | refine Below.alloc ?_ (by first | (simp; done) | (simp; omega)) _ | refine Below.setCell ?_ (by first | (simp; done) | (simp; omega)) _))
  clear hV
  have z3 : St V (.func (.func g3) #[] m3) (ofS A) := unhide S3 V ((unhide HG5).trans (((unhide HG7).trans (bV.mono (unhide HG7).size)).mono (unhide HG5).size))
  have z5 : St V (.func (.func g5) #[] m5) (ofS B) := unhide S5 V ((unhide HG7).trans (bV.mono (unhide HG7).size))
  have z7 : St V (.func (.func g7) #[] m7) (ofS C) := unhide S7 V bV
  have y3 := ofS_len A
  have y5 := ofS_len B
  have y7 := ofS_len C
  have HV : Hid (Below w.heap.size w V) := (unhide HF7).trans (bV.mono s7)
  clear S3 S5 S7 HG3 HG5 HG7 HF1 HF3 HF5 HF7 H K L bV
  generalize ofS A = LA at *
  generalize ofS B = LB at *
  generalize ofS C = LC at *
  refine z3.all.mono ?_
  rintro e w8 ⟨a8, c8, rfl, ho8, hb8⟩
  have B0 : Hid (Below w.heap.size w w8) := (unhide HV).trans (hb8.mono (unhide HV).size)
  have SA := hide (z3.below hb8).s
  have SB := hide (z5.below hb8).s
  have SC := hide (z7.below hb8).s
  have RW : Hid (∀ W, Below w8.heap.size w8 W → RowAt W (.slice a8 LA.length c8) LA W.heap.size) := fun W hW => own_row (ho8.below hW)
  have X3 := bx_below x3 hb8 x3.lt
  have X5 := bx_below x5 hb8 x5.lt
  have X7 := bx_below x7 hb8 x7.lt
  have l3 := X3.lt
  have HS : Hid (∀ W, Below w8.heap.size w8 W → W.cell? ⟨w7.heap.size, 0, none⟩ = some (.func (.func g3) #[] m3) ∧ W.cell? ⟨w7.heap.size + 1, 0, none⟩ = some (.func (.func g5) #[] m5) ∧ W.cell? ⟨w7.heap.size + 1 + 1, 0, none⟩ = some (.func (.func g7) #[] m7)) := fun W hW => ⟨(bx_below X3 hW X3.lt).cell, (bx_below X5 hW X5.lt).cell, (bx_below X7 hW X7.lt).cell⟩
  have rA := z3.rs
  have rB := z5.rs
  have rC := z7.rs
  have EW := hide (al_whole (B := LB) rA)
  have hcnt : ((ofS (LA ++ LB)).length : Int) + ((agn LB true LA).length : Int) = (LA.length : Int) + (LB.length : Int) := by have := al_count rA rB; omega
  have hn1 : (ofS (LA ++ LB)).length ≤ 2097152 := by have := ofS_len (LA ++ LB); rw [List.length_append] at this; omega
  have hn2 : (agn LB true LA).length ≤ 1048576 := by have := agn_len LB LA true; omega
  have hn3 : (agn LB false LA).length ≤ 1048576 := by have := agn_len LB LA false; omega
  have EM := hide (al_minus (B := LB) (C := LC) rA)
  have EC := hide (al_common (B := LB) (C := LC) rA)
  have hzA : LA.length ≤ 1048576 := by omega
  have hzB : LB.length ≤ 1048576 := by omega
  have hzC : LC.length ≤ 1048576 := by omega
  clear z3 z5 z7 x3 x5 x7 hb8 ho8 HV X3 X5 X7 rA rB rC hz kz lz y3 y5 y7
  go_wp2_with fail
  go_region_held3 (fun w' => w'.cell? ⟨w7.heap.size, 0, none⟩ = some (.func (.func g3) #[] m3) ∧ w'.cell? ⟨w7.heap.size + 1, 0, none⟩ = some (.func (.func g5) #[] m5) ∧ w'.cell? ⟨w7.heap.size + 1 + 1, 0, none⟩ = some (.func (.func g7) #[] m7))
    (first | exact k18 | exact unhide HS _ ((unhide B18).alloc (unhide B18).size _) | exact k17 | exact unhide HS _ ((unhide B17).alloc (unhide B17).size _) | exact k16 | exact unhide HS _ ((unhide B16).alloc (unhide B16).size _) | exact k15 | exact unhide HS _ ((unhide B15).alloc (unhide B15).size _) | exact k14 | exact unhide HS _ ((unhide B14).alloc (unhide B14).size _) | exact k13 | exact unhide HS _ ((unhide B13).alloc (unhide B13).size _) | exact k12 | exact unhide HS _ ((unhide B12).alloc (unhide B12).size _) | exact k11 | exact unhide HS _ ((unhide B11).alloc (unhide B11).size _) | exact k10 | exact unhide HS _ ((unhide B10).alloc (unhide B10).size _) | exact k9 | exact unhide HS _ ((unhide B9).alloc (unhide B9).size _) | exact unhide HS _ (Below.refl _ w8).drew | exact unhide HS _ (Below.refl _ w8))
    (first | (go_at_call 20; have hq18 := (unhide B17); refine (St.count (unhide SB _ hq18)).mono ?_; rintro e w18 ⟨rfl, hb18⟩; have B18 : Hid (Below w8.heap.size w8 w18) := hq18.trans (hb18.mono hq18.size); have k18 := unhide HS _ (unhide B18); clear hb18 hq18) | (go_at_call 20; have hq17 := (unhide B16); refine (St.count (unhide SA _ hq17)).mono ?_; rintro e w17 ⟨rfl, hb17⟩; have B17 : Hid (Below w8.heap.size w8 w17) := hq17.trans (hb17.mono hq17.size); have k17 := unhide HS _ (unhide B17); clear hb17 hq17) | (go_at_call 20; have hq16 := (unhide B15); refine (St.count (unhide S15 _ (Below.refl _ _))).mono ?_; rintro e w16 ⟨rfl, hb16⟩; have B16 : Hid (Below w8.heap.size w8 w16) := hq16.trans (hb16.mono hq16.size); have k16 := unhide HS _ (unhide B16); clear hb16 hq16) | (go_at_call 22; have hq15 := (unhide B14); refine (St.common (unhide SA _ hq15) (unhide SB _ hq15)).mono ?_; rintro e w15 ⟨g15, m15, rfl, hs15, hb15⟩; have S15 := hide hs15.s; have B15 : Hid (Below w8.heap.size w8 w15) := hq15.trans (hb15.mono hq15.size); have k15 := unhide HS _ (unhide B15); clear hs15 hb15 hq15) | (go_at_call 20; have hq14 := (unhide B13); refine (St.count (unhide S13 _ (Below.refl _ _))).mono ?_; rintro e w14 ⟨rfl, hb14⟩; have B14 : Hid (Below w8.heap.size w8 w14) := hq14.trans (hb14.mono hq14.size); have k14 := unhide HS _ (unhide B14); clear hb14 hq14) | (go_at_call 12; have hq13 := (unhide B12); refine (St.union2 (unhide SA _ hq13) (unhide SB _ hq13) (by omega)).mono ?_; rintro e w13 ⟨g13, m13, rfl, hs13, hb13⟩; have S13 := hide hs13.s; have B13 : Hid (Below w8.heap.size w8 w13) := hq13.trans (hb13.mono hq13.size); have k13 := unhide HS _ (unhide B13); clear hs13 hb13 hq13) | (go_at_call 14; have hq12 := (unhide B11); refine (St.is (unhide S11 _ (Below.refl _ _)) (unhide RW _ hq12)).mono ?_; rintro e w12 ⟨rfl, hb12⟩; have B12 : Hid (Below w8.heap.size w8 w12) := hq12.trans (hb12.mono hq12.size); have k12 := unhide HS _ (unhide B12); clear hb12 hq12) | (go_at_call 12; have hq11 := (unhide B10); refine (St.union2 (unhide S9b _ (Below.refl _ _)) (unhide S10 _ (Below.refl _ _)) (by omega)).mono ?_; rintro e w11 ⟨g11, m11, rfl, hs11, hb11⟩; rw [unhide EW] at hs11; have S11 := hide hs11.s; have B11 : Hid (Below w8.heap.size w8 w11) := hq11.trans (hb11.mono hq11.size); have k11 := unhide HS _ (unhide B11); clear hs11 hb11 hq11) | (go_at_call 22; have hq10 := (unhide B9); refine (St.common (unhide SA _ hq10) (unhide SB _ hq10)).mono ?_; rintro e w10 ⟨g10, m10, rfl, hs10, hb10⟩; have S10 := hide hs10.s; have S9b := hide ((unhide S9 _ hb10)).s; have B10 : Hid (Below w8.heap.size w8 w10) := hq10.trans (hb10.mono hq10.size); have k10 := unhide HS _ (unhide B10); clear hs10 hb10 hq10) | (go_at_call 21; have hq9 := ((Below.refl w8.heap.size w8).drew); refine (St.minus (unhide SA _ hq9) (unhide SB _ hq9)).mono ?_; rintro e w9 ⟨g9, m9, rfl, hs9, hb9⟩; have S9 := hide hs9.s; have B9 : Hid (Below w8.heap.size w8 w9) := hq9.trans (hb9.mono hq9.size); have k9 := unhide HS _ (unhide B9); clear hs9 hb9 hq9))
  clear S9 S9b S10 S11 S13 S15 B9 B10 B11 B12 B13 B14 B15 B16 B17 k9 k10 k11 k12 k13 k14 k15 k16 k17 EW hcnt hn1 hn2 hn3
  go_wp2_with fail
  go_region_held3 (fun w' => w'.cell? ⟨w7.heap.size, 0, none⟩ = some (.func (.func g3) #[] m3) ∧ w'.cell? ⟨w7.heap.size + 1, 0, none⟩ = some (.func (.func g5) #[] m5) ∧ w'.cell? ⟨w7.heap.size + 1 + 1, 0, none⟩ = some (.func (.func g7) #[] m7))
    (first | exact unhide HS _ ((unhide B18).drew.alloc (unhide B18).size _) | exact unhide HS _ (unhide B18).drew | exact k19 | exact k20 | exact k21)
    (first | (go_at_call 17; have hq21 := (unhide B20); refine (St.all (unhide S20 _ (Below.refl _ _))).mono ?_; rintro e w21 ⟨a21, c21, rfl, ho21, hb21⟩; have HO21 := hide ho21; have B21 : Hid (Below w8.heap.size w8 w21) := hq21.trans (hb21.mono hq21.size); have k21 := unhide HS _ (unhide B21); clear ho21 hb21 hq21) | (go_at_call 21; have hq20 := (unhide B19); refine (St.minus (unhide SA _ hq20) (unhide S19 _ (Below.refl _ _))).mono ?_; rintro e w20 ⟨g20, m20, rfl, hs20, hb20⟩; have S20 := hide hs20.s; have B20 : Hid (Below w8.heap.size w8 w20) := hq20.trans (hb20.mono hq20.size); have k20 := unhide HS _ (unhide B20); clear hs20 hb20 hq20) | (go_at_call 12; have hq19 := (unhide B18).drew; refine (St.union2 (unhide SB _ hq19) (unhide SC _ hq19) (by omega)).mono ?_; rintro e w19 ⟨g19, m19, rfl, hs19, hb19⟩; have S19 := hide hs19.s; have B19 : Hid (Below w8.heap.size w8 w19) := hq19.trans (hb19.mono hq19.size); have k19 := unhide HS _ (unhide B19); clear hs19 hb19 hq19))
  have SA2 : Hid (Sts w21 (.func (.func g3) #[] m3) LA) := fun W hW => unhide SA W ((unhide B21).trans (hW.mono (unhide B21).size))
  have SB2 : Hid (Sts w21 (.func (.func g5) #[] m5) LB) := fun W hW => unhide SB W ((unhide B21).trans (hW.mono (unhide B21).size))
  have SC2 : Hid (Sts w21 (.func (.func g7) #[] m7) LC) := fun W hW => unhide SC W ((unhide B21).trans (hW.mono (unhide B21).size))
  have RW2 : Hid (∀ W, Below w21.heap.size w21 W → RowAt W (.slice a8 LA.length c8) LA W.heap.size) := fun W hW => unhide RW W ((unhide B21).trans (hW.mono (unhide B21).size))
  have RL2 : Hid (∀ W, Below w21.heap.size w21 W → RowAt W (.slice a21 (agn (ofS (LB ++ LC)) false LA).length c21) (agn (ofS (LB ++ LC)) false LA) W.heap.size) := fun W hW => own_row ((unhide HO21).below hW)
  have HS2 : Hid (∀ W, Below w21.heap.size w21 W → W.cell? ⟨w7.heap.size, 0, none⟩ = some (.func (.func g3) #[] m3) ∧ W.cell? ⟨w7.heap.size + 1, 0, none⟩ = some (.func (.func g5) #[] m5) ∧ W.cell? ⟨w7.heap.size + 1 + 1, 0, none⟩ = some (.func (.func g7) #[] m7)) := fun W hW => unhide HS W ((unhide B21).trans (hW.mono (unhide B21).size))
  have B02 : Hid (Below w.heap.size w w21) := (unhide B0).trans ((unhide B21).mono (unhide B0).size)
  clear SA SB SC RW HS B0 B18 B19 B20 B21 S19 S20 HO21 k18 k19 k20 k21
  go_wp2_with fail
  go_region_held3 (fun w' => w'.cell? ⟨w7.heap.size, 0, none⟩ = some (.func (.func g3) #[] m3) ∧ w'.cell? ⟨w7.heap.size + 1, 0, none⟩ = some (.func (.func g5) #[] m5) ∧ w'.cell? ⟨w7.heap.size + 1 + 1, 0, none⟩ = some (.func (.func g7) #[] m7))
    (first | exact k32 | exact unhide HS2 _ ((unhide B32).alloc (unhide B32).size _) | exact k31 | exact unhide HS2 _ ((unhide B31).alloc (unhide B31).size _) | exact k30 | exact unhide HS2 _ ((unhide B30).alloc (unhide B30).size _) | exact k29 | exact unhide HS2 _ ((unhide B29).alloc (unhide B29).size _) | exact k28 | exact unhide HS2 _ ((unhide B28).alloc (unhide B28).size _) | exact k27 | exact unhide HS2 _ ((unhide B27).alloc (unhide B27).size _) | exact k26 | exact unhide HS2 _ ((unhide B26).alloc (unhide B26).size _) | exact k25 | exact unhide HS2 _ ((unhide B25).alloc (unhide B25).size _) | exact k24 | exact unhide HS2 _ ((unhide B24).alloc (unhide B24).size _) | exact k23 | exact unhide HS2 _ ((unhide B23).alloc (unhide B23).size _) | exact k22 | exact unhide HS2 _ ((unhide B22).alloc (unhide B22).size _) | exact unhide HS2 _ (Below.refl _ w21).drew | exact unhide HS2 _ (Below.refl _ w21))
    (first | (go_at_call 14; have hq32 := (unhide B31); refine (St.is (unhide S31 _ (Below.refl _ _)) (unhide RW2 _ hq32)).mono ?_; rintro e w32 ⟨rfl, hb32⟩; have B32 : Hid (Below w21.heap.size w21 w32) := hq32.trans (hb32.mono hq32.size); have k32 := unhide HS2 _ (unhide B32); clear hb32 hq32) | (go_at_call 12; have hq31 := (unhide B30); refine (St.union3 (unhide SA2 _ hq31) (by omega)).mono ?_; rintro e w31 ⟨g31, m31, rfl, hs31, hb31⟩; have S31 := hide hs31.s; have B31 : Hid (Below w21.heap.size w21 w31) := hq31.trans (hb31.mono hq31.size); have k31 := unhide HS2 _ (unhide B31); clear hs31 hb31 hq31) | (go_at_call 20; have hq30 := (unhide B29); refine (St.count (unhide S29 _ (Below.refl _ _))).mono ?_; rintro e w30 ⟨rfl, hb30⟩; have B30 : Hid (Below w21.heap.size w21 w30) := hq30.trans (hb30.mono hq30.size); have k30 := unhide HS2 _ (unhide B30); clear hb30 hq30) | (go_at_call 21; have hq29 := (unhide B28); refine (St.minus (unhide SA2 _ hq29) (unhide SA2 _ hq29)).mono ?_; rintro e w29 ⟨g29, m29, rfl, hs29, hb29⟩; rw [al_none] at hs29; have S29 := hide hs29.s; have B29 : Hid (Below w21.heap.size w21 w29) := hq29.trans (hb29.mono hq29.size); have k29 := unhide HS2 _ (unhide B29); clear hs29 hb29 hq29) | (go_at_call 14; have hq28 := (unhide B27); refine (St.is (unhide S27 _ (Below.refl _ _)) (unhide RL2 _ hq28)).mono ?_; rintro e w28 ⟨rfl, hb28⟩; have B28 : Hid (Below w21.heap.size w21 w28) := hq28.trans (hb28.mono hq28.size); have k28 := unhide HS2 _ (unhide B28); clear hb28 hq28) | (go_at_call 22; have hq27 := (unhide B26); refine (St.common (unhide S25b _ (Below.refl _ _)) (unhide S26 _ (Below.refl _ _))).mono ?_; rintro e w27 ⟨g27, m27, rfl, hs27, hb27⟩; rw [unhide EC] at hs27; have S27 := hide hs27.s; have B27 : Hid (Below w21.heap.size w21 w27) := hq27.trans (hb27.mono hq27.size); have k27 := unhide HS2 _ (unhide B27); clear hs27 hb27 hq27) | (go_at_call 21; have hq26 := (unhide B25); refine (St.minus (unhide SA2 _ hq26) (unhide SC2 _ hq26)).mono ?_; rintro e w26 ⟨g26, m26, rfl, hs26, hb26⟩; have S26 := hide hs26.s; have S25b := hide ((unhide S25 _ hb26)).s; have B26 : Hid (Below w21.heap.size w21 w26) := hq26.trans (hb26.mono hq26.size); have k26 := unhide HS2 _ (unhide B26); clear hs26 hb26 hq26) | (go_at_call 21; have hq25 := (unhide B24); refine (St.minus (unhide SA2 _ hq25) (unhide SB2 _ hq25)).mono ?_; rintro e w25 ⟨g25, m25, rfl, hs25, hb25⟩; have S25 := hide hs25.s; have B25 : Hid (Below w21.heap.size w21 w25) := hq25.trans (hb25.mono hq25.size); have k25 := unhide HS2 _ (unhide B25); clear hs25 hb25 hq25) | (go_at_call 14; have hq24 := (unhide B23); refine (St.is (unhide S23 _ (Below.refl _ _)) (unhide RL2 _ hq24)).mono ?_; rintro e w24 ⟨rfl, hb24⟩; have B24 : Hid (Below w21.heap.size w21 w24) := hq24.trans (hb24.mono hq24.size); have k24 := unhide HS2 _ (unhide B24); clear hb24 hq24) | (go_at_call 21; have hq23 := (unhide B22); refine (St.minus (unhide S22 _ (Below.refl _ _)) (unhide SC2 _ hq23)).mono ?_; rintro e w23 ⟨g23, m23, rfl, hs23, hb23⟩; rw [unhide EM] at hs23; have S23 := hide hs23.s; have B23 : Hid (Below w21.heap.size w21 w23) := hq23.trans (hb23.mono hq23.size); have k23 := unhide HS2 _ (unhide B23); clear hs23 hb23 hq23) | (go_at_call 21; have hq22 := ((Below.refl w21.heap.size w21).drew); refine (St.minus (unhide SA2 _ hq22) (unhide SB2 _ hq22)).mono ?_; rintro e w22 ⟨g22, m22, rfl, hs22, hb22⟩; have S22 := hide hs22.s; have B22 : Hid (Below w21.heap.size w21 w22) := hq22.trans (hb22.mono hq22.size); have k22 := unhide HS2 _ (unhide B22); clear hs22 hb22 hq22))
  clear S22 S23 S25 S25b S26 S27 S29 S31 k22 k23 k24 k25 k26 k27 k28 k29 k30 k31 k32
  go_wp2
  go_ret
  exact ⟨rfl, (unhide B02).trans ((unhide B32).mono (unhide B02).size)⟩
end Sm
end Go.Proofs.Ytamlfmohalkemaa
