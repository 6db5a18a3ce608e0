import Derived.Test.YtidhbhdcoanfcaaGreatDoorGo37
set_option maxHeartbeats 8000000
set_option maxRecDepth 100000
namespace Go.Proofs.YtidhbhdcoanfcaaGreatDoor
open Go.RowKit
namespace Af
open RowB
theorem aff_at {w : World} {a : ByteArray} {F : Fil} (hM : Mx w.heap.size w) (h : affR a.data.toList = .ok F) : Calls Tryz.prog 12 #[.string a] w fun e w1 => ∃ B P, e = .returned (.tuple #[.pointer (some ⟨P.fb, 0, none⟩), .agg #[.int .i64 0, .int .i64 0, .int .i64 0]]) ∧ FAt B w1 F P ∧ Mx B w1 ∧ B ≤ w1.heap.size ∧ Below w.heap.size w w1 := by
 refine (Read_any a w hM).mono ?_
 rintro e w1 ⟨b, q⟩
 rw [h] at q
 obtain ⟨B, P, hB, rfl, hF⟩ := q
 obtain ⟨m1, m2⟩ := hM.low b
 exact ⟨B, P, rfl, hF, ⟨Nat.lt_of_lt_of_le m1 hB, m2⟩, Nat.le_of_lt (Nat.lt_of_le_of_lt hF.fbB (lt_some hF.fil)), b⟩
theorem tread_dic {w : World} (a s : ByteArray) (hM : Mx w.heap.size w) {F : Fil} (ha : affR a.data.toList = .ok F) {er : Er} (hx : dicR F s.data.toList = .error er) :
  Calls Tryz.prog 26 #[.string a, .string s] w fun e w' => e = .returned (.tuple #[.pointer none, .agg #[.int .i64 2, .int .i64 (er.1 : Nat), .int .i64 (er.2 : Nat)]]) ∧ Below w.heap.size w w' := by
 have b1 : Below w.heap.size w (w.alloc (.cells #[.int .i64 0, .int .i64 0, .int .i64 0] 31)) := (Below.refl _ _).alloc (Nat.le_refl _) _
 have hM1 : Mx (w.alloc (.cells #[.int .i64 0, .int .i64 0, .int .i64 0] 31)).heap.size (w.alloc (.cells #[.int .i64 0, .int .i64 0, .int .i64 0] 31)) := by
  obtain ⟨h1, h2⟩ := hM.low b1
  exact ⟨Nat.lt_of_lt_of_le h1 b1.size, h2⟩
 have HA := hide (aff_at hM1 ha)
 rw [World.size_alloc] at HA
 have HV := hide (alloc_new w (.cells #[.int .i64 0, .int .i64 0, .int .i64 0] 31))
 have HDD := hide (fun B P W (h1 : FAt B W F P) h2 h3 => dic_of ha h1 h2 h3 s)
 have HB1 := hide b1
 have HX := hide hx
 clear b1 hM hM1 hx
 go_enter Tryz.func26, Tryz.ntmps26
 go_wp2_with fail
 refine (unhide HA).mono ?_
 rintro e w1 ⟨B, P, rfl, hF1, hMB, hBs, b2⟩
 have h01 := (b2.block w.heap.size (by omega)).trans (unhide HV)
 have hlt1 : w.heap.size < w1.heap.size := lt_some h01
 have HB2 := hide ((unhide HB1).trans (b2.mono (by omega)))
 obtain ⟨V, hV⟩ : ∃ V, V = w1.alloc (.cells #[.int .i64 0, .int .i64 0, .int .i64 0] 31) := ⟨_, rfl⟩
 have bV : Below w1.heap.size w1 V := by rw [hV]; exact (Below.refl _ _).alloc (Nat.le_refl _) _
 have h0V := (bV.block _ hlt1).trans h01
 have h1V : V.heap[w1.heap.size]? = some (.cells #[.int .i64 0, .int .i64 0, .int .i64 0] 31 (0, 0)) := by rw [hV]; exact alloc_new w1 _
 have hl1V := lt_some h1V
 have HFV := hide (hF1.below bV)
 have HMV := hide (hMB.low (bV.mono hBs))
 have HD := hide (unhide HDD B P V (unhide HFV) (unhide HMV) (Nat.le_trans hBs bV.size))
 have HBV := hide ((unhide HB2).trans (bV.mono (Nat.le_of_lt hlt1)))
 have HVH := hide hV
 clear hF1 hMB b2 h01 bV hV HA HV HDD HB1 HB2
 go_wp2_with fail
 refine gen_call ?_
 intro V' hV'
 obtain rfl : V' = V := hV'.trans (unhide HVH).symm
 clear hV' HVH
 refine (unhide HD).mono ?_
 rintro e w3 ⟨b3, q⟩
 rw [unhide HX] at q
 simp only at q
 subst q
 have h03 := (b3.block w.heap.size (by omega)).trans h0V
 have h13 := (b3.block w1.heap.size (by omega)).trans h1V
 have HB3 := hide ((unhide HBV).trans (b3.mono (unhide HBV).size))
 obtain ⟨v0, v1, v2, vz⟩ := fault3 h03
 obtain ⟨u0, u1, u2, uz⟩ := fault3 h13
 have hl0 := lt_some h03
 have hl1 := lt_some h13
 have HC := hide (And.intro h03 h13)
 clear b3 h0V h1V h03 h13 HD HBV
 go_wp2_with fail
 refine gen_world ?_
 intro V2 hV2
 obtain ⟨g1, g2, g3⟩ := swr_facts (n0 := w.heap.size) (unhide HC).2 (Nat.le_of_lt hlt1) (.int .i64 2) (.int .i64 (er.1 : Nat)) (.int .i64 (er.2 : Nat))
 have HVV : Hid (V2.heap[w.heap.size]? = some (.cells #[.int .i64 0, .int .i64 0, .int .i64 0] 31 (0, 0)) ∧ V2.heap[w1.heap.size]? = some (.cells #[.int .i64 2, .int .i64 (er.1 : Nat), .int .i64 (er.2 : Nat)] 31 (0, 0)) ∧ Below w.heap.size w V2) := by
  rw [hV2]
  exact ⟨(g3.2 _ hl0 (by omega)).trans (unhide HC).1, g1, (unhide HB3).trans g2⟩
 clear hV2 g1 g2 g3 v0 v1 v2 vz u0 u1 u2 uz HC HB3 hl0 hl1
 obtain ⟨r0, r1, r2, rz⟩ := fault3 (unhide HVV).1
 obtain ⟨q0, q1, q2, qz⟩ := fault3 (unhide HVV).2.1
 have hl0 := lt_some (unhide HVV).1
 have S0 := hide (And.intro q0 (And.intro q1 q2))
 refine Lst.region_last (ops1 := ?ops1) (o := ?op1) (S := fun w' => w'.cell? ⟨w1.heap.size, 0, none⟩ = some (.int .i64 2) ∧ w'.cell? ⟨w1.heap.size, 1, none⟩ = some (.int .i64 (er.1 : Nat)) ∧ w'.cell? ⟨w1.heap.size, 2, none⟩ = some (.int .i64 (er.2 : Nat))) (by kernel_rfl) ?hp1 ?hb1 ?hk1 (by exact unhide S0) ?hn1
 case hp1 => (simp only [List.pop_toArray, List.dropLast_cons_cons, List.dropLast_singleton]; rfl)
 case hb1 => (simp only [List.back?_toArray, List.getLast?_cons_cons, List.getLast?_singleton]; rfl)
 case hk1 => kernel_rfl
 intro hHeld
 refine wpAnyH_take (i := 1) (v := ?v2) (by simp only [List.getElem?_toArray, List.getElem?_cons_succ, List.getElem?_cons_zero]; rfl) (by kernel_rfl) (by kernel_rfl) (by kernel_rfl) (by exact fun _ _ _ h => h) (Or.inl ⟨by rfl, ?hy2⟩) (by assumption) ?_
 case hy2 => (intro w hSw; (try dsimp only at hSw); go_simp; first | done | (with_reducible rfl))
 (try simp only [Act.put, List.setIfInBounds_toArray, List.set_cons_zero, List.set_cons_succ])
 refine wpAnyH_take (i := 0) (v := ?v3) (by simp only [List.getElem?_toArray, List.getElem?_cons_zero]; rfl) (by kernel_rfl) (by kernel_rfl) (by kernel_rfl) (by exact fun _ _ _ h => h) (Or.inl ⟨by rfl, ?hy3⟩) (by assumption) ?_
 case hy3 => (intro w hSw; (try dsimp only at hSw); go_simp; first | done | (with_reducible rfl))
 (try simp only [Act.put, List.setIfInBounds_toArray, List.set_cons_zero, List.set_cons_succ])
 refine wpAnyH_done (by kernel_rfl) ?_ _
 show Oper.wp _ _ _ _ _ _
 go_simp
 rename_i K2 hK2
 apply hK2
 refine gen_world ?_
 intro V3 hV3
 obtain ⟨f1, f2, f3⟩ := swr_facts (n0 := w.heap.size) (unhide HVV).1 (Nat.le_refl _) (.int .i64 2) (.int .i64 (er.1 : Nat)) (.int .i64 (er.2 : Nat))
 have HF : Hid (V3.heap[w.heap.size]? = some (.cells #[.int .i64 2, .int .i64 (er.1 : Nat), .int .i64 (er.2 : Nat)] 31 (0, 0)) ∧ Below w.heap.size w V3) := by
  rw [hV3]
  exact ⟨f1, ((unhide HVV).2.2.trans f2).drew⟩
 clear hV3 f1 f2 f3
 obtain ⟨m0, m1, m2, mz⟩ := fault3 (unhide HF).1
 go_wp2
 refine bodyPost_ret (v := .tuple #[.pointer none, .agg #[.int .i64 2, .int .i64 (er.1 : Nat), .int .i64 (er.2 : Nat)]]) (by simp [results, Tryz.results26, go_sem, m0, m1, m2]) rfl ?_
 exact ⟨rfl, (unhide HF).2⟩
theorem cells9 {W : World} {b : Nat} {x0 x1 x2 x3 x4 x5 x6 x7 x8 : Value} {t : TypeId} (h : W.heap[b]? = some (.cells #[x0, x1, x2, x3, x4, x5, x6, x7, x8] t (0, 0))) :
  W.cell? ⟨b, 0, none⟩ = some x0 ∧ W.cell? ⟨b, 1, none⟩ = some x1 ∧ W.cell? ⟨b, 2, none⟩ = some x2 ∧ W.cell? ⟨b, 3, none⟩ = some x3 ∧ W.cell? ⟨b, 4, none⟩ = some x4 ∧ W.cell? ⟨b, 5, none⟩ = some x5 ∧ W.cell? ⟨b, 6, none⟩ = some x6 ∧ W.cell? ⟨b, 7, none⟩ = some x7 ∧ W.cell? ⟨b, 8, none⟩ = some x8 ∧ ∀ k, W.frozen? ⟨b, k, none⟩ = false := by
 refine ⟨?_, ?_, ?_, ?_, ?_, ?_, ?_, ?_, ?_, fun k => ?_⟩ <;> simp [World.cell?, World.frozen?, h]
def twr (W : World) (tb : Nat) (a b c d e : Value) : World := ((((W.setCell ⟨tb, 2, none⟩ a).setCell ⟨tb, 3, none⟩ b).setCell ⟨tb, 4, none⟩ c).setCell ⟨tb, 5, none⟩ d).setCell ⟨tb, 6, none⟩ e
theorem twr_facts {W : World} {tb n0 : Nat} {x0 x1 x2 x3 x4 x5 x6 x7 x8 : Value} (h : W.heap[tb]? = some (.cells #[x0, x1, x2, x3, x4, x5, x6, x7, x8] 72 (0, 0))) (hb : n0 ≤ tb) (a b c d e : Value) : (twr W tb a b c d e).heap[tb]? = some (.cells #[x0, x1, a, b, c, d, e, x7, x8] 72 (0, 0)) ∧ Below n0 W (twr W tb a b c d e) ∧ Kp tb W (twr W tb a b c d e) := by
 refine ⟨?_, (((((Below.refl _ _).setCell (p := ⟨tb, 2, none⟩) hb a).setCell (p := ⟨tb, 3, none⟩) hb b).setCell (p := ⟨tb, 4, none⟩) hb c).setCell (p := ⟨tb, 5, none⟩) hb d).setCell (p := ⟨tb, 6, none⟩) hb e, kp_trans (kp_trans (kp_trans (kp_trans (kp_set W tb 2 a) (kp_set _ tb 3 b)) (kp_set _ tb 4 c)) (kp_set _ tb 5 d)) (kp_set _ tb 6 e)⟩
 unfold twr
 rw [set_heap1 (set_heap1 (set_heap1 (set_heap1 (set_heap1 h a) b) c) d) e]
 rfl
theorem hand6 {w V2 w5 : World} {g tb B n0 wb nr cu : Nat} {au : Option Addr} {F : Fil} {P : Pts} {E : List Ent} {Q : WPts} {nv fv : List Value} {ve : Value} {n1 : Nat}
  (h : (∃ y0 y1 y2 y8 y9 ya yb, w5.heap[g]? = some (.cells #[y0, y1, y2, .int .u16 (F.specials[0]?.getD 0), .int .u16 (F.specials[1]?.getD 0), .int .u16 (F.specials[2]?.getD 0), .int .u16 (F.specials[3]?.getD 0), .int .u16 (F.specials[4]?.getD 0), y8, y9, ya, yb, .slice au nr cu] 43 (0, 0))) ∧ w5.heap[tb]? = some (.cells #[.pointer (some ⟨P.fb, 0, none⟩), .pointer (some ⟨wb, 0, none⟩), .int .u16 0, .int .u16 0, .int .u16 0, .int .u16 0, .int .u16 0, .slice none 0 0, .slice none 0 0] 72 (0, 0)) ∧ w5.heap[w.heap.size]? = some (.cells #[.int .i64 0, .int .i64 0, .int .i64 0] 31 (0, 0)) ∧ FAt B w5 F P ∧ WA n0 w5 wb E E Q ∧ Below w.heap.size w w5 ∧ RulR V2.heap.size w5 F (.slice au nr cu) nv F.rules.length)
  (hE : EntR n1 w5 E ve fv E.length) (hle : w.heap.size ≤ tb) (V : World) (hV : V = ((twr w5 tb (.int .u16 (F.specials[0]?.getD 0)) (.int .u16 (F.specials[1]?.getD 0)) (.int .u16 (F.specials[2]?.getD 0)) (.int .u16 (F.specials[3]?.getD 0)) (.int .u16 (F.specials[4]?.getD 0))).setCell ⟨tb, 7, none⟩ (.slice au nr cu)).setCell ⟨tb, 8, none⟩ ve) :
  Hid (TbAt V tb B F P n0 wb E Q (.slice au nr cu) ve nv fv ∧ Below w.heap.size w V) ∧ V.heap[w.heap.size]? = some (.cells #[.int .i64 0, .int .i64 0, .int .i64 0] 31 (0, 0)) := by
 obtain ⟨-, q2, q3, q4, q5, q6, q7⟩ := h
 obtain ⟨t1, t2, t3⟩ := twr_facts (n0 := w.heap.size) q2 hle (.int .u16 (F.specials[0]?.getD 0)) (.int .u16 (F.specials[1]?.getD 0)) (.int .u16 (F.specials[2]?.getD 0)) (.int .u16 (F.specials[3]?.getD 0)) (.int .u16 (F.specials[4]?.getD 0))
 have t4 := set_heap1 (set_heap1 t1 (k := 7) (.slice au nr cu)) (k := 8) ve
 have k3 : Kp tb w5 V := by rw [hV]; exact kp_trans (kp_trans t3 (kp_set _ tb 7 _)) (kp_set _ tb 8 _)
 have k : Kq [72] noM w5 V := Kq.kp k3 q2 (by simp)
 have bV : Below w.heap.size w5 V := by rw [hV]; exact (t2.setCell (p := ⟨tb, 7, none⟩) hle _).setCell (p := ⟨tb, 8, none⟩) hle _
 rw [← hV] at t4
 refine ⟨⟨⟨t4.trans ?_, q4.stay k (by decide) (by decide) (by decide) (by decide) (by decide) (by decide) (fun q => q), q5.frame k (by decide) (by decide) (by decide) (by decide) (fun q => q), (q7.kq k (by decide) (by decide)).low (Nat.zero_le _), (hE.kq k (by decide) (by decide)).low (Nat.zero_le _)⟩, q6.trans bV⟩, (k.cells _ _ _ _ q3 (by decide)).trans q3⟩
 simp [tbC]
theorem fz_of {W : World} {b : Nat} {c : Array Value} {t : TypeId} (h : W.heap[b]? = some (.cells c t (0, 0))) : ∀ k, W.frozen? ⟨b, k, none⟩ = false := fun k => by simp [World.frozen?, h]
theorem hS_kp {W W' : World} {g tb nr cu wb : Nat} {au : Option Addr} {F : Fil} {x0 x2 x3 x4 x5 x6 x7 x8 : Value} (h : W.cell? ⟨g, 3, none⟩ = some (.int .u16 (F.specials[0]?.getD 0)) ∧ W.cell? ⟨g, 4, none⟩ = some (.int .u16 (F.specials[1]?.getD 0)) ∧ W.cell? ⟨g, 5, none⟩ = some (.int .u16 (F.specials[2]?.getD 0)) ∧ W.cell? ⟨g, 6, none⟩ = some (.int .u16 (F.specials[3]?.getD 0)) ∧ W.cell? ⟨g, 7, none⟩ = some (.int .u16 (F.specials[4]?.getD 0)) ∧ W.cell? ⟨g, 12, none⟩ = some (.slice au nr cu) ∧ W.cell? ⟨tb, 1, none⟩ = some (.pointer (some ⟨wb, 0, none⟩))) (k : Kp tb W W') (h2 : W'.heap[tb]? = some (.cells #[x0, .pointer (some ⟨wb, 0, none⟩), x2, x3, x4, x5, x6, x7, x8] 72 (0, 0))) (hlt : tb < g) (hg : g < W.heap.size) : W'.cell? ⟨g, 3, none⟩ = some (.int .u16 (F.specials[0]?.getD 0)) ∧ W'.cell? ⟨g, 4, none⟩ = some (.int .u16 (F.specials[1]?.getD 0)) ∧ W'.cell? ⟨g, 5, none⟩ = some (.int .u16 (F.specials[2]?.getD 0)) ∧ W'.cell? ⟨g, 6, none⟩ = some (.int .u16 (F.specials[3]?.getD 0)) ∧ W'.cell? ⟨g, 7, none⟩ = some (.int .u16 (F.specials[4]?.getD 0)) ∧ W'.cell? ⟨g, 12, none⟩ = some (.slice au nr cu) ∧ W'.cell? ⟨tb, 1, none⟩ = some (.pointer (some ⟨wb, 0, none⟩)) := by
 have e := k.2 g hg (by omega)
 have c : ∀ i, W'.cell? ⟨g, i, none⟩ = W.cell? ⟨g, i, none⟩ := fun i => by simp only [World.cell?, e]
 obtain ⟨h0, h1, h3, h4, h5, h6, -⟩ := h
 exact ⟨(c _).trans h0, (c _).trans h1, (c _).trans h3, (c _).trans h4, (c _).trans h5, (c _).trans h6, by simp [World.cell?, h2]⟩
theorem hand5 {w V2 V4 w5 : World} {g tb B n0 wb nr cu : Nat} {au : Option Addr} {F : Fil} {P : Pts} {E : List Ent} {Q : WPts} {nv fv : List Value} {ve : Value} (b5 : Below V4.drew.heap.size V4.drew w5) (_hE : EntR V4.drew.heap.size w5 E ve fv E.length)
  (h : (∃ y0 y1 y2 y8 y9 ya yb, V4.heap[g]? = some (.cells #[y0, y1, y2, .int .u16 (F.specials[0]?.getD 0), .int .u16 (F.specials[1]?.getD 0), .int .u16 (F.specials[2]?.getD 0), .int .u16 (F.specials[3]?.getD 0), .int .u16 (F.specials[4]?.getD 0), y8, y9, ya, yb, .slice au nr cu] 43 (0, 0))) ∧ V4.heap[tb]? = some (.cells #[.pointer (some ⟨P.fb, 0, none⟩), .pointer (some ⟨wb, 0, none⟩), .int .u16 0, .int .u16 0, .int .u16 0, .int .u16 0, .int .u16 0, .slice none 0 0, .slice none 0 0] 72 (0, 0)) ∧ V4.heap[w.heap.size]? = some (.cells #[.int .i64 0, .int .i64 0, .int .i64 0] 31 (0, 0)) ∧ FAt B V4 F P ∧ WA n0 V4 wb E E Q ∧ Below w.heap.size w V4 ∧ RulR V2.heap.size V4 F (.slice au nr cu) nv F.rules.length) (_hlt : tb < g) :
  Hid (((∃ y0 y1 y2 y8 y9 ya yb, w5.heap[g]? = some (.cells #[y0, y1, y2, .int .u16 (F.specials[0]?.getD 0), .int .u16 (F.specials[1]?.getD 0), .int .u16 (F.specials[2]?.getD 0), .int .u16 (F.specials[3]?.getD 0), .int .u16 (F.specials[4]?.getD 0), y8, y9, ya, yb, .slice au nr cu] 43 (0, 0)))) ∧ w5.heap[tb]? = some (.cells #[.pointer (some ⟨P.fb, 0, none⟩), .pointer (some ⟨wb, 0, none⟩), .int .u16 0, .int .u16 0, .int .u16 0, .int .u16 0, .int .u16 0, .slice none 0 0, .slice none 0 0] 72 (0, 0)) ∧ w5.heap[w.heap.size]? = some (.cells #[.int .i64 0, .int .i64 0, .int .i64 0] 31 (0, 0)) ∧ FAt B w5 F P ∧ WA n0 w5 wb E E Q ∧ Below w.heap.size w w5 ∧ RulR V2.heap.size w5 F (.slice au nr cu) nv F.rules.length) ∧ (w5.cell? ⟨g, 3, none⟩ = some (.int .u16 (F.specials[0]?.getD 0)) ∧ w5.cell? ⟨g, 4, none⟩ = some (.int .u16 (F.specials[1]?.getD 0)) ∧ w5.cell? ⟨g, 5, none⟩ = some (.int .u16 (F.specials[2]?.getD 0)) ∧ w5.cell? ⟨g, 6, none⟩ = some (.int .u16 (F.specials[3]?.getD 0)) ∧ w5.cell? ⟨g, 7, none⟩ = some (.int .u16 (F.specials[4]?.getD 0)) ∧ w5.cell? ⟨g, 12, none⟩ = some (.slice au nr cu) ∧ w5.cell? ⟨tb, 1, none⟩ = some (.pointer (some ⟨wb, 0, none⟩))) ∧ (∀ k, w5.frozen? ⟨tb, k, none⟩ = false) ∧ g < w5.heap.size := by
 obtain ⟨⟨y0, y1, y2, y8, y9, ya, yb, q1⟩, q2, q3, q4, q5, q6, q7⟩ := h
 have bb : Below V4.heap.size V4 w5 := ((Below.refl V4.heap.size V4).drew).trans b5
 have r1 := (bb.block _ (lt_some q1)).trans q1
 have r2 := (bb.block _ (lt_some q2)).trans q2
 refine ⟨⟨⟨y0, y1, y2, y8, y9, ya, yb, r1⟩, r2, (bb.block _ (lt_some q3)).trans q3, q4.below bb, q5.below bb, q6.trans (bb.mono q6.size), q7.kq (T := [31]) (M := noM) (Kq.below bb) (by decide) (by decide)⟩, ?_, fun k => by simp [World.frozen?, r2], lt_some r1⟩
 refine ⟨?_, ?_, ?_, ?_, ?_, ?_, ?_⟩ <;> simp [World.cell?, r1, r2]
theorem tread_ok {w : World} (a s : ByteArray) (hM : Mx w.heap.size w) {F : Fil} (ha : affR a.data.toList = .ok F) {E : List Ent} (hx : dicR F s.data.toList = .ok E) :
  Calls Tryz.prog 26 #[.string a, .string s] w fun e w' => Below w.heap.size w w' ∧ ∃ tb B P n wb Q vu ve nv fv, e = .returned (.tuple #[.pointer (some ⟨tb, 0, none⟩), .agg #[.int .i64 0, .int .i64 0, .int .i64 0]]) ∧ TbAt w' tb B F P n wb E Q vu ve nv fv := by
 have HAX := hide (fun B P W (h : FAt B W F P) => Affixes_any h (affR_sets ha) (Nat.le_trans (affR_cls ha) (by decide)))
 have HEN := hide (fun n wb W Q (h : WA n W wb E E Q) => entries_any h (dicR_len (affR_sets ha) hx))
 have b1 : Below w.heap.size w (w.alloc (.cells #[.int .i64 0, .int .i64 0, .int .i64 0] 31)) := (Below.refl _ _).alloc (Nat.le_refl _) _
 have hM1 : Mx (w.alloc (.cells #[.int .i64 0, .int .i64 0, .int .i64 0] 31)).heap.size (w.alloc (.cells #[.int .i64 0, .int .i64 0, .int .i64 0] 31)) := by
  obtain ⟨h1, h2⟩ := hM.low b1
  exact ⟨Nat.lt_of_lt_of_le h1 b1.size, h2⟩
 have HA := hide (aff_at hM1 ha)
 rw [World.size_alloc] at HA
 have HV := hide (alloc_new w (.cells #[.int .i64 0, .int .i64 0, .int .i64 0] 31))
 have HDD := hide (fun B P W (h1 : FAt B W F P) h2 h3 => dic_of ha h1 h2 h3 s)
 have HB1 := hide b1
 have HX := hide hx
 clear b1 hM hM1 hx
 go_enter Tryz.func26, Tryz.ntmps26
 go_wp2_with fail
 refine (unhide HA).mono ?_
 rintro e w1 ⟨B, P, rfl, hF1, hMB, hBs, b2⟩
 have h01 := (b2.block w.heap.size (by omega)).trans (unhide HV)
 have hlt1 : w.heap.size < w1.heap.size := lt_some h01
 have HB2 := hide ((unhide HB1).trans (b2.mono (by omega)))
 obtain ⟨V, hV⟩ : ∃ V, V = w1.alloc (.cells #[.int .i64 0, .int .i64 0, .int .i64 0] 31) := ⟨_, rfl⟩
 have bV : Below w1.heap.size w1 V := by rw [hV]; exact (Below.refl _ _).alloc (Nat.le_refl _) _
 have h0V := (bV.block _ hlt1).trans h01
 have h1V : V.heap[w1.heap.size]? = some (.cells #[.int .i64 0, .int .i64 0, .int .i64 0] 31 (0, 0)) := by rw [hV]; exact alloc_new w1 _
 have hl1V := lt_some h1V
 have HFV := hide (hF1.below bV)
 have HMV := hide (hMB.low (bV.mono hBs))
 have HD := hide (unhide HDD B P V (unhide HFV) (unhide HMV) (Nat.le_trans hBs bV.size))
 have HBV := hide ((unhide HB2).trans (bV.mono (Nat.le_of_lt hlt1)))
 have HVH := hide hV
 clear hF1 hMB b2 h01 bV hV HA HV HDD HB1 HB2
 go_wp2_with fail
 refine gen_call ?_
 intro V' hV'
 obtain rfl : V' = V := hV'.trans (unhide HVH).symm
 clear hV' HVH
 refine (unhide HD).mono ?_
 rintro e w3 ⟨b3, q⟩
 rw [unhide HX] at q
 simp only at q
 obtain ⟨n0, wb, Q, hn0, rfl, hW3⟩ := q
 unfold zF
 have h03 := (b3.block w.heap.size (by omega)).trans h0V
 have h13 := (b3.block w1.heap.size (by omega)).trans h1V
 have HF3 := hide ((unhide HFV).below b3)
 have HB3 := hide ((unhide HBV).trans (b3.mono (unhide HBV).size))
 obtain ⟨v0, v1, v2, vz⟩ := fault3 h03
 obtain ⟨u0, u1, u2, uz⟩ := fault3 h13
 have hl0 := lt_some h03
 have hl1 := lt_some h13
 have HC := hide (And.intro h03 h13)
 have HW3 := hide hW3
 clear b3 h0V h1V h03 h13 HD HBV hW3 hn0 HFV HMV
 go_wp2_with fail
 refine gen_call ?_
 intro V2 hV2
 obtain ⟨g1, g2, g3⟩ := swr_facts (n0 := w.heap.size) (unhide HC).2 (Nat.le_of_lt hlt1) (.int .i64 0) (.int .i64 0) (.int .i64 0)
 have hs3 : (swr w3 w1.heap.size (.int .i64 0) (.int .i64 0) (.int .i64 0)).heap.size = w3.heap.size := by simp [swr, World.setCell]
 have kz : Kq [31] noM w3 (swr w3 w1.heap.size (.int .i64 0) (.int .i64 0) (.int .i64 0)) := Kq.kp g3 (unhide HC).2 (by simp)
 have bz : Below w3.heap.size (swr w3 w1.heap.size (.int .i64 0) (.int .i64 0) (.int .i64 0)) V2 := by
  rw [hV2, ← hs3]
  exact (Below.refl _ _).alloc (Nat.le_refl _) _
 have HV2 : Hid (V2.heap[w3.heap.size]? = some (.cells #[.pointer (some ⟨P.fb, 0, none⟩), .pointer (some ⟨wb, 0, none⟩), .int .u16 0, .int .u16 0, .int .u16 0, .int .u16 0, .int .u16 0, .slice none 0 0, .slice none 0 0] 72 (0, 0)) ∧ V2.heap[w.heap.size]? = some (.cells #[.int .i64 0, .int .i64 0, .int .i64 0] 31 (0, 0)) ∧ FAt B V2 F P ∧ WA n0 V2 wb E E Q ∧ Below w.heap.size w V2 ∧ w3.heap.size < V2.heap.size) := by
  have hz := (unhide HF3).stay kz (by decide) (by decide) (by decide) (by decide) (by decide) (by decide) (fun q => q)
  have hz2 := (unhide HW3).frame kz (by decide) (by decide) (by decide) (by decide) (fun q => q)
  rw [← hs3] at bz
  refine ⟨?_, (bz.block _ (by rw [hs3]; exact hl0)).trans ((g3.2 _ hl0 (by omega)).trans (unhide HC).1), hz.below bz, hz2.below bz, ((unhide HB3).trans g2).trans (bz.mono (by rw [hs3]; exact (unhide HB3).size)), ?_⟩
  ·rw [hV2, ← hs3]
   exact alloc_new _ _
  ·rw [hV2, ← hs3]
   simp [swr, World.setCell]
 clear hV2 g1 g2 g3 hs3 kz bz v0 v1 v2 vz u0 u1 u2 uz HC HB3 HF3 HW3 hl1
 refine (unhide HAX _ _ _ (unhide HV2).2.2.1).mono ?_
 rintro e w4 ⟨b4, v, rfl, vr, va, vc, vu, av, nv, rfl, a1, a2, a3, a4⟩
 obtain ⟨ar, cr, rfl⟩ := own_slice a1
 obtain ⟨aa, ca, rfl⟩ := own_slice a2.1
 obtain ⟨ac, cc, rfl⟩ := own_slice a3
 obtain ⟨au, cu, rfl⟩ := own_slice a4.1
 have HR4 := hide a4
 have HV4 : Hid (w4.heap[w3.heap.size]? = some (.cells #[.pointer (some ⟨P.fb, 0, none⟩), .pointer (some ⟨wb, 0, none⟩), .int .u16 0, .int .u16 0, .int .u16 0, .int .u16 0, .int .u16 0, .slice none 0 0, .slice none 0 0] 72 (0, 0)) ∧ w4.heap[w.heap.size]? = some (.cells #[.int .i64 0, .int .i64 0, .int .i64 0] 31 (0, 0)) ∧ FAt B w4 F P ∧ WA n0 w4 wb E E Q ∧ Below w.heap.size w w4 ∧ w3.heap.size < w4.heap.size) := by
  obtain ⟨p1, p2, p3, p4, p5, p6⟩ := unhide HV2
  exact ⟨(b4.block _ p6).trans p1, (b4.block _ (lt_some p2)).trans p2, p3.below b4, p4.below b4, p5.trans (b4.mono p5.size), Nat.lt_of_lt_of_le p6 b4.size⟩
 clear b4 a1 a2 a3 a4 HV2 HAX
 unfold axL
 go_wp2_with fail
 rename_i K0 hK0
 have HK0 := hide hK0
 clear hK0
 refine gen_world ?_
 intro V4 hV4
 have HV5 : Hid ((∃ y0 y1 y2 y8 y9 ya yb, V4.heap[w4.heap.size]? = some (.cells #[y0, y1, y2, .int .u16 (F.specials[0]?.getD 0), .int .u16 (F.specials[1]?.getD 0), .int .u16 (F.specials[2]?.getD 0), .int .u16 (F.specials[3]?.getD 0), .int .u16 (F.specials[4]?.getD 0), y8, y9, ya, yb, .slice au F.rules.length cu] 43 (0, 0))) ∧ V4.heap[w3.heap.size]? = some (.cells #[.pointer (some ⟨P.fb, 0, none⟩), .pointer (some ⟨wb, 0, none⟩), .int .u16 0, .int .u16 0, .int .u16 0, .int .u16 0, .int .u16 0, .slice none 0 0, .slice none 0 0] 72 (0, 0)) ∧ V4.heap[w.heap.size]? = some (.cells #[.int .i64 0, .int .i64 0, .int .i64 0] 31 (0, 0)) ∧ FAt B V4 F P ∧ WA n0 V4 wb E E Q ∧ Below w.heap.size w V4 ∧ RulR V2.heap.size V4 F (.slice au F.rules.length cu) nv F.rules.length) := by
  obtain ⟨p1, p2, p3, p4, p5, p6⟩ := unhide HV4
  have bb : Below w4.heap.size w4 V4 := by rw [hV4]; exact (Below.refl _ _).alloc (Nat.le_refl _) _
  exact ⟨⟨_, _, _, _, _, _, _, by rw [hV4]; exact alloc_new _ _⟩, (bb.block _ p6).trans p1, (bb.block _ (lt_some p2)).trans p2, p3.below bb, p4.below bb, p5.trans (bb.mono p5.size), (unhide HR4).kq (T := [31]) (M := noM) (Kq.below bb) (by decide) (by decide)⟩
 have hlt4 : w3.heap.size < w4.heap.size := (unhide HV4).2.2.2.2.2
 have HLE : w.heap.size ≤ w3.heap.size := by omega
 clear hV4 HV4 HR4
 generalize w4.heap.size = g at *
 generalize w3.heap.size = tb at *
 have hS : V4.cell? ⟨g, 3, none⟩ = some (.int .u16 (F.specials[0]?.getD 0)) ∧ V4.cell? ⟨g, 4, none⟩ = some (.int .u16 (F.specials[1]?.getD 0)) ∧ V4.cell? ⟨g, 5, none⟩ = some (.int .u16 (F.specials[2]?.getD 0)) ∧ V4.cell? ⟨g, 6, none⟩ = some (.int .u16 (F.specials[3]?.getD 0)) ∧ V4.cell? ⟨g, 7, none⟩ = some (.int .u16 (F.specials[4]?.getD 0)) ∧ V4.cell? ⟨g, 12, none⟩ = some (.slice au F.rules.length cu) ∧ V4.cell? ⟨tb, 1, none⟩ = some (.pointer (some ⟨wb, 0, none⟩)) := by
  obtain ⟨⟨y0, y1, y2, y8, y9, ya, yb, q1⟩, q2, -⟩ := unhide HV5
  refine ⟨?_, ?_, ?_, ?_, ?_, ?_, ?_⟩ <;> simp [World.cell?, q1, q2]
 refine Lst.region_last (ops1 := ?ops1) (o := ?op1) (S := fun w' => w'.cell? ⟨g, 3, none⟩ = some (.int .u16 (F.specials[0]?.getD 0)) ∧ w'.cell? ⟨g, 4, none⟩ = some (.int .u16 (F.specials[1]?.getD 0)) ∧ w'.cell? ⟨g, 5, none⟩ = some (.int .u16 (F.specials[2]?.getD 0)) ∧ w'.cell? ⟨g, 6, none⟩ = some (.int .u16 (F.specials[3]?.getD 0)) ∧ w'.cell? ⟨g, 7, none⟩ = some (.int .u16 (F.specials[4]?.getD 0)) ∧ w'.cell? ⟨g, 12, none⟩ = some (.slice au F.rules.length cu) ∧ w'.cell? ⟨tb, 1, none⟩ = some (.pointer (some ⟨wb, 0, none⟩))) (by kernel_rfl) ?hp1 ?hb1 ?hk1 (by exact hS) ?hn1
 case hp1 => (simp only [List.pop_toArray, List.dropLast_cons_cons, List.dropLast_singleton]; rfl)
 case hb1 => (simp only [List.back?_toArray, List.getLast?_cons_cons, List.getLast?_singleton]; rfl)
 case hk1 => kernel_rfl
 intro hHeld
 refine wpAnyH_take (i := 0) (v := ?v2) (by simp only [List.getElem?_toArray, List.getElem?_cons_zero]; rfl) (by kernel_rfl) (by kernel_rfl) (by kernel_rfl) (by exact fun _ _ _ h => h) (Or.inl ⟨by rfl, ?hy2⟩) (by assumption) ?_
 case hy2 => (intro w hSw; (try dsimp only at hSw); go_simp; first | done | (with_reducible rfl))
 (try simp only [Act.put, List.setIfInBounds_toArray, List.set_cons_zero, List.set_cons_succ])
 refine wpAnyH_take (i := 1) (v := ?v3) (by simp only [List.getElem?_toArray, List.getElem?_cons_succ, List.getElem?_cons_zero]; rfl) (by kernel_rfl) (by kernel_rfl) (by kernel_rfl) (by exact fun _ _ _ h => h) (Or.inl ⟨by rfl, ?hy3⟩) (by assumption) ?_
 case hy3 => (intro w hSw; (try dsimp only at hSw); go_simp; first | done | (with_reducible rfl))
 (try simp only [Act.put, List.setIfInBounds_toArray, List.set_cons_zero, List.set_cons_succ])
 refine wpAnyH_take (i := 2) (v := ?v4) (by simp only [List.getElem?_toArray, List.getElem?_cons_succ, List.getElem?_cons_zero]; rfl) (by kernel_rfl) (by kernel_rfl) (by kernel_rfl) (by exact fun _ _ _ h => h) (Or.inl ⟨by rfl, ?hy4⟩) (by assumption) ?_
 case hy4 => (intro w hSw; (try dsimp only at hSw); go_simp; first | done | (with_reducible rfl))
 (try simp only [Act.put, List.setIfInBounds_toArray, List.set_cons_zero, List.set_cons_succ])
 refine wpAnyH_take (i := 3) (v := ?v5) (by simp only [List.getElem?_toArray, List.getElem?_cons_succ, List.getElem?_cons_zero]; rfl) (by kernel_rfl) (by kernel_rfl) (by kernel_rfl) (by exact fun _ _ _ h => h) (Or.inl ⟨by rfl, ?hy5⟩) (by assumption) ?_
 case hy5 => (intro w hSw; (try dsimp only at hSw); go_simp; first | done | (with_reducible rfl))
 (try simp only [Act.put, List.setIfInBounds_toArray, List.set_cons_zero, List.set_cons_succ])
 refine wpAnyH_take (i := 4) (v := ?v6) (by simp only [List.getElem?_toArray, List.getElem?_cons_succ, List.getElem?_cons_zero]; rfl) (by kernel_rfl) (by kernel_rfl) (by kernel_rfl) (by exact fun _ _ _ h => h) (Or.inl ⟨by rfl, ?hy6⟩) (by assumption) ?_
 case hy6 => (intro w hSw; (try dsimp only at hSw); go_simp; first | done | (with_reducible rfl))
 (try simp only [Act.put, List.setIfInBounds_toArray, List.set_cons_zero, List.set_cons_succ])
 refine wpAnyH_take (i := 5) (v := ?v7) (by simp only [List.getElem?_toArray, List.getElem?_cons_succ, List.getElem?_cons_zero]; rfl) (by kernel_rfl) (by kernel_rfl) (by kernel_rfl) (by exact fun _ _ _ h => h) (Or.inl ⟨by rfl, ?hy7⟩) (by assumption) ?_
 case hy7 => (intro w hSw; (try dsimp only at hSw); go_simp; first | done | (with_reducible rfl))
 (try simp only [Act.put, List.setIfInBounds_toArray, List.set_cons_zero, List.set_cons_succ])
 refine wpAnyH_take (i := 6) (v := ?v8) (by simp only [List.getElem?_toArray, List.getElem?_cons_succ, List.getElem?_cons_zero]; rfl) (by kernel_rfl) (by kernel_rfl) (by kernel_rfl) (by exact fun _ _ _ h => h) (Or.inl ⟨by rfl, ?hy8⟩) (by assumption) ?_
 case hy8 => (intro w hSw; (try dsimp only at hSw); go_simp; first | done | (with_reducible rfl))
 (try simp only [Act.put, List.setIfInBounds_toArray, List.set_cons_zero, List.set_cons_succ])
 refine wpAnyH_take (i := 7) (v := ?v9) (by simp only [List.getElem?_toArray, List.getElem?_cons_succ, List.getElem?_cons_zero]; rfl) (by kernel_rfl) (by kernel_rfl) (by kernel_rfl) (by exact fun _ _ _ h => h) (Or.inl ⟨by rfl, ?hy9⟩) (by assumption) ?_
 case hy9 => (intro w hSw; (try dsimp only at hSw); go_simp; first | done | (with_reducible rfl))
 (try simp only [Act.put, List.setIfInBounds_toArray, List.set_cons_zero, List.set_cons_succ])
 refine wpAnyH_take (i := 8) (v := ?v10) (by simp only [List.getElem?_toArray, List.getElem?_cons_succ, List.getElem?_cons_zero]; rfl) (by kernel_rfl) (by kernel_rfl) (by kernel_rfl) (by exact fun _ _ _ h => h) (Or.inl ⟨by rfl, ?hy10⟩) (by assumption) ?_
 case hy10 => (intro w hSw; (try dsimp only at hSw); go_simp; first | done | (with_reducible rfl))
 (try simp only [Act.put, List.setIfInBounds_toArray, List.set_cons_zero, List.set_cons_succ])
 refine wpAnyH_take (i := 9) (v := ?v11) (by simp only [List.getElem?_toArray, List.getElem?_cons_succ, List.getElem?_cons_zero]; rfl) (by kernel_rfl) (by kernel_rfl) (by kernel_rfl) (by exact fun _ _ _ h => h) (Or.inl ⟨by rfl, ?hy11⟩) (by assumption) ?_
 case hy11 => (intro w hSw; (try dsimp only at hSw); go_simp; first | done | (with_reducible rfl))
 (try simp only [Act.put, List.setIfInBounds_toArray, List.set_cons_zero, List.set_cons_succ])
 refine wpAnyH_take (i := 10) (v := ?v12) (by simp only [List.getElem?_toArray, List.getElem?_cons_succ, List.getElem?_cons_zero]; rfl) (by kernel_rfl) (by kernel_rfl) (by kernel_rfl) (by exact fun _ _ _ h => h) (Or.inl ⟨by rfl, ?hy12⟩) (by assumption) ?_
 case hy12 => (intro w hSw; (try dsimp only at hSw); go_simp; first | done | (with_reducible rfl))
 (try simp only [Act.put, List.setIfInBounds_toArray, List.set_cons_zero, List.set_cons_succ])
 refine wpAnyH_ready (rs := [11]) (by kernel_rfl) (by simp) ?_
 refine AllReadyH.cons (by simp only [List.getElem?_toArray, List.getElem?_cons_succ, List.getElem?_cons_zero]; rfl) (fun K hK => ?_) AllReadyH.nil
 go_simp
 go_wp2_with (go_at_call 20; refine (unhide HEN _ _ _ _ ((unhide HV5).2.2.2.2.1.below (Below.refl _ _).drew)).mono ?_; rintro e w5 ⟨b5, ve, fv, rfl, hE5⟩; obtain ⟨HV6, hS5, tz5, lt5⟩ := hand5 b5 hE5 (unhide HV5) hlt4; obtain ⟨ae, ce, rfl⟩ := own_slice hE5.1; have HE5 := hide hE5; clear hE5 b5)
 refine hK.out _ _ (hS5) (fun hh1 => ?_)
 clear hK K
 (try simp only [Act.put, List.setIfInBounds_toArray, List.set_cons_zero, List.set_cons_succ])
 refine wpAnyH_take (i := 12) (v := ?v13) (by simp only [List.getElem?_toArray, List.getElem?_cons_succ, List.getElem?_cons_zero]; rfl) (by kernel_rfl) (by kernel_rfl) (by kernel_rfl) (by exact fun _ _ _ h => h) (Or.inl ⟨by rfl, ?hy13⟩) (by assumption) ?_
 case hy13 => (intro w hSw; (try dsimp only at hSw); go_simp; first | done | (with_reducible rfl))
 (try simp only [Act.put, List.setIfInBounds_toArray, List.set_cons_zero, List.set_cons_succ])
 refine wpAnyH_take (i := 13) (v := ?v14) (by simp only [List.getElem?_toArray, List.getElem?_cons_succ, List.getElem?_cons_zero]; rfl) (by kernel_rfl) (by kernel_rfl) (by kernel_rfl) (by exact fun _ _ _ h => h) (Or.inl ⟨by rfl, ?hy14⟩) (by assumption) ?_
 case hy14 => (intro w hSw; (try dsimp only at hSw); go_simp; first | done | (with_reducible rfl))
 (try simp only [Act.put, List.setIfInBounds_toArray, List.set_cons_zero, List.set_cons_succ])
 obtain ⟨t1, t2, t3⟩ := twr_facts (n0 := w.heap.size) (unhide HV6).2.1 HLE (.int .u16 (F.specials[0]?.getD 0)) (.int .u16 (F.specials[1]?.getD 0)) (.int .u16 (F.specials[2]?.getD 0)) (.int .u16 (F.specials[3]?.getD 0)) (.int .u16 (F.specials[4]?.getD 0))
 have hS6 := hS_kp hS5 t3 t1 hlt4 lt5
 have tz6 := fz_of t1
 obtain ⟨-, -, z2, z3, z4, z5, z6, z7, z8, -⟩ := cells9 (unhide HV6).2.1
 refine wpAnyH_ready (rs := [14]) (by kernel_rfl) (by simp) ?_
 refine AllReadyH.cons (by simp only [List.getElem?_toArray, List.getElem?_cons_succ, List.getElem?_cons_zero]; rfl) (fun K hK => ?_) AllReadyH.nil
 go_simp
 refine hK.out _ _ (hS6) (fun hh2 => ?_)
 clear hK K
 (try simp only [Act.put, List.setIfInBounds_toArray, List.set_cons_zero, List.set_cons_succ])
 refine wpAnyH_take (i := 15) (v := ?v15) (by simp only [List.getElem?_toArray, List.getElem?_cons_succ, List.getElem?_cons_zero]; rfl) (by kernel_rfl) (by kernel_rfl) (by kernel_rfl) (by exact fun _ _ _ h => h) (Or.inl ⟨by rfl, ?hy15⟩) (by assumption) ?_
 case hy15 => (intro w hSw; (try dsimp only at hSw); go_simp; first | done | (with_reducible rfl))
 (try simp only [Act.put, List.setIfInBounds_toArray, List.set_cons_zero, List.set_cons_succ])
 refine wpAnyH_take (i := 16) (v := ?v16) (by simp only [List.getElem?_toArray, List.getElem?_cons_succ, List.getElem?_cons_zero]; rfl) (by kernel_rfl) (by kernel_rfl) (by kernel_rfl) (by exact fun _ _ _ h => h) (Or.inl ⟨by rfl, ?hy16⟩) (by assumption) ?_
 case hy16 => (intro w hSw; (try dsimp only at hSw); go_simp; first | done | (with_reducible rfl))
 (try simp only [Act.put, List.setIfInBounds_toArray, List.set_cons_zero, List.set_cons_succ])
 have t4 : ((twr w5 tb (.int .u16 (F.specials[0]?.getD 0)) (.int .u16 (F.specials[1]?.getD 0)) (.int .u16 (F.specials[2]?.getD 0)) (.int .u16 (F.specials[3]?.getD 0)) (.int .u16 (F.specials[4]?.getD 0))).setCell ⟨tb, 7, none⟩ (.slice au F.rules.length cu)).heap[tb]? = some (.cells #[.pointer (some ⟨P.fb, 0, none⟩), .pointer (some ⟨wb, 0, none⟩), .int .u16 (F.specials[0]?.getD 0), .int .u16 (F.specials[1]?.getD 0), .int .u16 (F.specials[2]?.getD 0), .int .u16 (F.specials[3]?.getD 0), .int .u16 (F.specials[4]?.getD 0), .slice au F.rules.length cu, .slice none 0 0] 72 (0, 0)) := set_heap1 t1 _
 have hS7 := hS_kp hS6 (kp_set _ tb 7 (.slice au F.rules.length cu)) t4 hlt4 (Nat.lt_of_lt_of_le lt5 t3.1)
 have tz7 := fz_of t4
 refine wpAnyH_ready (rs := [17]) (by kernel_rfl) (by simp) ?_
 refine AllReadyH.cons (by simp only [List.getElem?_toArray, List.getElem?_cons_succ, List.getElem?_cons_zero]; rfl) (fun K hK => ?_) AllReadyH.nil
 go_simp
 refine hK.out _ _ (hS7) (fun hh3 => ?_)
 clear hK K
 (try simp only [Act.put, List.setIfInBounds_toArray, List.set_cons_zero, List.set_cons_succ])
 refine wpAnyH_take (i := 18) (v := ?v17) (by simp only [List.getElem?_toArray, List.getElem?_cons_succ, List.getElem?_cons_zero]; rfl) (by kernel_rfl) (by kernel_rfl) (by kernel_rfl) (by exact fun _ _ _ h => h) (Or.inl ⟨by rfl, ?hy17⟩) (by assumption) ?_
 case hy17 => (intro w hSw; (try dsimp only at hSw); go_simp; first | done | (with_reducible rfl))
 (try simp only [Act.put, List.setIfInBounds_toArray, List.set_cons_zero, List.set_cons_succ])
 refine wpAnyH_take (i := 19) (v := ?v18) (by simp only [List.getElem?_toArray, List.getElem?_cons_succ, List.getElem?_cons_zero]; rfl) (by kernel_rfl) (by kernel_rfl) (by kernel_rfl) (by exact fun _ _ _ h => h) (Or.inl ⟨by rfl, ?hy18⟩) (by assumption) ?_
 case hy18 => (intro w hSw; (try dsimp only at hSw); go_simp; first | done | (with_reducible rfl))
 (try simp only [Act.put, List.setIfInBounds_toArray, List.set_cons_zero, List.set_cons_succ])
 refine wpAnyH_done (by kernel_rfl) ?_ _
 show Oper.wp _ _ _ _ _ _
 go_simp
 apply unhide HK0
 refine gen_world ?_
 intro V5 hV5
 obtain ⟨HT5, c5⟩ := hand6 (unhide HV6) (unhide HE5) HLE V5 (by rw [hV5]; rfl)
 obtain ⟨v0, v1, v2, vz⟩ := fault3 c5
 clear hV5 t1 t2 t3 t4 hS5 hS6 hS7 tz5 tz6 tz7 z2 z3 z4 z5 z6 z7 z8 HK0 HEN HV5 HV6 HE5 lt5 hlt4 hS
 go_wp2
 obtain ⟨g1, g2, g3⟩ := swr_facts (n0 := w.heap.size) c5 (Nat.le_refl _) (.int .i64 0) (.int .i64 0) (.int .i64 0)
 obtain ⟨m0, m1, m2, mz⟩ := fault3 g1
 show bodyPost _ _ _ _ _ (swr V5 w.heap.size (.int .i64 0) (.int .i64 0) (.int .i64 0))
 refine bodyPost_ret (v := .tuple #[.pointer (some ⟨tb, 0, none⟩), .agg #[.int .i64 0, .int .i64 0, .int .i64 0]]) (by simp [results, Tryz.results26, go_sem, m0, m1, m2]) rfl ?_
 exact ⟨(unhide HT5).2.trans g2, tb, B, P, n0, wb, Q, _, _, _, _, rfl, (unhide HT5).1.stay (Kq.kp g3 c5 (by simp))⟩
theorem tread_any {w : World} (a s : ByteArray) (hM : Mx w.heap.size w) : Calls Tryz.prog 26 #[.string a, .string s] w (TRes w (tabR a.data.toList s.data.toList)) := by
 unfold tabR
 cases ha : affR a.data.toList with
 | error er =>
  refine (tread_aff a s hM ha).mono ?_
  rintro e w' ⟨rfl, b⟩
  exact ⟨b, rfl⟩
 | ok F =>
  cases hx : dicR F s.data.toList with
  | error er =>
   refine (tread_dic a s hM ha hx).mono ?_
   rintro e w' ⟨rfl, b⟩
   simp only [hx]
   exact ⟨b, rfl⟩
  | ok E =>
   refine (tread_ok a s hM ha hx).mono ?_
   rintro e w' ⟨b, tb, B, P, n, wb, Q, vu, ve, nv, fv, rfl, h⟩
   simp only [hx]
   exact ⟨b, tb, B, P, n, wb, Q, vu, ve, nv, fv, rfl, h⟩
theorem Mx.up {w W : World} (h : Mx w.heap.size w) (b : Below w.heap.size w W) : Mx W.heap.size W := by
 obtain ⟨h1, h2⟩ := h.low b
 exact ⟨Nat.lt_of_lt_of_le h1 b.size, h2⟩
def DicOk (w1 : World) (fb : Nat) (F : Fil) : Prop := ∀ W, Below w1.heap.size w1 W → ∀ s : ByteArray, Calls Tryz.prog 18 #[.pointer (some ⟨fb, 0, none⟩), .string s] W (DRes W (dicR F s.data.toList))
theorem DicOk.yes {w1 W : World} {fb : Nat} {F : Fil} (h : DicOk w1 fb F) (b : Below w1.heap.size w1 W) {s : ByteArray} {E : List Ent} (hx : dicR F s.data.toList = .ok E) : Calls Tryz.prog 18 #[.pointer (some ⟨fb, 0, none⟩), .string s] W fun e w' => ∃ wb, e = .returned (.tuple #[.pointer (some ⟨wb, 0, none⟩), .agg #[.int .i64 0, .int .i64 0, .int .i64 0]]) ∧ Below W.heap.size W w' := by
 refine (h W b s).mono ?_
 rintro e w' ⟨q1, q2⟩
 rw [hx] at q2
 obtain ⟨n0, wb, Q, -, q3, -⟩ := q2
 exact ⟨wb, q3, q1⟩
theorem TbAt.cells {w : World} {tb B n wb : Nat} {F : Fil} {P : Pts} {E : List Ent} {Q : WPts} {vu ve : Value} {nv fv : List Value} (h : TbAt w tb B F P n wb E Q vu ve nv fv) : w.cell? ⟨tb, 0, none⟩ = some (.pointer (some ⟨P.fb, 0, none⟩)) ∧ w.cell? ⟨tb, 2, none⟩ = some (.int .u16 (F.specials.getD 0 0)) ∧ w.cell? ⟨tb, 3, none⟩ = some (.int .u16 (F.specials.getD 1 0)) ∧ w.cell? ⟨tb, 4, none⟩ = some (.int .u16 (F.specials.getD 2 0)) ∧ w.cell? ⟨tb, 5, none⟩ = some (.int .u16 (F.specials.getD 3 0)) ∧ w.cell? ⟨tb, 6, none⟩ = some (.int .u16 (F.specials.getD 4 0)) ∧ w.cell? ⟨tb, 7, none⟩ = some vu ∧ w.cell? ⟨tb, 8, none⟩ = some ve ∧ tb < w.heap.size := by
 refine ⟨?_, ?_, ?_, ?_, ?_, ?_, ?_, ?_, lt_some h.hd⟩ <;> simp [World.cell?, h.hd, tbC]
theorem res_at {w w1 : World} {c : Array Value} {o : TypeId} (hb : Below (w.alloc (.cells c o)).heap.size (w.alloc (.cells c o)) w1) : w1.heap[w.heap.size]? = some (.cells c o (0, 0)) ∧ Below w.heap.size w w1 := by
 have h := hb.block w.heap.size (by simp)
 rw [alloc_new] at h
 exact ⟨h, ((Below.refl _ _).alloc (Nat.le_refl _) _).trans (hb.mono (by simp))⟩
theorem entry_in {w : World} {tb B n wb : Nat} {F : Fil} {P : Pts} {E : List Ent} {Q : WPts} {vu ve : Value} {nv fv : List Value} (h : TbAt w tb B F P n wb E Q vu ve nv fv) (hm : E.length ≤ 1000000) {k : Nat} {x : Ent} (hx : E[k]? = some x) :
  Calls Tryz.prog 52 #[.pointer (some ⟨tb, 0, none⟩), .int .i64 (k : Nat)] w fun e w' => ∃ a c, e = .returned (.tuple #[.agg #[.string (Wd.str x.word), .slice a x.flags.length c], .bool true]) ∧ So.FArg w (.slice a x.flags.length c) x.flags ∧ Below w.heap.size w w' := by
 have hk := (List.getElem?_eq_some_iff.1 hx).1
 obtain ⟨g, cap, rfl, -, hg, h1, h2, -, h3⟩ := own_at h.ent.1 (by omega)
 obtain ⟨u, hu⟩ : ∃ u, fv[k]? = some u := ⟨_, List.getElem?_eq_getElem (by rw [h.ent.2.1]; exact hk)⟩
 have hf := (h.ent.2.2 k u x hu hx).arg
 obtain ⟨q0, q1⟩ := flatE_get h.ent.2.1 hx hu
 have hq : ∀ i, i < 2 → w.cell? ⟨g, k * 2 + i, none⟩ = (entC x u)[i]? := fun i hi => by
  rw [h3 _ (by omega)]
  match i, hi with
  | 0, _ => exact q0
  | 1, _ => exact q1
 obtain ⟨a, c, rfl, -⟩ := id hf
 have HF := hide hf
 have d8 := h.cells.2.2.2.2.2.2.2.1
 have hlt := h.cells.2.2.2.2.2.2.2.2
 have HA := hide (fun W (b : Below w.heap.size w W) => atE_in (w := W) (g := g) (m := E.length) (cap := cap) (k := k) hk hm ((b.cell (p := ⟨g, k * 2 + 0, none⟩) hg).trans (hq 0 (by omega))) ((b.cell (p := ⟨g, k * 2 + 1, none⟩) hg).trans (hq 1 (by omega))))
 generalize E.length = m at *
 generalize x.flags.length = nf at *
 generalize Wd.str x.word = sw at *
 clear h hx hu hq q0 q1 hf h3 hk h1 h2
 go_enter Tryz.func52, Tryz.ntmps52
 go_wp2_with fail
 refine (unhide HA _ (by first | exact (Below.refl _ _).alloc (Nat.le_refl _) _ | exact ((Below.refl _ _).alloc (Nat.le_refl _) _).drew)).mono ?_
 rintro e w1 ⟨rfl, b1⟩
 obtain ⟨h2, b2⟩ := res_at b1
 have e0 : w1.cell? ⟨w.heap.size, 0, none⟩ = some (.string ⟨#[]⟩) := by simp [World.cell?, h2]
 have e1 : w1.cell? ⟨w.heap.size, 1, none⟩ = some (.slice none 0 0) := by simp [World.cell?, h2]
 have ez : ∀ k, w1.frozen? ⟨w.heap.size, k, none⟩ = false := fun k => by simp [World.frozen?, h2]
 have HS : Hid (∀ V, V = ((w1.setCell ⟨w.heap.size, 0, none⟩ (.string sw)).setCell ⟨w.heap.size, 1, none⟩ (.slice a nf c)) → V.heap[w.heap.size]? = some (.cells #[.string sw, .slice a nf c] 56 (0, 0)) ∧ Below w.heap.size w V) := fun V hV => by
  subst hV
  exact ⟨set_heap1 (set_heap1 h2 _) _, ((b2.trans ((Below.refl _ _).setCell (p := ⟨w.heap.size, 0, none⟩) (Nat.le_refl _) _)).trans ((Below.refl _ _).setCell (p := ⟨w.heap.size, 1, none⟩) (Nat.le_refl _) _))⟩
 clear b1 b2 h2
 go_wp2
 obtain ⟨s1, s2⟩ := unhide HS _ rfl
 clear HS
 show bodyPost _ _ _ _ _ ((w1.setCell ⟨w.heap.size, 0, none⟩ (.string sw)).setCell ⟨w.heap.size, 1, none⟩ (.slice a nf c))
 refine bodyPost_ret (v := .tuple #[.agg #[.string sw, .slice a nf c], .bool true]) (by simp only [results, Tryz.results52]; simp [go_sem, World.cell?, s1]) rfl ?_
 exact ⟨a, c, rfl, unhide HF, s2⟩
theorem rule_in {w : World} {tb B n wb : Nat} {F : Fil} {P : Pts} {E : List Ent} {Q : WPts} {vu ve : Value} {nv fv : List Value} (h : TbAt w tb B F P n wb E Q vu ve nv fv) (hm : F.rules.length ≤ 1000000) {k : Nat} {r : Rul} (hx : F.rules[k]? = some r) :
  Calls Tryz.prog 54 #[.pointer (some ⟨tb, 0, none⟩), .int .i64 (k : Nat)] w fun e w' => ∃ a c, e = .returned (.tuple #[.agg #[.int .i64 r.kind, .int .u16 r.flag, .bool r.cross, .string (Wd.str r.strip), .string (Wd.str r.add), .string (Wd.str r.cond), .slice a r.next.length c], .bool true]) ∧ So.FArg w (.slice a r.next.length c) r.next ∧ Below w.heap.size w w' := by
 have hk := (List.getElem?_eq_some_iff.1 hx).1
 obtain ⟨g, cap, rfl, -, hg, h1, h2, -, h3⟩ := own_at h.rul.1 (by omega)
 obtain ⟨u, hu⟩ : ∃ u, nv[k]? = some u := ⟨_, List.getElem?_eq_getElem (by rw [h.rul.2.1]; exact hk)⟩
 have hf := (h.rul.2.2 k u r hu hx).arg
 have hz : (F.rules.zip nv)[k]? = some (r, u) := by rw [List.getElem?_zip_eq_some]; exact ⟨hx, hu⟩
 have hq : ∀ i, i < 7 → w.cell? ⟨g, k * 7 + i, none⟩ = (rulC r u)[i]? := fun i hi => by
  rw [h3 _ (by omega)]
  exact flat_get (f := fun p => rulC p.1 p.2) (m := 7) (fun x => rfl) (k := i) hz hi
 obtain ⟨a, c, rfl, -⟩ := id hf
 have HF := hide hf
 have d8 := h.cells.2.2.2.2.2.2.1
 have hlt := h.cells.2.2.2.2.2.2.2.2
 have HA := hide (fun W (b : Below w.heap.size w W) => atR_in (w := W) (g := g) (m := F.rules.length) (cap := cap) (k := k) hk hm ((b.cell (p := ⟨g, k * 7 + 0, none⟩) hg).trans (hq 0 (by omega))) ((b.cell (p := ⟨g, k * 7 + 1, none⟩) hg).trans (hq 1 (by omega))) ((b.cell (p := ⟨g, k * 7 + 2, none⟩) hg).trans (hq 2 (by omega))) ((b.cell (p := ⟨g, k * 7 + 3, none⟩) hg).trans (hq 3 (by omega))) ((b.cell (p := ⟨g, k * 7 + 4, none⟩) hg).trans (hq 4 (by omega))) ((b.cell (p := ⟨g, k * 7 + 5, none⟩) hg).trans (hq 5 (by omega))) ((b.cell (p := ⟨g, k * 7 + 6, none⟩) hg).trans (hq 6 (by omega))))
 generalize F.rules.length = m at *
 generalize r.next.length = nf at *
 generalize r.kind = k0 at *
 generalize r.flag = k1 at *
 generalize r.cross = k2 at *
 generalize Wd.str r.strip = k3 at *
 generalize Wd.str r.add = k4 at *
 generalize Wd.str r.cond = k5 at *
 clear h hx hu hq hz hf h3 hk h1 h2
 go_enter Tryz.func54, Tryz.ntmps54
 go_wp2_with fail
 refine (unhide HA _ (by first | exact (Below.refl _ _).alloc (Nat.le_refl _) _ | exact ((Below.refl _ _).alloc (Nat.le_refl _) _).drew)).mono ?_
 rintro e w1 ⟨rfl, b1⟩
 obtain ⟨h2, b2⟩ := res_at b1
 have e0 : w1.cell? ⟨w.heap.size, 0, none⟩ = some (.int .i64 0) := by simp [World.cell?, h2]
 have e1 : w1.cell? ⟨w.heap.size, 1, none⟩ = some (.int .u16 0) := by simp [World.cell?, h2]
 have e2 : w1.cell? ⟨w.heap.size, 2, none⟩ = some (.bool false) := by simp [World.cell?, h2]
 have e3 : w1.cell? ⟨w.heap.size, 3, none⟩ = some (.string ⟨#[]⟩) := by simp [World.cell?, h2]
 have e4 : w1.cell? ⟨w.heap.size, 4, none⟩ = some (.string ⟨#[]⟩) := by simp [World.cell?, h2]
 have e5 : w1.cell? ⟨w.heap.size, 5, none⟩ = some (.string ⟨#[]⟩) := by simp [World.cell?, h2]
 have e6 : w1.cell? ⟨w.heap.size, 6, none⟩ = some (.slice none 0 0) := by simp [World.cell?, h2]
 have ez : ∀ k, w1.frozen? ⟨w.heap.size, k, none⟩ = false := fun k => by simp [World.frozen?, h2]
 have HS : Hid (∀ V, V = (((((((w1.setCell ⟨w.heap.size, 0, none⟩ (.int .i64 k0)).setCell ⟨w.heap.size, 1, none⟩ (.int .u16 k1)).setCell ⟨w.heap.size, 2, none⟩ (.bool k2)).setCell ⟨w.heap.size, 3, none⟩ (.string k3)).setCell ⟨w.heap.size, 4, none⟩ (.string k4)).setCell ⟨w.heap.size, 5, none⟩ (.string k5)).setCell ⟨w.heap.size, 6, none⟩ (.slice a nf c)) → V.heap[w.heap.size]? = some (.cells #[.int .i64 k0, .int .u16 k1, .bool k2, .string k3, .string k4, .string k5, .slice a nf c] 79 (0, 0)) ∧ Below w.heap.size w V) := fun V hV => by
  subst hV
  exact ⟨set_heap1 (set_heap1 (set_heap1 (set_heap1 (set_heap1 (set_heap1 (set_heap1 h2 _) _) _) _) _) _) _, (((((((b2.trans ((Below.refl _ _).setCell (p := ⟨w.heap.size, 0, none⟩) (Nat.le_refl _) _)).trans ((Below.refl _ _).setCell (p := ⟨w.heap.size, 1, none⟩) (Nat.le_refl _) _)).trans ((Below.refl _ _).setCell (p := ⟨w.heap.size, 2, none⟩) (Nat.le_refl _) _)).trans ((Below.refl _ _).setCell (p := ⟨w.heap.size, 3, none⟩) (Nat.le_refl _) _)).trans ((Below.refl _ _).setCell (p := ⟨w.heap.size, 4, none⟩) (Nat.le_refl _) _)).trans ((Below.refl _ _).setCell (p := ⟨w.heap.size, 5, none⟩) (Nat.le_refl _) _)).trans ((Below.refl _ _).setCell (p := ⟨w.heap.size, 6, none⟩) (Nat.le_refl _) _))⟩
 clear b1 b2 h2
 go_wp2
 obtain ⟨s1, s2⟩ := unhide HS _ rfl
 clear HS
 show bodyPost _ _ _ _ _ (((((((w1.setCell ⟨w.heap.size, 0, none⟩ (.int .i64 k0)).setCell ⟨w.heap.size, 1, none⟩ (.int .u16 k1)).setCell ⟨w.heap.size, 2, none⟩ (.bool k2)).setCell ⟨w.heap.size, 3, none⟩ (.string k3)).setCell ⟨w.heap.size, 4, none⟩ (.string k4)).setCell ⟨w.heap.size, 5, none⟩ (.string k5)).setCell ⟨w.heap.size, 6, none⟩ (.slice a nf c))
 refine bodyPost_ret (v := .tuple #[.agg #[.int .i64 k0, .int .u16 k1, .bool k2, .string k3, .string k4, .string k5, .slice a nf c], .bool true]) (by simp only [results, Tryz.results54]; simp [go_sem, World.cell?, s1]) rfl ?_
 exact ⟨a, c, rfl, unhide HF, s2⟩
theorem special_0 {w : World} {tb B n wb : Nat} {F : Fil} {P : Pts} {E : List Ent} {Q : WPts} {vu ve : Value} {nv fv : List Value} (h : TbAt w tb B F P n wb E Q vu ve nv fv) (h0 : F.specials.getD 0 0 = 0) (v : Value) :
  Calls Tryz.prog 66 #[.pointer (some ⟨tb, 0, none⟩), v, .int .i64 0] w fun e w' => e = .returned (.bool false) ∧ w' = w := by
 have d2 := h.cells.2.1
 have hlt := h.cells.2.2.2.2.2.2.2.2
 rw [h0] at d2
 have HA := hide (atF_in (w := w) (g := tb) (off := 2) (m := 5) (cap := 5) (k := 0) (x := 0) (by omega) (by omega) d2)
 clear h h0
 go_enter Tryz.func66, Tryz.ntmps66
 go_wp2_with fail
 refine (unhide HA).mono ?_
 rintro e w1 ⟨rfl, hw⟩
 obtain rfl := hw.symm
 go_wp2
 go_ret
 exact ⟨rfl, rfl⟩
theorem ends_0 {w : World} {tb B n wb : Nat} {F : Fil} {P : Pts} {E : List Ent} {Q : WPts} {vu ve : Value} {nv fv : List Value} (h : TbAt w tb B F P n wb E Q vu ve nv fv) (hm : F.rules.length ≤ 1000000) {k : Nat} {r : Rul} (hx : F.rules[k]? = some r) (h0 : F.specials.getD 0 0 = 0) :
  Calls Tryz.prog 51 #[.pointer (some ⟨tb, 0, none⟩), .int .i64 (k : Nat)] w fun e w' => e = .returned (.bool true) ∧ Below w.heap.size w w' := by
 have HR := hide (rule_in h hm hx)
 have HS := hide (fun W (b : Below w.heap.size w W) v => special_0 (h.below b) h0 v)
 clear h hm hx h0
 go_enter Tryz.func51, Tryz.ntmps51
 go_wp2_with fail
 refine (unhide HR).mono ?_
 rintro e w1 ⟨a, c, rfl, -, b1⟩
 have B1 := hide b1
 clear b1
 go_wp2_with fail
 refine (unhide HS _ ((unhide B1).alloc (unhide B1).size _) _).mono ?_
 rintro e w2 ⟨rfl, hw⟩
 obtain rfl := hw.symm
 go_wp2
 go_ret
 exact ⟨rfl, (unhide B1).alloc (unhide B1).size _⟩
end Af
end Go.Proofs.YtidhbhdcoanfcaaGreatDoor
