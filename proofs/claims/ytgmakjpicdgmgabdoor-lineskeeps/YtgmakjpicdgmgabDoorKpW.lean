/- The walk of the law that marks written into an answer are seen in no other: it answers true. -/
import Derived.Test.YtgmakjpicdgmgabDoorKpA
import Derived.Test.YtgmakjpicdgmgabDoorWake
import Derived.ArgAppend
namespace Go.Proofs.YtgmakjpicdgmgabDoor
open Go.RowKit
namespace KpW
open FldW RowB EachW KpM

theorem slice_of {n : Nat} {W : World} {v : Value} {E : List (Nat × Value)} (h : W.ownsRow n 40 2 v E.length (cellsE E)) : ∃ a c, v = .slice a E.length c ∧ E.length ≤ c := by
  obtain ⟨_, ⟨rfl, h0⟩ | ⟨g, cap, cur, rfl, hg, hh, hc, hm, hsz, htk⟩⟩ := h
  · exact ⟨none, 0, by rw [h0], by omega⟩
  · exact ⟨_, cap, rfl, hc⟩

theorem exact_cells {n : Nat} {X : World} {a : Option Addr} {N c : Nat} {Q : List (Nat × List (List UInt8))} (h : RowsAre n 40 X (.slice a N c) Q) {k : Nat} {r : Nat × List (List UInt8)} (hr : Q[k]? = some r) :
    ∃ ga gi, a = some ⟨ga, 0, none⟩ ∧ X.cell? ⟨ga, k * 2, none⟩ = some (.int .i64 (r.1 : Int)) ∧ X.cell? ⟨ga, k * 2 + 1, none⟩ = some (.slice (some ⟨gi, 0, none⟩) r.2.length r.2.length) ∧ ∀ (q : Nat) f, r.2[q]? = some f → X.cell? ⟨gi, q, none⟩ = some (.string (Fld.str f)) := by
  obtain ⟨E, hF, hO, hN, hX⟩ := h
  obtain ⟨ga, cap, gi, ev, _, he⟩ := fixed hF hO hX hr
  injection ev with e1 e2 e3
  subst e1
  obtain ⟨c1, c2⟩ := cellsE_get E k _ he
  have k1 := hO.cells (g := ga) rfl _ _ c1
  have k2 := hO.cells (g := ga) rfl _ _ c2
  rw [add0, Nat.mul_comm] at k1 k2
  refine ⟨ga, gi, rfl, k1, k2, fun q f hq => ?_⟩
  obtain ⟨r2, h2, _, h3⟩ := hF.get k _ he
  rw [hr] at h2
  cases h2
  obtain ⟨ao, cap2, e4, _, h4 | ⟨g4, o4, e5, h5⟩⟩ := isStrs_of_row h3
  · simp at h4
    rw [h4] at hq
    simp at hq
  · injection e4 with e6 _ _
    rw [← e6] at e5
    injection e5 with e7
    injection e7 with e8 e9
    subst e8
    subst e9
    have := h5 q (Fld.str f) (by simp [hq])
    simpa using this
theorem ref_cells {n : Nat} {X : World} {a : Option Addr} {N c : Nat} {R : List (Nat × List (List UInt8))} (h : RowsAre n 57 X (.slice a N c) R) {k : Nat} {r : Nat × List (List UInt8)} (hr : R[k]? = some r) :
    ∃ gw aw cw, a = some ⟨gw, 0, none⟩ ∧ X.cell? ⟨gw, k * 2, none⟩ = some (.int .i64 (r.1 : Int)) ∧ X.cell? ⟨gw, k * 2 + 1, none⟩ = some (.slice aw r.2.length cw) := by
  obtain ⟨a2, c2, e, _, _, h2⟩ := SRow.rows_cells h
  have hk : k < R.length := (List.getElem?_eq_some_iff.1 hr).1
  obtain ⟨g, rfl, h3⟩ := h2 (by omega)
  obtain ⟨fv, k1, k2, ao, cap, rfl, _⟩ := h3 k r hr
  injection e with e1 _ _
  rw [Nat.mul_comm] at k1 k2
  exact ⟨g, ao, cap, e1, k1, by rw [k2, List.length_map]⟩
theorem marked_get {R : List (Nat × List (List UInt8))} {k : Nat} {r : Nat × List (List UInt8)} (hr : R[k]? = some r) : (marked R)[k]? = some (r.1, List.replicate r.2.length markL) := by
  rw [marked, List.getElem?_map, hr]
  rfl
theorem own_slice {W : World} {n m : Nat} {v : Value} {xs : List Value} (h : W.ownsRow n 9 1 v (m + 20) xs) : ∃ al cl, v = .slice al (m + 20) cl := by
  obtain ⟨_, ⟨_, h0⟩ | ⟨g, cap, cur, rfl, _⟩⟩ := h
  · omega
  · exact ⟨_, cap, rfl⟩
theorem below_two {W w' : World} {o : Obj} (hg : (W.alloc o).grownBy w' none) : Below W.heap.size W w' :=
  ((Below.refl _ W).alloc (Nat.le_refl _) o).grown hg (by simp) (fun k e => by cases e)

set_option maxRecDepth 100000 in
set_option maxHeartbeats 4000000 in
theorem walk (s o : ByteArray) (w : World) (hM : MaxIs w) :
    Calls Tryd.prog 8 #[.string s, .string o] w fun e w' => e = .returned (.bool true) ∧ Below w.heap.size w w' := by
  obtain ⟨i0, hi, hz0, hz1, hz2⟩ := info_parts info9
  go_enter Tryd.func8, Tryd.ntmps8
  go_wp2_with fail
  refine (Wake.wakes_any _).mono ?_
  rintro e w0 ⟨rfl, hB0⟩
  have hM0 := maxIs_on hM hB0
  go_wp2_with fail
  refine (ref_any s _).mono ?_
  rintro e w1 ⟨vW, qW, rfl, hW1, hB1⟩
  have hM1 := maxIs_on hM0 hB1
  go_wp2_with fail
  refine (rows_any s _ hM1).mono ?_
  rintro e w2 ⟨va, qa, rfl, hA2, hB2⟩
  have hM2 := maxIs_on hM1 hB2
  go_wp2_with fail
  refine (rows_any s _ hM2).mono ?_
  rintro e w3 ⟨vb, qb, rfl, hb3, hB3⟩
  have hM3 := maxIs_on hM2 hB3
  go_wp2_with fail
  refine (rows_any o _ hM3).mono ?_
  rintro e w4 ⟨vo, qo, rfl, _, hB4⟩
  have hB34 := hB3.trans (hB4.mono hB3.size)
  have hB24 := hB2.trans (hB34.mono hB2.size)
  have hB14 := hB1.trans (hB24.mono hB1.size)
  go_wp2_with fail
  refine (SRow.same_true _ _ _ _ _ _ (hA2.below hB34) (hW1.below hB24)).mono ?_
  rintro e w5 ⟨rfl, n5, rfl⟩
  have hd5 := below_drewN (Below.refl w4.heap.size w4) n5
  go_wp2_with fail
  refine (SRow.same_true _ _ _ _ _ _ ((hb3.below hB4).below hd5) ((hW1.below hB24).below hd5)).mono ?_
  rintro e w6 ⟨rfl, n6, rfl⟩
  have hd6 : Below w4.heap.size w4 ((w4.drewN n5).drewN n6) := below_drewN hd5 n6
  have hEach := rows_each s
  have hMany := rows_many s
  generalize rowsAny s = R at *
  generalize (w4.drewN n5).drewN n6 = W0 at *
  have hsz24 := hB24.size
  have hn01 := hB1.size
  have hn12 := hB2.size
  have hn0 := hB0.size
  have HW := hide (hB0.trans (hB14.mono hB0.size) |>.trans (hd6.mono (Nat.le_trans (Nat.le_trans hn0 (Nat.le_trans hn01 hn12)) hB34.size)))
  have hB10 : Below w1.heap.size w1 W0 := hB24.trans (hd6.mono (Nat.le_trans hn12 hB34.size))
  have hB20 : Below w2.heap.size w2 W0 := hB34.trans (hd6.mono hB34.size)
  have hb0 : RowsAre w2.heap.size 40 W0 vb R := (hb3.below hB4).below hd6
  obtain ⟨E, hF2, hO2, hN2, hX2⟩ := hA2
  have hlt2 : ∀ e ∈ E, ∀ g, e.2.ownBlock = some g → g < w2.heap.size := by
    intro e he g hg
    obtain ⟨g2, h1, _, h2⟩ := hF2.blocks _ (List.mem_map.2 ⟨e, he, rfl⟩)
    rw [hg] at h1
    cases h1
    exact h2
  have hF0 := hF2.kept (Keep9.below hB20)
  have hO0 := Same.owns_below hO2 hB20
  have hEl := hF2.length
  obtain ⟨aA, cA, rfl, hcA⟩ := slice_of hO2
  obtain ⟨aW, cW, rfl, hcW, _, _⟩ := SRow.rows_cells hW1
  rw [hEl] at hcA
  have hO1 : W0.ownsRow w1.heap.size 40 2 (.slice aA R.length cA) E.length (cellsE E) := by rw [← hEl]; exact hO0
  have HL := hide hEl
  have HF := hide hF0
  have HO := hide hO1
  have HN := hide hN2
  have HX := hide hX2
  have HBV := hide hb0
  have HWV := hide hW1
  have HB10 := hide hB10
  have HLT := hide hlt2
  have HEA := hide hEach
  have hnw : w.heap.size ≤ w1.heap.size := Nat.le_trans hn0 hn01
  rw [hEl]
  clear hM hM0 hM1 hM2 hM3 hB0 hB1 hB2 hB3 hB4 hB34 hB24 hB14 hd5 hd6 hb3 hW1 hF2 hO2 hN2 hX2 hF0 hO0 hO1 hb0 hB10 hB20 hlt2 hEach hEl hsz24
  generalize hNR : R.length = N at *
  have HNR := hide hNR
  clear hNR
  go_wp2
  go_loopw [48] (fun i wr => ∃ k : Nat, k ≤ N ∧ i = .int .i64 k ∧ AM w1.heap.size W0 wr E R k 0) (fun i _ => N - (intOf i).toNat)
  case atStart => exact ⟨0, Nat.zero_le _, rfl, AM.start (unhide HF)⟩
  case round =>
    obtain ⟨k, hk, rfl, hAM⟩ := hrel
    by_cases hlt : k < N
    · obtain ⟨r, hr⟩ : ∃ r, R[k]? = some r := ⟨_, List.getElem?_eq_getElem (by rw [unhide HNR]; exact hlt)⟩
      obtain ⟨ga, capA, gi, ev, hcap, he⟩ := fixed (unhide HF) (unhide HO) (unhide HX) hr
      injection ev with e1 e2 e3
      subst e1
      have HC := hide (fun (W : World) (j : Nat) (h : AM w1.heap.size W0 W E R k j) => AM.cells h (unhide HF) (unhide HO) hr he)
      have HNX := hide (fun (W : World) (j : Nat) (h : AM w1.heap.size W0 W E R k j) (hj : j < r.2.length) => AM.next h (unhide HN) he hr hj rfl)
      have hz := unhide HEA r (List.mem_of_getElem? hr)
      have HE := hide (fun (W : World) (h : AM w1.heap.size W0 W E R k r.2.length) => AM.row_end h (fun r' hr' => by rw [hr] at hr'; cases hr'; rfl))
      obtain ⟨c1, _, _⟩ := unhide HC _ _ hAM
      clear e2 e3 hcap hr he
      generalize r.2.length = nk at *
      have HAM := hide hAM
      clear hAM
      go_wp2
      go_loopw [57] (fun i wi => ∃ j : Nat, j ≤ nk ∧ i = .int .i64 j ∧ AM w1.heap.size W0 wi E R k j) (fun i _ => nk - (intOf i).toNat)
      case atStart => exact ⟨0, Nat.zero_le _, rfl, unhide HAM⟩
      case round =>
        obtain ⟨j, hj, rfl, hAMj⟩ := hrel
        obtain ⟨d1, d2, d3⟩ := unhide HC _ _ hAMj
        by_cases hjl : j < nk
        · obtain ⟨x, hx⟩ := d2 j hjl
          have d4 := d3 j
          have HAJ := hide hAMj
          clear d2 d3 hAMj
          go_wp2
          go_roundw
          case rel => exact ⟨j + 1, by omega, by go_num, unhide HNX _ _ (unhide HAJ) hjl⟩
          case measure => simp [intOf]; omega
        · obtain rfl : j = nk := by omega
          have HAJ := hide hAMj
          clear d2 d3 hAMj
          go_wp2
          go_roundw
          case rel => exact ⟨k + 1, by omega, by go_num, unhide HE _ (unhide HAJ)⟩
          case measure => simp [intOf]; omega
    · obtain rfl : k = N := by omega
      have hAM2 : AM w1.heap.size W0 wr E R R.length 0 := by rw [unhide HNR]; exact hAM
      have hAw := AM.all (by decide) hAM2 (unhide HF) (unhide HO) ⟨unhide HN, unhide HX⟩
      have hbw := rows_up (unhide HBV) (fun g hg => hAM.other g (fun e he ho => by have := unhide HLT e he g ho; omega))
      have hww := (unhide HWV).below ((unhide HB10).trans hAM.below)
      have hBw := (unhide HW).trans (hAM.below.mono hnw)
      have HA1 := hide hAw
      have HB1 := hide hbw
      have HW1 := hide hww
      have HBW := hide hBw
      clear hAM2 hAw hbw hww hBw hAM HF HO HBV HWV HB10 HW HN HX HLT HL
      obtain ⟨V, hV⟩ : ∃ V, V = wr := ⟨_, rfl⟩
      subst hV
      have hVs := (unhide HBW).size
      go_wp2
      go_loopw [71] (fun i wr => ∃ m : Nat, m ≤ k ∧ i = .int .i64 m ∧ Below V.heap.size V wr) (fun i _ => k - (intOf i).toNat)
      case atStart => exact ⟨0, Nat.zero_le _, rfl, Below.refl _ _⟩
      case round =>
        obtain ⟨m, hm, rfl, hBV⟩ := hrel
        by_cases hml : m < k
        · obtain ⟨r, hr⟩ : ∃ r, R[m]? = some r := ⟨_, List.getElem?_eq_getElem (by rw [unhide HNR]; exact hml)⟩
          obtain ⟨ga, gi, rfl, _, ca2, ca3⟩ := exact_cells ((unhide HA1).below hBV) (marked_get hr)
          have HWX := hide (fun (X : World) (hX : Below wr.heap.size wr X) => ref_cells ((unhide HW1).below (hBV.trans (hX.mono hBV.size))) hr)
          have hz := unhide HEA r (List.mem_of_getElem? hr)
          simp only [List.length_replicate] at ca2
          have ca4 : ∀ q, q < r.2.length → wr.cell? ⟨gi, q, none⟩ = some (.string KpM.mark) := fun q hq => by
            rw [← str_mark]
            exact ca3 q markL (by simp [hq])
          have HC4 := hide ca4
          clear ca3 ca4 hr
          generalize r.2.length = nk at *
          obtain ⟨w7, h7⟩ : ∃ w7, w7 = wr := ⟨_, rfl⟩
          subst h7
          go_wp2
          go_loopw [14, 79] (fun l i wi => ∃ t : Nat, t ≤ 20 ∧ i = .int .i64 t ∧ ((t = 0 ∧ l = .slice (some ⟨gi, 0, none⟩) nk nk ∧ wi = w7) ∨ (0 < t ∧ ∃ xs, wi.ownsRow w7.heap.size 9 1 l (nk + t) xs ∧ Below w7.heap.size w7 wi))) (fun _ i _ => 20 - (intOf i).toNat)
          case atStart => exact ⟨0, by omega, rfl, .inl ⟨rfl, rfl, rfl⟩⟩
          case round =>
            obtain ⟨t, ht, rfl, ⟨ht0, rfl, hwi⟩ | ⟨ht0, xs, hown, hB7⟩⟩ := hrel
            · subst hwi
              have htl : (t : Int) < 20 := by omega
              have HT := hide ht0
              have HH : Hid (∀ o b, some (⟨gi, 0, none⟩ : Addr) = some b → ∀ j u, (List.replicate nk (Value.string KpM.mark))[j]? = some u → (wr.alloc o).cell? (b.add j) = some u) := by
                intro o b hb j u hj
                cases hb
                rw [List.getElem?_replicate] at hj
                split at hj
                · cases hj
                  rw [add0]
                  have hcc := unhide HC4 j (by assumption)
                  exact (((Below.refl _ wr).alloc (Nat.le_refl _) o).cell (p := ⟨gi, j, none⟩) (World.block_lt_of_cell? wr ⟨gi, j, none⟩ hcc)).trans hcc
                · cases hj
              clear ht0
              go_wp2_with (at_builtin; refine wpList_append_grows _ rfl _ _ 38 rfl 9 i0 (.string ByteArray.empty) 1 16 Tryd.underlying38 hi hz0 hz1 hz2 rfl (by decide) (some ⟨gi, 0, none⟩) nk nk (List.replicate nk (.string KpM.mark)) rfl (fun h => by cases h) (by simp) (unhide HH _) ⟨wr.heap.size, 0, none⟩ 1 1 [.string ⟨#[103, 114, 111, 119, 110]⟩] rfl rfl (cell_one_new _ _ _) (fun x hx => by simp at hx; subst hx; rfl) (by omega) (by unfold maxLen; omega) (by omega) ?_; intro v' w9 hown' hgrow)
              have HB9 := hide (below_two hgrow)
              have HO9 := hide (owns_low hown' (n₁ := wr.heap.size) (by simp))
              clear hown' hgrow
              go_wp2
              go_roundw
              case rel => exact ⟨t + 1, by omega, by go_num, .inr ⟨by omega, _, by rw [unhide HT]; exact unhide HO9, unhide HB9⟩⟩
              case measure => simp [intOf]; omega
            · by_cases htl : t < 20
              · go_wp2_with (at_builtin; refine wpList_append_own _ rfl _ _ 38 rfl w7.heap.size 9 i0 (.string ByteArray.empty) 1 16 Tryd.underlying38 hi hz0 hz1 hz2 rfl (by decide) _ _ _ rfl (hown.alloc _) ⟨wr.heap.size, 0, none⟩ 1 1 [.string ⟨#[103, 114, 111, 119, 110]⟩] rfl rfl (cell_one_new _ _ _) (fun x hx => by simp at hx; subst hx; rfl) (by unfold maxLen; omega) (by omega) (by have := hB7.size; simp; omega) ?_; intro v' w9 hown' hgrow _)
                have HB9 := hide (below_push hown hB7 hgrow)
                have HO9 := hide hown'
                clear hown' hgrow hown hB7
                go_wp2
                go_roundw
                case rel => exact ⟨t + 1, by omega, by go_num, .inr ⟨by omega, _, unhide HO9, unhide HB9⟩⟩
                case measure => simp [intOf]; omega
              · obtain rfl : t = 20 := by omega
                obtain ⟨al, cl, rfl⟩ := own_slice hown
                obtain ⟨gw, aw, cw, rfl, _, cw2⟩ := unhide HWX _ hB7
                have HB9 := hide hB7
                clear hown hB7
                go_wp2
                go_roundw
                case rel => exact ⟨m + 1, by omega, by go_num, hBV.trans ((unhide HB9).mono hBV.size)⟩
                case measure => simp [intOf]; omega
        · obtain rfl : m = k := by omega
          have hA2 := (unhide HA1).below hBV
          have hb2 := (unhide HB1).below hBV
          have hw2 := (unhide HW1).below hBV
          have hB2 := (unhide HBW).trans (hBV.mono hVs)
          have HA2 := hide hA2
          have HB2 := hide hb2
          have HW2 := hide hw2
          have HBW2 := hide hB2
          clear hA2 hb2 hw2 hB2 hBV HA1 HB1 HW1 HBW hVs
          obtain ⟨Z, hZ⟩ : ∃ Z, Z = wr := ⟨_, rfl⟩
          subst hZ
          go_wp2
          go_loopw [98] (fun i wr => ∃ p q : Nat, p ≤ m ∧ i = .int .i64 p ∧ wr = Z.drewN q) (fun i _ => m - (intOf i).toNat)
          case atStart => exact ⟨0, 0, Nat.zero_le _, rfl, rfl⟩
          case round =>
            obtain ⟨p, q, hp, rfl, rfl⟩ := hrel
            by_cases hpl : p < m
            · obtain ⟨r, hr⟩ : ∃ r, R[p]? = some r := ⟨_, List.getElem?_eq_getElem (by rw [unhide HNR]; exact hpl)⟩
              obtain ⟨ga, gi, rfl, ca1, ca2, ca3⟩ := exact_cells (unhide HA2) (marked_get hr)
              obtain ⟨gw, aw, cw, rfl, cw1, cw2⟩ := ref_cells (unhide HW2) hr
              have hz := unhide HEA r (List.mem_of_getElem? hr)
              simp only [List.length_replicate] at ca2
              have ca4 : ∀ q, q < r.2.length → Z.cell? ⟨gi, q, none⟩ = some (.string KpM.mark) := fun q hq => by
                rw [← str_mark]
                exact ca3 q markL (by simp [hq])
              have HC4 := hide ca4
              clear ca3 ca4 hr
              generalize r.2.length = nk at *
              generalize (r.1 : Int) = ln at *
              have hpi : (p : Int) < (m : Int) := by omega
              have hc1' : (Z.drewN q).cell? ⟨ga, p * 2, none⟩ = some (.int .i64 ln) := ca1
              have hc2' : (Z.drewN q).cell? ⟨ga, p * 2 + 1, none⟩ = some (.slice (some ⟨gi, 0, none⟩) nk nk) := ca2
              have hd1' : (Z.drewN q).cell? ⟨gw, p * 2, none⟩ = some (.int .i64 ln) := cw1
              have hd2' : (Z.drewN q).cell? ⟨gw, p * 2 + 1, none⟩ = some (.slice aw nk cw) := cw2
              have HM4 : Hid (∀ j, j < nk → (Z.drewN q).cell? ⟨gi, j, none⟩ = some (.string KpM.mark)) := unhide HC4
              have HZW : Hid (∀ m, ∃ q', (Z.drewN q).drewN m = Z.drewN q') := fun m => ⟨q + m, by rw [World.drewN_drewN]⟩
              clear ca1 ca2 cw1 cw2
              generalize Z.drewN q = Y at *
              go_wp2
              go_quiet (fail)
              go_wp2
              go_loopw [133] (fun i wi => ∃ j q2 : Nat, j ≤ nk ∧ i = .int .i64 j ∧ wi = Y.drewN q2) (fun i _ => nk - (intOf i).toNat)
              case atStart => exact ⟨0, _, Nat.zero_le _, rfl, rfl⟩
              case round =>
                obtain ⟨j, q2, hj, rfl, rfl⟩ := hrel
                by_cases hjl : j < nk
                · have hjc : (Y.drewN q2).cell? ⟨gi, j, none⟩ = some (.string ⟨#[109, 97, 114, 107]⟩) := unhide HM4 j hjl
                  have hji : (j : Int) < (nk : Int) := by omega
                  go_wp2
                  go_roundw
                  case rel => exact ⟨j + 1, q2, by omega, by go_num, rfl⟩
                  case measure => simp [intOf]; omega
                · have hji : ¬ (j : Int) < (nk : Int) := by omega
                  go_wp2
                  go_roundw
                  case rel =>
                    obtain ⟨q', hq'⟩ := unhide HZW q2
                    exact ⟨p + 1, q', by omega, by go_num, hq'⟩
                  case measure => simp [intOf]; omega
            · go_wp2_with fail
              have hdq := below_drewN (Below.refl Z.heap.size Z) q
              refine (SRow.same_true _ _ _ _ _ _ ((unhide HB2).below hdq) ((unhide HW2).below hdq)).mono ?_
              rintro e w8 ⟨rfl, n8, rfl⟩
              go_wp2
              go_ret
              exact ⟨rfl, below_drewN (unhide HBW2) _⟩
end KpW
end Go.Proofs.YtgmakjpicdgmgabDoor
