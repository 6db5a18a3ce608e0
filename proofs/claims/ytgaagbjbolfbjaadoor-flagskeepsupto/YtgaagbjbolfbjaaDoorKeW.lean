/- The walk of the law on what is kept: it answers true. -/
import Derived.Test.YtgaagbjbolfbjaaDoorKeM
namespace Go.Proofs.YtgaagbjbolfbjaaDoor
open Go.Sort Go.RowKit
namespace So
namespace Keep
set_option maxRecDepth 100000 in
set_option maxHeartbeats 16000000 in
theorem walk (v t : Value) (S T : List Int) (w : World) (hS : FArg w v S) (hT : FArg w t T) (hbS : ∀ x ∈ S, 0 ≤ x ∧ x ≤ 65535) (hbT : ∀ x ∈ T, 0 ≤ x ∧ x ≤ 65535) (hn : S.length + T.length ≤ 1048576) (hM : MaxIs w) :
    Calls Tryd.prog 3 #[v, t] w fun e w' => e = .returned (.bool true) ∧ Go.RowKit.Below w.heap.size w w' := by
  have HS0 : Hid (∀ x ∈ S, 0 ≤ x) := fun x hx => (hbS x hx).1
  have HT0 : Hid (∀ x ∈ T, 0 ≤ x) := fun x hx => (hbT x hx).1
  have HbA : Hid (∀ x ∈ S ++ T, 0 ≤ x ∧ x ≤ 65535) := fun x hx => by
    rcases List.mem_append.1 hx with hx | hx
    · exact hbS x hx
    · exact hbT x hx
  have HbS := hide hbS
  have HbT := hide hbT
  have HSv := hide hS
  have HTv := hide hT
  have HM := hide hM
  have HLA : Hid ((setOf (S ++ T)).length ≤ 4194304) := by
    have := (setOf_set (S ++ T)).len
    rw [List.length_append] at this
    exact Nat.le_trans this (by omega)
  have HLC : Hid ((setOf S).length ≤ 4194304) := Nat.le_trans (setOf_set S).len (by omega)
  have HLB : Hid ((kept T (setOf S)).length ≤ 4194304) := Nat.le_trans (List.length_filter_le _ _) HLC
  have HOM : Hid ((S.map encF ++ [Value.int .u16 61, .int .u16 62, .int .u16 63]).length = (S.length + 3) * 1) := hide (by simp)
  have HO1 : Hid (∀ u ∈ [Value.int .u16 61, .int .u16 62, .int .u16 63], u.oneCell' = true) := hide (by decide)
  have HTW := hide (twin_any v S w hS (by omega))
  have HRO : Hid (∀ (W : World) (u : Value), W.ownsRow w.heap.size 25 1 u (S.length + 3) (S.map encF ++ [.int .u16 61, .int .u16 62, .int .u16 63]) → ∃ g c, u = .slice (some ⟨g, 0, none⟩) (S.length + 3) c ∧ S.length + 3 ≤ c ∧ c ≤ maxLen ∧ FArg W (.slice (some ⟨g, 0, none⟩) S.length c) S ∧ FArg W (.slice (some ⟨g, S.length, none⟩) 3 (c - S.length)) [61, 62, 63]) := fun W u h => room_of h
  have HWI : Hid (∀ x W, FArg W x S → FArg W t T → Calls Tryd.prog 5 #[x, t] W fun e w' => ∃ u, e = .returned u ∧ FRow W.heap.size w' u (setOf (S ++ T)) ∧ Go.RowKit.Below W.heap.size W w') := fun x W h1 h2 => with_any x t S T W h1 h2 (by omega)
  have HWO : Hid (∀ x W, FArg W x S → FArg W t T → Calls Tryd.prog 6 #[x, t] W fun e w' => ∃ u, e = .returned u ∧ FRow W.heap.size w' u (kept T (setOf S)) ∧ Go.RowKit.Below W.heap.size W w') := fun x W h1 h2 => without_any x t S T W h1 h2 (by omega)
  have HOF : Hid (∀ x W, FArg W x S → Calls Tryd.prog 7 #[x] W fun e w' => ∃ u, e = .returned u ∧ FRow W.heap.size w' u (setOf S) ∧ Go.RowKit.Below W.heap.size W w') := fun x W h1 => of_set x S W h1 (by omega)
  have HWK : Hid (∀ W, MaxIs W → Calls Tryd.prog 8 #[] W fun e w' => e = .returned (.bool true) ∧ Go.RowKit.Below W.heap.size W w') := fun W h => wakes_any W h
  have HSA : Hid (∀ x y L W, FArg W x L → FArg W y L → Calls Tryd.prog 9 #[x, y] W fun e w' => e = .returned (.bool true) ∧ Go.RowKit.Below W.heap.size W w') := fun x y L W h1 h2 => same_below x y L W h1 h2
  have HIS : Hid (∀ W, FArg W v S → Calls Tryd.prog 12 #[v] W fun e w' => ∃ u, e = .returned u ∧ IRow W.heap.size w' u S ∧ Go.RowKit.Below W.heap.size W w') := fun W h => ints_any v S W h hbS (by omega)
  have HIT : Hid (∀ W, FArg W t T → Calls Tryd.prog 12 #[t] W fun e w' => ∃ u, e = .returned u ∧ IRow W.heap.size w' u T ∧ Go.RowKit.Below W.heap.size W w') := fun W h => ints_any t T W h hbT (by omega)
  have HRW : Hid (∀ a b n0 n1 W, IRow n0 W a S → IRow n1 W b T → Calls Tryd.prog 11 #[a, b] W fun e w' => ∃ u, e = .returned u ∧ IRow W.heap.size w' u (setOf (S ++ T)) ∧ Go.RowKit.Below W.heap.size W w') := fun a b n0 n1 W h1 h2 => refWith_any a b S T W h1 h2 (unhide HS0) (unhide HT0) (by omega)
  have HRF : Hid (∀ a n0 W, IRow n0 W a S → Calls Tryd.prog 13 #[a] W fun e w' => ∃ u, e = .returned u ∧ IRow W.heap.size w' u (setOf S) ∧ Go.RowKit.Below W.heap.size W w') := fun a n0 W h1 => refOf_any a S W h1 (unhide HS0) (by omega)
  have HI1 : Hid (∀ d u n0 W, FArg W d (setOf (S ++ T)) → IRow n0 W u (setOf (S ++ T)) → Calls Tryd.prog 10 #[d, u] W fun e w' => e = .returned (.bool true) ∧ Go.RowKit.Below W.heap.size W w') := fun d u n0 W h1 h2 => is_below d u _ W h1 h2 (set_bounds (unhide HbA))
  have HI2 : Hid (∀ d u n0 W, FArg W d (setOf S) → IRow n0 W u (setOf S) → Calls Tryd.prog 10 #[d, u] W fun e w' => e = .returned (.bool true) ∧ Go.RowKit.Below W.heap.size W w') := fun d u n0 W h1 h2 => is_below d u _ W h1 h2 (set_bounds (unhide HbS))
  obtain ⟨i0, hi, hz0, hz1, hz2⟩ := info_parts infoF
  obtain ⟨av, cv, hv, _⟩ : ∃ a c, v = .slice a S.length c ∧ True := by obtain ⟨a, c, e, _⟩ := hS; exact ⟨a, c, e, trivial⟩
  subst hv
  clear hS hT hbS hbT hM
  generalize hsn : S.length = n at *
  have HSN := hide hsn
  clear hsn
  have hnz : (n : Int) ≤ 1048576 := by omega
  have hns : n ≤ 1048576 := by omega
  clear hn
  go_enter Tryd.func3, Tryd.ntmps3
  go_wp2_with fail
  refine (unhide HTW).mono ?_
  rintro e w1 ⟨u, rfl, _, hu, hb1⟩
  have HU := hide (twin_owns hu)
  rw [unhide HSN] at HU
  have HB1 := hide hb1
  clear hu hb1
  go_wp2_with (at_builtin; refine wpList_append_own _ rfl _ _ 22 rfl w.heap.size 25 i0 (.int .u16 0) 1 2 Tryd.underlying22 hi hz0 hz1 hz2 rfl (by decide) _ _ _ rfl ((unhide HU).alloc _) ⟨w1.heap.size, 0, none⟩ 3 3 [.int .u16 61, .int .u16 62, .int .u16 63] rfl rfl (new_cells w1 #[.int .u16 61, .int .u16 62, .int .u16 63] 25) (unhide HO1) (by unfold maxLen; omega) (by omega) (by have := (unhide HB1).size; simp; omega) ?_; intro r w2 hown hgrow hnil; clear hnil; obtain ⟨gr, cr, rfl, hcr, hcm, hx2, hy2⟩ := unhide HRO _ _ hown; have HX := hide hx2; have HY := hide hy2; have HBV := hide (((unhide HB1).alloc (unhide HB1).size _).grown hgrow (by have := (unhide HB1).size; simp; omega) (fun k e => ((unhide HU).lt k e).1)); clear hown hgrow hx2 hy2; have hcrz : (n : Int) + 3 ≤ (cr : Int) := by omega)
  have HSV := hide ((unhide HSv).below (unhide HBV))
  have HTV := hide ((unhide HTv).below (unhide HBV))
  have HMV := hide ((unhide HM).below (unhide HBV))
  refine (unhide HWI _ _ (unhide HX) (unhide HTV)).mono ?_
  rintro e w3 ⟨a, rfl, hF, hB⟩
  obtain ⟨ga, na, ca, rfl, hG, hs⟩ := (good_nil w2).pushA (sep_nil _) hB hF (unhide HLA)
  have G3 := hide hG
  have S3 := hide hs
  clear hF hB hG hs
  go_wp2_with fail
  refine (unhide HWO _ _ ((unhide HX).below (unhide G3).bel) ((unhide HTV).below (unhide G3).bel)).mono ?_
  rintro e w4 ⟨a, rfl, hF, hB⟩
  obtain ⟨gb, nb, cb, rfl, hG, hs⟩ := (unhide G3).pushA (unhide S3) hB hF (unhide HLB)
  have G4 := hide hG
  have S4 := hide hs
  clear hF hB hG hs G3 S3
  go_wp2_with fail
  refine (unhide HOF _ _ ((unhide HX).below (unhide G4).bel)).mono ?_
  rintro e w5 ⟨a, rfl, hF, hB⟩
  obtain ⟨gc, nc, cc, rfl, hG, hs⟩ := (unhide G4).pushA (unhide S4) hB hF (unhide HLC)
  have G5 := hide hG
  have S5 := hide hs
  clear hF hB hG hs G4 S4
  go_wp2_with fail
  refine (unhide HWI _ _ ((unhide HX).below (unhide G5).bel) ((unhide HTV).below (unhide G5).bel)).mono ?_
  rintro e w6 ⟨d, rfl, hF, hB⟩
  obtain ⟨dd, hG, hs, hd⟩ := (unhide G5).pushD (unhide S5) hB hF
  have G6 := hide hG
  have S6 := hide hs
  have HDd := hide hd
  clear hF hB hG hs hd G5 S5
  go_wp2_with fail
  refine (unhide HOF _ _ ((unhide HX).below (unhide G6).bel)).mono ?_
  rintro e w7 ⟨e, rfl, hF, hB⟩
  obtain ⟨de, hG, hs, hd⟩ := (unhide G6).pushD (unhide S6) hB hF
  have G7 := hide hG
  have S7 := hide hs
  have HDe := hide hd
  clear hF hB hG hs hd G6 S6
  go_wp2_with fail
  refine (unhide HWK _ ((unhide HMV).below (unhide G7).bel)).mono ?_
  rintro e w8 ⟨rfl, hB⟩
  have G8 := hide ((unhide G7).below hB)
  clear hB G7
  go_wp2_with fail
  refine (unhide HSA _ _ S _ ((unhide HX).below (unhide G8).bel) ((unhide HSV).below (unhide G8).bel)).mono ?_
  rintro e w9 ⟨rfl, hB⟩
  have G9 := hide ((unhide G8).below hB)
  clear hB G8
  go_wp2_with fail
  refine (unhide HSA _ _ [61, 62, 63] _ ((unhide HY).below ((unhide G9).alloc _).bel) (lit_arg _)).mono ?_
  rintro e w10 ⟨rfl, hB⟩
  have G10 := hide (((unhide G9).alloc (.cells #[.int .u16 61, .int .u16 62, .int .u16 63] 25)).below hB)
  clear hB G9
  go_wp2
  obtain ⟨A, hAA⟩ : ∃ A : List Blk, A = [⟨ga, na, ca⟩, ⟨gb, nb, cb⟩, ⟨gc, nc, cc⟩] := ⟨_, rfl⟩
  obtain ⟨O, hOO⟩ : ∃ O : Obj, O = .cells #[.slice (some ⟨ga, 0, none⟩) na ca, .slice (some ⟨gb, 0, none⟩) nb cb, .slice (some ⟨gc, 0, none⟩) nc cc] 22 (0, 0) := ⟨_, rfl⟩
  have G11 : Hid (Good A w2 [de, dd] 0 0 w10) := by rw [hAA]; exact G10
  have S11 : Hid (Sep A w2.heap.size [de, dd]) := by rw [hAA]; exact S7
  have HAI : Hid (∀ i, i < 3 → ∃ b, A[i]? = some b) := fun i hi => ⟨_, List.getElem?_eq_getElem (by rw [hAA]; exact hi)⟩
  have HQC : Hid (∀ (W : World) q, W.heap[q]? = some O → ∀ (i : Nat) g m c, A[i]? = some ⟨g, m, c⟩ → W.cell? ⟨q, i, none⟩ = some (.slice (some ⟨g, 0, none⟩) m c)) := fun W q hq i g m c hb => by
    rw [hOO] at hq
    rw [hAA] at hb
    exact list_cell (a := ⟨ga, na, ca⟩) (b := ⟨gb, nb, cb⟩) (c := ⟨gc, nc, cc⟩) hq hb
  have HFD : Hid (∀ i k W, Good A w2 [de, dd] i k W → FArg W d (setOf (S ++ T)) ∧ FArg W e (setOf S)) := fun i k W h => ⟨unhide HDd W (h.kept dd (by simp)), unhide HDe W (h.kept de (by simp))⟩
  have HCV : Hid (∀ (i : Nat), i < 3 → (IntKind.wrap .u16 (50000 + (i : Int)) = 50000 + (i : Int) ∧ IntKind.wrap .u16 (51000 + (i : Int)) = 51000 + (i : Int))) := fun i hi => by
    match i, hi with
    | 0, _ => exact ⟨rfl, rfl⟩
    | 1, _ => exact ⟨rfl, rfl⟩
    | 2, _ => exact ⟨rfl, rfl⟩
  have G12 := hide ((unhide G11).put O)
  have S12 := hide ((unhide S11).put (unhide G11) O)
  rw [← hOO]
  have HAA := hide hAA
  have HOO := hide hOO
  clear hAA hOO G10 S7 HDd HDe G11
  generalize hD0 : [de, dd] = D0 at *
  clear hD0
  go_loopg [63] 3 (fun kk s63 wr => ∃ i : Nat, s63 = .int .i64 i ∧ i ≤ 3 ∧ 3 - i ≤ kk ∧ Hid (Good A w2 ((w10.heap.size, O) :: D0) i 0 wr))
  case atStart => exact ⟨0, rfl, by omega, by omega, unhide G12⟩
  case round =>
    obtain ⟨i, rfl, hi3, hii, GI⟩ := hrel
    by_cases hl : i < 3
    · have hlz : (i : Int) < 3 := by omega
      obtain ⟨⟨g, m, c⟩, hb⟩ := unhide HAI i hl
      have hcq : wr.cell? ⟨w10.heap.size, i, none⟩ = some (.slice (some ⟨g, 0, none⟩) m c) := unhide HQC wr w10.heap.size ((unhide GI).kept (w10.heap.size, O) (by simp)) i g m c hb
      have hm : m ≤ 4194304 := ((unhide S12).lo ⟨g, m, c⟩ (List.mem_of_getElem? hb)).2.2.2
      have HBI := hide hb
      have hwr := (unhide HCV i hl).1
      clear hb
      go_wp2
      obtain ⟨wo, hwo⟩ : ∃ V, V = wr := ⟨_, rfl⟩
      subst hwo
      go_loopg [70] m (fun kk s70 wr => ∃ k : Nat, s70 = .int .i64 k ∧ k ≤ m ∧ m - k ≤ kk ∧ Hid (Good A w2 ((w10.heap.size, O) :: D0) i k wr))
      case atStart => exact ⟨0, rfl, by omega, by omega, unhide GI⟩
      case round =>
        obtain ⟨k, rfl, hk, hkk, GK⟩ := hrel
        by_cases hkl : k < m
        · have hkz : (k : Int) < (m : Int) := by omega
          obtain ⟨⟨u0, hcu⟩, hfu⟩ := (unhide GK).cell (unhide S12) (unhide HBI) hkl
          go_wp2
          go_roundg (m - (k + 1))
          case rel => exact ⟨k + 1, by go_num, by omega, by omega, hide ((unhide GK).set (unhide S12) (unhide HBI) hkl)⟩
          case measure => omega
        · have hkz : ¬ (k : Int) < (m : Int) := by omega
          have GN := hide ((unhide GK).next (unhide HBI) (by show m ≤ k; omega))
          go_wp2
          go_roundg (3 - (i + 1))
          case rel => exact ⟨i + 1, by go_num, by omega, by omega, unhide GN⟩
          case measure => omega
    · have hlz : ¬ (i : Int) < 3 := by omega
      have G13 : Hid (Good A w2 D0 3 0 wr) := hide (by have h := (unhide GI).old; rw [show i = 3 by omega] at h; exact h)
      have G20 := hide ((unhide G13).put O)
      have S20 := hide ((unhide S11).put (unhide G13) O)
      clear GI G12 S12
      go_wp2
      rw [← unhide HOO]
      obtain ⟨wa, hwa⟩ : ∃ V, V = wr := ⟨_, rfl⟩
      subst hwa
      go_loopg [86] 3 (fun kk s86 wr => ∃ i : Nat, s86 = .int .i64 i ∧ i ≤ 3 ∧ 3 - i ≤ kk ∧ Hid (Good A w2 ((wa.heap.size, O) :: D0) 3 0 wr))
      case atStart => exact ⟨0, rfl, by omega, by omega, unhide G20⟩
      case round =>
        obtain ⟨i, rfl, hi3, hii, GI⟩ := hrel
        by_cases hl : i < 3
        · have hlz : (i : Int) < 3 := by omega
          obtain ⟨⟨g, m, c⟩, hb⟩ := unhide HAI i hl
          have hcq : wr.cell? ⟨wa.heap.size, i, none⟩ = some (.slice (some ⟨g, 0, none⟩) m c) := unhide HQC wr wa.heap.size ((unhide GI).kept (wa.heap.size, O) (by simp)) i g m c hb
          have hm : m ≤ 4194304 := ((unhide S20).lo ⟨g, m, c⟩ (List.mem_of_getElem? hb)).2.2.2
          have HBI := hide hb
          have hwr := (unhide HCV i hl).2
          clear hb
          go_wp2
          obtain ⟨wo, hwo⟩ : ∃ V, V = wr := ⟨_, rfl⟩
          subst hwo
          go_loopg [16, 91] 20 (fun kk s16 s91 wr => ∃ (j : Nat) (l : Value), l = s16 ∧ s91 = .int .i64 j ∧ j ≤ 20 ∧ 20 - j ≤ kk ∧ Hid (Good A w2 ((wa.heap.size, O) :: D0) 3 0 wr) ∧ Hid (Row A w2 ((wa.heap.size, O) :: D0) ⟨g, m, c⟩ l (m + j) wr))
          case atStart => exact ⟨0, _, rfl, rfl, by omega, by omega, unhide GI, (unhide GI).row (unhide S20) (unhide HBI)⟩
          case round =>
            obtain ⟨j, l, rfl, rfl, hj, hjj, GJ, RJ⟩ := hrel
            by_cases hjl : j < 20
            · have hjz : (j : Int) < 20 := by omega
              go_wp2_with (at_builtin; obtain ⟨v', W', hrun, hg', hr'⟩ := row_push (.int .u16 (51000 + (i : Int))) rfl 22 (unhide GJ) (unhide S20) (unhide HBI) (unhide RJ) (by omega); refine wpList_append_run rfl _ _ 22 22 rfl _ _ rfl rfl v' W' hrun ?_; have GJ2 := hide hg'; have RJ2 := hide hr'; clear hg' hr' hrun)
              go_roundg (20 - (j + 1))
              case rel => exact ⟨j + 1, _, rfl, by go_num, by omega, by omega, unhide GJ2, unhide RJ2⟩
              case measure => omega
            · have hjz : ¬ (j : Int) < 20 := by omega
              obtain ⟨ao, cl, hle⟩ := (unhide RJ).len
              subst hle
              have hlen : ¬ ((m + j : Nat) : Int) < 20 := by omega
              generalize m + j = mj at *
              go_wp2
              go_roundg (3 - (i + 1))
              case rel => exact ⟨i + 1, by go_num, by omega, by omega, unhide GJ⟩
              case measure => omega
        · have hlz : ¬ (i : Int) < 3 := by omega
          have G30 := hide (unhide GI).old
          have G31 := hide ((unhide G30).put O)
          have S31 := hide ((unhide S11).put (unhide G30) O)
          clear GI G20 S20 G13
          go_wp2
          rw [← unhide HOO]
          obtain ⟨wb, hwb⟩ : ∃ V, V = wr := ⟨_, rfl⟩
          subst hwb
          go_loopg [109] 3 (fun kk s109 wr => ∃ i : Nat, s109 = .int .i64 i ∧ i ≤ 3 ∧ 3 - i ≤ kk ∧ Hid (Good A w2 ((wb.heap.size, O) :: D0) 3 0 wr))
          case atStart => exact ⟨0, rfl, by omega, by omega, unhide G31⟩
          case round =>
            obtain ⟨i, rfl, hi3, hii, GI⟩ := hrel
            by_cases hl : i < 3
            · have hlz : (i : Int) < 3 := by omega
              obtain ⟨⟨g, m, c⟩, hb⟩ := unhide HAI i hl
              have hcq : wr.cell? ⟨wb.heap.size, i, none⟩ = some (.slice (some ⟨g, 0, none⟩) m c) := unhide HQC wr wb.heap.size ((unhide GI).kept (wb.heap.size, O) (by simp)) i g m c hb
              have hm : m ≤ 4194304 := ((unhide S31).lo ⟨g, m, c⟩ (List.mem_of_getElem? hb)).2.2.2
              have HBI := hide hb
              have HL := hide hl
              have hwr := (unhide HCV i hl).1
              clear hb
              go_wp2
              obtain ⟨wo, hwo⟩ : ∃ V, V = wr := ⟨_, rfl⟩
              subst hwo
              go_loopg [116] m (fun kk s116 wr => ∃ k : Nat, s116 = .int .i64 k ∧ k ≤ m ∧ m - k ≤ kk ∧ Hid (Good A w2 ((wb.heap.size, O) :: D0) 3 0 wr))
              case atStart => exact ⟨0, rfl, by omega, by omega, unhide GI⟩
              case round =>
                obtain ⟨k, rfl, hk, hkk, GK⟩ := hrel
                by_cases hkl : k < m
                · have hkz : (k : Int) < (m : Int) := by omega
                  have hce : wr.cell? ⟨g, k, none⟩ = some (.int .u16 (50000 + (i : Int))) := (unhide GK).seen (unhide HBI) (unhide HL) hkl
                  go_wp2
                  go_roundg (m - (k + 1))
                  case rel => exact ⟨k + 1, by go_num, by omega, by omega, unhide GK⟩
                  case measure => omega
                · have hkz : ¬ (k : Int) < (m : Int) := by omega
                  go_wp2
                  go_roundg (3 - (i + 1))
                  case rel => exact ⟨i + 1, by go_num, by omega, by omega, unhide GK⟩
                  case measure => omega
            · have hlz : ¬ (i : Int) < 3 := by omega
              have G40 := hide (unhide GI).old
              clear GI G31 S31 G30
              go_wp2_with fail
              refine (unhide HSA _ _ S _ ((unhide HX).below (unhide G40).bel) ((unhide HSV).below (unhide G40).bel)).mono ?_
              rintro e w41 ⟨rfl, hB⟩
              have G41 := hide ((unhide G40).below hB)
              clear hB G40
              go_wp2_with fail
              refine (unhide HIS _ ((unhide HSV).below (unhide G41).bel)).mono ?_
              rintro e w42 ⟨is1, rfl, hI, hB⟩
              have G42 := hide ((unhide G41).below hB)
              have I1 := hide hI
              clear hI
              clear hB G41
              go_wp2_with fail
              refine (unhide HIT _ ((unhide HTV).below (unhide G42).bel)).mono ?_
              rintro e w43 ⟨it1, rfl, hI, hB⟩
              have G43 := hide ((unhide G42).below hB)
              have I1b := hide ((unhide I1).below hB)
              have I2 := hide hI
              clear hI I1
              clear hB G42
              go_wp2_with fail
              refine (unhide HRW _ _ _ _ _ (unhide I1b) (unhide I2)).mono ?_
              rintro e w44 ⟨rw1, rfl, hI, hB⟩
              have G44 := hide ((unhide G43).below hB)
              have I3 := hide hI
              clear hI I1b I2
              clear hB G43
              go_wp2_with fail
              refine (unhide HI1 _ _ _ _ ((unhide HFD _ _ _ (unhide G44)).1) (unhide I3)).mono ?_
              rintro e w45 ⟨rfl, hB⟩
              have G45 := hide ((unhide G44).below hB)
              clear hB G44
              go_wp2_with fail
              refine (unhide HIS _ ((unhide HSV).below (unhide G45).bel)).mono ?_
              rintro e w46 ⟨is2, rfl, hI, hB⟩
              have G46 := hide ((unhide G45).below hB)
              have I4 := hide hI
              clear hI
              clear hB G45
              go_wp2_with fail
              refine (unhide HRF _ _ _ (unhide I4)).mono ?_
              rintro e w47 ⟨rf1, rfl, hI, hB⟩
              have G47 := hide ((unhide G46).below hB)
              have I5 := hide hI
              clear hI I4
              clear hB G46
              go_wp2_with fail
              refine (unhide HI2 _ _ _ _ ((unhide HFD _ _ _ (unhide G47)).2) (unhide I5)).mono ?_
              rintro e w48 ⟨rfl, hB⟩
              have G48 := hide ((unhide G47).below hB)
              clear hB G47
              go_wp2
              go_ret
              exact ⟨rfl, (unhide HBV).trans ((unhide G48).bel.mono (unhide HBV).size)⟩
end Keep
end So
end Go.Proofs.YtgaagbjbolfbjaaDoor
