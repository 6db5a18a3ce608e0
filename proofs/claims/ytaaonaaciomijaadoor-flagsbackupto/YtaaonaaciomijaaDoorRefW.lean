/- Contracts: the document's With, Without and Equal. -/
import Derived.Test.YtaaonaaciomijaaDoorRefO
import Derived.Test.YtaaonaaciomijaaDoorDelW
namespace Go.Proofs.YtaaonaaciomijaaDoor
open Go.Sort Go.RowKit
namespace So

theorem set_bounds {L : List Int} {P : Int → Prop} (h : ∀ x ∈ L, P x) : ∀ x ∈ setOf L, P x := fun x hx => h x (mem_setOf.1 hx)
set_option maxRecDepth 100000 in
set_option maxHeartbeats 8000000 in
theorem refWith_any {n₀ n₁ : Nat} (v t : Value) (S T : List Int) (w : World) (hS : IRow n₀ w v S) (hT : IRow n₁ w t T) (h0 : ∀ x ∈ S, 0 ≤ x) (h1 : ∀ x ∈ T, 0 ≤ x) (hn : S.length + T.length ≤ 1099511627776) :
    Calls Tryd.prog 26 #[v, t] w fun e w' => ∃ u, e = .returned u ∧ IRow w.heap.size w' u (setOf (S ++ T)) ∧ Go.RowKit.Below w.heap.size w w' := by
  obtain ⟨i0, hi, hz0, hz1, hz2⟩ := info_parts infoI
  obtain ⟨ao, cap, rfl, hm, hcell⟩ := hS.form
  obtain ⟨ao2, cap2, rfl, hm2, hcell2⟩ := hT.form
  have HC := hide hcell
  have HC2 := hide hcell2
  have HTK : Hid (∀ (k : Nat) x, S[k]? = some x → (S.take (k + 1)).map encI = (S.take k).map encI ++ [.int .i64 x]) := fun k x hx => by rw [take_snoc hx]; simp [encI]
  have HTK2 : Hid (∀ (k : Nat) x, T[k]? = some x → (S ++ T.take (k + 1)).map encI = (S ++ T.take k).map encI ++ [.int .i64 x]) := fun k x hx => by rw [take_snoc hx]; simp [encI]
  have HM : Hid ((S.take S.length).map encI = (S ++ T.take 0).map encI) := by rw [Hid, List.take_length]; simp
  have HOF : Hid (∀ W u, W.ownsRow w.heap.size 3 1 u (S.length + T.length) ((S ++ T.take T.length).map encI) → Go.RowKit.Below w.heap.size w W → Calls Tryd.prog 19 #[u] W fun e w' => ∃ u, e = .returned u ∧ IRow w.heap.size w' u (setOf (S ++ T)) ∧ Go.RowKit.Below w.heap.size w w') := fun W u h hB => by
    rw [List.take_length, ← List.length_append] at h
    refine (refOf_any u (S ++ T) W h (fun x hx => ?_) (by simp; omega)).mono ?_
    · rcases List.mem_append.1 hx with hx | hx
      · exact h0 x hx
      · exact h1 x hx
    · rintro e w' ⟨u, rfl, h2, h3⟩
      exact ⟨u, rfl, h2.low hB.size, hB.trans (h3.mono hB.size)⟩
  unfold maxLen at hm hm2
  clear hcell hcell2 hS hT h0 h1
  generalize hnn : S.length = n at *
  generalize hmm : T.length = m at *
  have HN := hide hnn
  have HMM := hide hmm
  clear hnn hmm
  have hnz : (n : Int) ≤ 1099511627776 := by omega
  have hmz : (m : Int) ≤ 1099511627776 := by omega
  go_enter Tryd.func26, Tryd.ntmps26
  go_wp2
  go_loopg [5, 6] n (fun kk s5 s6 wr => ∃ k : Nat, s6 = .int .i64 k ∧ k + kk = n ∧ Hid (wr.ownsRow w.heap.size 3 1 s5 k ((S.take k).map encI)) ∧ Hid (Go.RowKit.Below w.heap.size w wr))
  case atStart => exact ⟨0, rfl, by omega, IRow.nil _ _, Go.RowKit.Below.refl _ _⟩
  case round =>
    obtain ⟨k, rfl, hk, HR, HB⟩ := hrel
    by_cases hlt : k < n
    · have hltz : (k : Int) < (n : Int) := by omega
      obtain ⟨x, hx⟩ : ∃ x, S[k]? = some x := ⟨_, List.getElem?_eq_getElem (by rw [unhide HN]; exact hlt)⟩
      obtain ⟨g, rfl, hg, hc⟩ := unhide HC k x hx
      have hcw := ((unhide HB).cell (p := ⟨g, k, none⟩) hg).trans hc
      have HT := hide (unhide HTK k x hx)
      clear hx hc hg
      go_wp2_with (at_builtin; refine wpList_append_own _ rfl _ _ 35 rfl w.heap.size 3 i0 (.int .i64 0) 1 8 Tryd.underlying35 hi hz0 hz1 hz2 rfl (by decide) _ _ _ rfl ((unhide HR).alloc _) ⟨wr.heap.size, 0, none⟩ 1 1 [.int .i64 x] rfl rfl (cell_one_new _ _ _) (fun x hx => by simp at hx; subst hx; rfl) (by unfold maxLen; omega) (by omega) (by have := (unhide HB).size; simp; omega) ?_; intro v' w1 hown' hgrow _; have HO1 := hide hown'; have HB1 := hide (irow_push (unhide HR) (unhide HB) hgrow); clear hown' hgrow)
      go_roundg (n - (k + 1))
      case rel => exact ⟨k + 1, by go_num, by omega, by rw [unhide HT]; exact HO1, HB1⟩
      case measure => omega
    · obtain rfl : k = n := by omega
      have hltz : ¬ (k : Int) < (k : Int) := by omega
      have HR2 : Hid (wr.ownsRow w.heap.size 3 1 u5 (k + 0) ((S ++ T.take 0).map encI)) := by rw [Hid, ← unhide HM]; exact unhide HR
      clear HR HTK HC HM
      obtain ⟨V, hV⟩ : ∃ V, V = wr := ⟨_, rfl⟩
      subst hV
      go_wp2
      go_loopg [5, 7] m (fun kk s5 s7 wr => ∃ j : Nat, s7 = .int .i64 j ∧ j + kk = m ∧ Hid (wr.ownsRow w.heap.size 3 1 s5 (k + j) ((S ++ T.take j).map encI)) ∧ Hid (Go.RowKit.Below w.heap.size w wr))
      case atStart => exact ⟨0, rfl, by omega, HR2, HB⟩
      case round =>
        clear HR2 HB
        obtain ⟨j, rfl, hj, HR, HB⟩ := hrel
        by_cases hlt2 : j < m
        · have hltz2 : (j : Int) < (m : Int) := by omega
          obtain ⟨x, hx⟩ : ∃ x, T[j]? = some x := ⟨_, List.getElem?_eq_getElem (by rw [unhide HMM]; exact hlt2)⟩
          obtain ⟨g, rfl, hg, hc⟩ := unhide HC2 j x hx
          have hcw := ((unhide HB).cell (p := ⟨g, j, none⟩) hg).trans hc
          have HT := hide (unhide HTK2 j x hx)
          clear hx hc hg
          go_wp2_with (at_builtin; refine wpList_append_own _ rfl _ _ 35 rfl w.heap.size 3 i0 (.int .i64 0) 1 8 Tryd.underlying35 hi hz0 hz1 hz2 rfl (by decide) _ _ _ rfl ((unhide HR).alloc _) ⟨wr.heap.size, 0, none⟩ 1 1 [.int .i64 x] rfl rfl (cell_one_new _ _ _) (fun x hx => by simp at hx; subst hx; rfl) (by unfold maxLen; omega) (by omega) (by have := (unhide HB).size; simp; omega) ?_; intro v' w1 hown' hgrow _; have HO1 := hide hown'; have HB1 := hide (irow_push (unhide HR) (unhide HB) hgrow); clear hown' hgrow)
          go_roundg (m - (j + 1))
          case rel => exact ⟨j + 1, by go_num, by omega, by rw [unhide HT]; exact HO1, HB1⟩
          case measure => omega
        · obtain rfl : j = m := by omega
          have hltz2 : ¬ (j : Int) < (j : Int) := by omega
          have HO := hide (unhide HOF _ _ (unhide HR) (unhide HB))
          clear HR HB HOF
          go_wp2_with (go_at_call 19; refine (unhide HO).mono ?_; rintro e w3 ⟨u3, rfl, h3⟩; have H3 := hide h3; clear h3)
          go_ret
          exact ⟨u3, rfl, unhide H3⟩

theorem kept_snoc2 {F Z : List Int} {k : Nat} {x : Int} (hx : Z[k]? = some x) : kept F (Z.take (k + 1)) = if hasB F x then kept F (Z.take k) else kept F (Z.take k) ++ [x] := by
  rw [take_snoc hx]
  unfold kept
  rw [List.filter_append]
  cases h : hasB F x
  · simp [h]
  · simp [h]
theorem kept_take (F Z : List Int) (k : Nat) : (kept F (Z.take k)).length ≤ k := by
  refine Nat.le_trans (List.length_filter_le _ _) ?_
  simp
  omega
set_option maxRecDepth 100000 in
set_option maxHeartbeats 8000000 in
theorem refWithout_any {n₀ n₁ : Nat} (v t : Value) (S T : List Int) (w : World) (hS : IRow n₀ w v S) (hT : IRow n₁ w t T) (h0 : ∀ x ∈ S, 0 ≤ x) (hn : S.length ≤ 1099511627776) :
    Calls Tryd.prog 28 #[v, t] w fun e w' => ∃ u, e = .returned u ∧ IRow w.heap.size w' u (kept T (setOf S)) ∧ Go.RowKit.Below w.heap.size w w' := by
  obtain ⟨i0, hi, hz0, hz1, hz2⟩ := info_parts infoI
  have HOF := hide (refOf_any v S w hS h0 hn)
  have HHAS : Hid (∀ W x, Go.RowKit.Below w.heap.size w W → Calls Tryd.prog 21 #[t, .int .i64 x] W fun e w' => e = .returned (.bool (hasB T x)) ∧ w' = W) := fun W x hB => refHas_any t T x W (hT.below hB)
  have HZL := (setOf_set S).len
  have HKS := hide (fun (k : Nat) (x : Int) => @kept_snoc2 T (setOf S) k x)
  have HKT := hide (kept_take T (setOf S))
  have HFM : Hid (∀ W u, IRow w.heap.size W u (setOf S) → ∃ ao cap, u = .slice ao (setOf S).length cap ∧ (setOf S).length ≤ maxLen ∧ ∀ (k : Nat) x, (setOf S)[k]? = some x → ∃ g, ao = some ⟨g, 0, none⟩ ∧ g < W.heap.size ∧ W.cell? ⟨g, k, none⟩ = some (.int .i64 x)) := fun W u h => h.form
  have HTF : Hid ((setOf S).take (setOf S).length = setOf S) := List.take_length
  clear hS hT h0
  generalize setOf S = Z at *
  generalize hnn : Z.length = n at *
  have HN := hide hnn
  clear hnn
  have hnz : (n : Int) ≤ 1099511627776 := by omega
  go_enter Tryd.func28, Tryd.ntmps28
  go_wp2_with (go_at_call 19; refine (unhide HOF).mono ?_; rintro e w1 ⟨z, rfl, hZ, hB1⟩; obtain ⟨ao, cap, rfl, hm, hcell⟩ := unhide HFM _ _ hZ; have HC := hide hcell; have HB1 := hide hB1; clear hcell hB1 hZ HOF)
  unfold maxLen at hm
  go_loopg [5, 7] n (fun kk s5 s7 wr => ∃ k : Nat, s7 = .int .i64 k ∧ k + kk = n ∧ Hid (IRow w1.heap.size wr s5 (kept T (Z.take k))) ∧ Hid (Go.RowKit.Below w1.heap.size w1 wr))
  case atStart => exact ⟨0, rfl, by omega, IRow.nil _ _, Go.RowKit.Below.refl _ _⟩
  case round =>
    obtain ⟨k, rfl, hk, HR, HB⟩ := hrel
    have HBW : Hid (Go.RowKit.Below w.heap.size w wr) := (unhide HB1).trans ((unhide HB).mono (unhide HB1).size)
    by_cases hlt : k < n
    · have hltz : (k : Int) < (n : Int) := by omega
      obtain ⟨x, hx⟩ : ∃ x, Z[k]? = some x := ⟨_, List.getElem?_eq_getElem (by rw [unhide HN]; exact hlt)⟩
      obtain ⟨g, rfl, hg, hc⟩ := unhide HC k x hx
      have hcw := ((unhide HB).cell (p := ⟨g, k, none⟩) hg).trans hc
      have hks := unhide HKS k x hx
      have hkl := unhide HKT k
      have HH := hide (unhide HHAS wr x (unhide HBW))
      clear hx hc hg
      cases hb : hasB T x
      · rw [hb] at HH hks
        have HKK : Hid (kept T (Z.take (k + 1)) = kept T (Z.take k) ++ [x]) := hks
        have HPUSH : Hid (∀ W u, W.ownsRow w1.heap.size 3 1 u ((kept T (Z.take k)).length + 1) ((kept T (Z.take k)).map encI ++ [.int .i64 x]) → IRow w1.heap.size W u (kept T (Z.take (k + 1)))) := fun W u h => by
          rw [hks]
          show W.ownsRow _ _ _ _ _ _
          simp [encI]
          simpa [encI] using h
        clear hks hb
        go_wp2_with (first
          | (go_at_call 21; refine (unhide HH).mono ?_; rintro e w2 ⟨rfl, hw2⟩; obtain rfl := hw2.symm)
          | (at_builtin; refine wpList_append_own _ rfl _ _ 35 rfl w1.heap.size 3 i0 (.int .i64 0) 1 8 Tryd.underlying35 hi hz0 hz1 hz2 rfl (by decide) _ _ _ rfl (World.ownsRow.alloc (unhide HR) _) ⟨wr.heap.size, 0, none⟩ 1 1 [.int .i64 x] rfl rfl (cell_one_new _ _ _) (fun x hx => by simp at hx; subst hx; rfl) (by unfold maxLen; omega) (by omega) (by have := (unhide HB).size; simp; omega) ?_; intro v' w3 hown' hgrow _; have HO1 := hide (unhide HPUSH _ _ hown'); have HB2 := hide (irow_push (unhide HR) (unhide HB) hgrow); clear hown' hgrow))
        go_roundg (n - (k + 1))
        case rel => exact ⟨k + 1, by go_num, by omega, HO1, HB2⟩
        case measure => omega
      · rw [hb] at HH hks
        have HR2 : Hid (IRow w1.heap.size wr u5 (kept T (Z.take (k + 1)))) := by rw [Hid, hks]; exact unhide HR
        clear hks hb
        go_wp2_with (go_at_call 21; refine (unhide HH).mono ?_; rintro e w2 ⟨rfl, hw2⟩; obtain rfl := hw2.symm)
        go_roundg (n - (k + 1))
        case rel => exact ⟨k + 1, by go_num, by omega, HR2, HB⟩
        case measure => omega
    · obtain rfl : k = n := by omega
      have hltz : ¬ (k : Int) < (k : Int) := by omega
      have HF : Hid (IRow w1.heap.size wr u5 (kept T Z)) := by
        have h := unhide HR
        rwa [unhide HTF] at h
      go_wp2
      go_ret
      exact ⟨_, rfl, (unhide HF).low (unhide HB1).size, unhide HBW⟩

theorem eq_snoc {Z Y : List Int} {k : Nat} {x y : Int} (hx : Z[k]? = some x) (hy : Y[k]? = some y) (h : Z.take k = Y.take k) (e : x = y) : Z.take (k + 1) = Y.take (k + 1) := by rw [take_snoc hx, take_snoc hy, h, e]
set_option maxRecDepth 100000 in
set_option maxHeartbeats 8000000 in
theorem refEqual_any {n₀ n₁ : Nat} (v t : Value) (S T : List Int) (w : World) (hS : IRow n₀ w v S) (hT : IRow n₁ w t T) (h0 : ∀ x ∈ S, 0 ≤ x) (h1 : ∀ x ∈ T, 0 ≤ x) (hn : S.length + T.length ≤ 1099511627776) :
    Calls Tryd.prog 24 #[v, t] w fun e w' => e = .returned (.bool (decide (setOf S = setOf T))) ∧ Go.RowKit.Below w.heap.size w w' := by
  have HO1 := hide (refOf_any v S w hS h0 (by omega))
  have HO2 : Hid (∀ W, Go.RowKit.Below w.heap.size w W → Calls Tryd.prog 19 #[t] W fun e w' => ∃ u, e = .returned u ∧ IRow W.heap.size w' u (setOf T) ∧ Go.RowKit.Below W.heap.size W w') := fun W hB => refOf_any t T W (hT.below hB) h1 (by omega)
  have HFM1 : Hid (∀ n W u, IRow n W u (setOf S) → ∃ ao cap, u = .slice ao (setOf S).length cap ∧ (setOf S).length ≤ maxLen ∧ ∀ (k : Nat) x, (setOf S)[k]? = some x → ∃ g, ao = some ⟨g, 0, none⟩ ∧ g < W.heap.size ∧ W.cell? ⟨g, k, none⟩ = some (.int .i64 x)) := fun n W u h => h.form
  have HFM2 : Hid (∀ n W u, IRow n W u (setOf T) → ∃ ao cap, u = .slice ao (setOf T).length cap ∧ (setOf T).length ≤ maxLen ∧ ∀ (k : Nat) x, (setOf T)[k]? = some x → ∃ g, ao = some ⟨g, 0, none⟩ ∧ g < W.heap.size ∧ W.cell? ⟨g, k, none⟩ = some (.int .i64 x)) := fun n W u h => h.form
  have HES := hide (fun (k : Nat) (x y : Int) => @eq_snoc (setOf S) (setOf T) k x y)
  have HTF1 : Hid ((setOf S).take (setOf S).length = setOf S) := List.take_length
  have HTF2 : Hid ((setOf T).take (setOf T).length = setOf T) := List.take_length
  have hz1 := (setOf_set S).len
  have hz2 := (setOf_set T).len
  clear hS hT h0 h1
  generalize setOf S = Z at *
  generalize setOf T = Y at *
  have HNE : Hid (Z.length ≠ Y.length → decide (Z = Y) = false) := fun h => decide_eq_false (fun e => h (by rw [e]))
  have HNX : Hid (∀ (k : Nat) (x y : Int), Z[k]? = some x → Y[k]? = some y → x ≠ y → decide (Z = Y) = false) := fun k x y h1 h2 h => decide_eq_false (fun e => h (by rw [e, h2] at h1; exact (Option.some.inj h1).symm))
  have HEE : Hid (∀ k : Nat, Z.take k = Z → Y.take k = Y → Z.take k = Y.take k → decide (Z = Y) = true) := fun k h1 h2 h3 => decide_eq_true (by rw [← h1, h3, h2])
  generalize decide (Z = Y) = b at *
  generalize hnn : Z.length = n at *
  generalize hmm : Y.length = m at *
  have HN := hide hnn
  have HM := hide hmm
  clear hnn hmm
  have hnz : (n : Int) ≤ 1099511627776 := by omega
  go_enter Tryd.func24, Tryd.ntmps24
  by_cases hl : n = m
  · subst hl
    go_wp2_with (go_at_call 19; first
      | (refine (unhide HO1).mono ?_; rintro e w1 ⟨z, rfl, hZ, hB1⟩; have HZ := hide hZ; have HB1 := hide hB1; have HOX := hide (unhide HO2 _ hB1); clear hZ hB1 HO1)
      | (refine (unhide HOX).mono ?_; rintro e w2 ⟨y, rfl, hY, hB2⟩; obtain ⟨ao, cap, rfl, hm, hcell⟩ := unhide HFM1 _ _ _ ((unhide HZ).below hB2); obtain ⟨ao2, cap2, rfl, hm2, hcell2⟩ := unhide HFM2 _ _ _ hY; have HC := hide hcell; have HC2 := hide hcell2; have HB := hide ((unhide HB1).trans (hB2.mono (unhide HB1).size)); clear hcell hcell2 hB2 hY HOX))
    unfold maxLen at hm
    clear HFM1 HFM2 HO2
    go_loopw [7] (fun si wr => ∃ k q : Nat, si = .int .i64 k ∧ k ≤ n ∧ Hid (Z.take k = Y.take k) ∧ wr = w2.drewN q) (fun si _ => n - (intOf si).toNat)
    case atStart => exact ⟨0, 0, rfl, Nat.zero_le _, by rw [Hid]; simp, rfl⟩
    case round =>
      obtain ⟨k, q, rfl, hk, HTT, rfl⟩ := hrel
      by_cases hlt : k < n
      · have hltz : (k : Int) < (n : Int) := by omega
        obtain ⟨x, hx⟩ : ∃ x, Z[k]? = some x := ⟨_, List.getElem?_eq_getElem (by rw [unhide HN]; exact hlt)⟩
        obtain ⟨y, hy⟩ : ∃ y, Y[k]? = some y := ⟨_, List.getElem?_eq_getElem (by rw [unhide HM]; exact hlt)⟩
        obtain ⟨g, rfl, _, hcw⟩ := unhide HC k x hx
        obtain ⟨g2, rfl, _, hcw2⟩ := unhide HC2 k y hy
        by_cases hxy : x = y
        · subst hxy
          have HT2 := hide (unhide HES k x x hx hy (unhide HTT) rfl)
          clear hx hy
          go_wp2
          go_quiet (fail)
          go_wp2
          go_roundw
          case rel => exact ⟨k + 1, _, by go_num, by omega, HT2, rfl⟩
          case measure => simp [intOf]; omega
        · have HBF := hide (unhide HNX k x y hx hy hxy)
          have hne : (x != y) = true := by rw [bne_iff_ne]; exact hxy
          clear hx hy hxy
          go_wp2
          go_quiet (fail)
          go_wp2
          go_ret
          exact ⟨by rw [unhide HBF]; rfl, (unhide HB).trans ⟨rfl, rfl, rfl, Nat.le_refl _, fun _ _ => rfl⟩⟩
      · obtain rfl : k = n := by omega
        have hltz : ¬ (k : Int) < (k : Int) := by omega
        have HBT := hide (unhide HEE k (unhide HTF1) (unhide HTF2) (unhide HTT))
        go_wp2
        go_ret
        exact ⟨by rw [unhide HBT]; rfl, (unhide HB).trans ⟨rfl, rfl, rfl, Nat.le_refl _, fun _ _ => rfl⟩⟩
  · have hne : ((n : Int) != (m : Int)) = true := by rw [bne_iff_ne]; omega
    have HBF := hide (unhide HNE hl)
    go_wp2_with (go_at_call 19; first
      | (refine (unhide HO1).mono ?_; rintro e w1 ⟨z, rfl, hZ, hB1⟩; have HZ := hide hZ; have HB1 := hide hB1; have HOX := hide (unhide HO2 _ hB1); clear hZ hB1 HO1)
      | (refine (unhide HOX).mono ?_; rintro e w2 ⟨y, rfl, hY, hB2⟩; obtain ⟨ao, cap, rfl, hm, hcell⟩ := unhide HFM1 _ _ _ ((unhide HZ).below hB2); obtain ⟨ao2, cap2, rfl, hm2, hcell2⟩ := unhide HFM2 _ _ _ hY; have HB := hide ((unhide HB1).trans (hB2.mono (unhide HB1).size)); clear hcell hcell2 hB2 hY HOX))
    go_ret
    exact ⟨by rw [unhide HBF]; rfl, unhide HB⟩
end So
end Go.Proofs.YtaaonaaciomijaaDoor
