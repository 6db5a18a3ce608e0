/- Contract: the document's With. -/
import Derived.Test.YtgaagbjbolfbjaaDoorRefO
namespace Go.Proofs.YtgaagbjbolfbjaaDoor
open Go.Sort Go.RowKit
namespace So

theorem set_bounds {L : List Int} {P : Int → Prop} (h : ∀ x ∈ L, P x) : ∀ x ∈ setOf L, P x := fun x hx => h x (mem_setOf.1 hx)
set_option maxRecDepth 100000 in
set_option maxHeartbeats 8000000 in
theorem refWith_any {n₀ n₁ : Nat} (v t : Value) (S T : List Int) (w : World) (hS : IRow n₀ w v S) (hT : IRow n₁ w t T) (h0 : ∀ x ∈ S, 0 ≤ x) (h1 : ∀ x ∈ T, 0 ≤ x) (hn : S.length + T.length ≤ 1099511627776) :
    Calls Tryd.prog 11 #[v, t] w fun e w' => ∃ u, e = .returned u ∧ IRow w.heap.size w' u (setOf (S ++ T)) ∧ Go.RowKit.Below w.heap.size w w' := by
  obtain ⟨i0, hi, hz0, hz1, hz2⟩ := info_parts infoI
  obtain ⟨ao, cap, rfl, hm, hcell⟩ := hS.form
  obtain ⟨ao2, cap2, rfl, hm2, hcell2⟩ := hT.form
  have HC := hide hcell
  have HC2 := hide hcell2
  have HTK : Hid (∀ (k : Nat) x, S[k]? = some x → (S.take (k + 1)).map encI = (S.take k).map encI ++ [.int .i64 x]) := fun k x hx => by rw [take_snoc hx]; simp [encI]
  have HTK2 : Hid (∀ (k : Nat) x, T[k]? = some x → (S ++ T.take (k + 1)).map encI = (S ++ T.take k).map encI ++ [.int .i64 x]) := fun k x hx => by rw [take_snoc hx]; simp [encI]
  have HM : Hid ((S.take S.length).map encI = (S ++ T.take 0).map encI) := by rw [Hid, List.take_length]; simp
  have HOF : Hid (∀ W u, W.ownsRow w.heap.size 3 1 u (S.length + T.length) ((S ++ T.take T.length).map encI) → Go.RowKit.Below w.heap.size w W → Calls Tryd.prog 13 #[u] W fun e w' => ∃ u, e = .returned u ∧ IRow w.heap.size w' u (setOf (S ++ T)) ∧ Go.RowKit.Below w.heap.size w w') := fun W u h hB => by
    rw [List.take_length, ← List.length_append] at h
    refine (refOf_any u (S ++ T) W h (fun x hx => ?_) (by simp; omega)).mono ?_
    · rcases List.mem_append.1 hx with hx | hx
      · exact h0 x hx
      · exact h1 x hx
    · rintro e w' ⟨u, rfl, h2, h3⟩
      exact ⟨u, rfl, h2.low hB.size, hB.trans (h3.mono hB.size)⟩
  unfold maxLen at hm hm2
  clear hcell hcell2 hS hT h0 h1
  generalize hnn : S.length = n at *
  generalize hmm : T.length = m at *
  have HN := hide hnn
  have HMM := hide hmm
  clear hnn hmm
  have hnz : (n : Int) ≤ 1099511627776 := by omega
  have hmz : (m : Int) ≤ 1099511627776 := by omega
  go_enter Tryd.func11, Tryd.ntmps11
  go_wp2
  go_loopg [5, 6] n (fun kk s5 s6 wr => ∃ k : Nat, s6 = .int .i64 k ∧ k + kk = n ∧ Hid (wr.ownsRow w.heap.size 3 1 s5 k ((S.take k).map encI)) ∧ Hid (Go.RowKit.Below w.heap.size w wr))
  case atStart => exact ⟨0, rfl, by omega, IRow.nil _ _, Go.RowKit.Below.refl _ _⟩
  case round =>
    obtain ⟨k, rfl, hk, HR, HB⟩ := hrel
    by_cases hlt : k < n
    · have hltz : (k : Int) < (n : Int) := by omega
      obtain ⟨x, hx⟩ : ∃ x, S[k]? = some x := ⟨_, List.getElem?_eq_getElem (by rw [unhide HN]; exact hlt)⟩
      obtain ⟨g, rfl, hg, hc⟩ := unhide HC k x hx
      have hcw := ((unhide HB).cell (p := ⟨g, k, none⟩) hg).trans hc
      have HT := hide (unhide HTK k x hx)
      clear hx hc hg
      go_wp2_with (at_builtin; refine wpList_append_own _ rfl _ _ 32 rfl w.heap.size 3 i0 (.int .i64 0) 1 8 Tryd.underlying32 hi hz0 hz1 hz2 rfl (by decide) _ _ _ rfl ((unhide HR).alloc _) ⟨wr.heap.size, 0, none⟩ 1 1 [.int .i64 x] rfl rfl (cell_one_new _ _ _) (fun x hx => by simp at hx; subst hx; rfl) (by unfold maxLen; omega) (by omega) (by have := (unhide HB).size; simp; omega) ?_; intro v' w1 hown' hgrow _; have HO1 := hide hown'; have HB1 := hide (irow_push (unhide HR) (unhide HB) hgrow); clear hown' hgrow)
      go_roundg (n - (k + 1))
      case rel => exact ⟨k + 1, by go_num, by omega, by rw [unhide HT]; exact HO1, HB1⟩
      case measure => omega
    · obtain rfl : k = n := by omega
      have hltz : ¬ (k : Int) < (k : Int) := by omega
      have HR2 : Hid (wr.ownsRow w.heap.size 3 1 u5 (k + 0) ((S ++ T.take 0).map encI)) := by rw [Hid, ← unhide HM]; exact unhide HR
      clear HR HTK HC HM
      obtain ⟨V, hV⟩ : ∃ V, V = wr := ⟨_, rfl⟩
      subst hV
      go_wp2
      go_loopg [5, 7] m (fun kk s5 s7 wr => ∃ j : Nat, s7 = .int .i64 j ∧ j + kk = m ∧ Hid (wr.ownsRow w.heap.size 3 1 s5 (k + j) ((S ++ T.take j).map encI)) ∧ Hid (Go.RowKit.Below w.heap.size w wr))
      case atStart => exact ⟨0, rfl, by omega, HR2, HB⟩
      case round =>
        clear HR2 HB
        obtain ⟨j, rfl, hj, HR, HB⟩ := hrel
        by_cases hlt2 : j < m
        · have hltz2 : (j : Int) < (m : Int) := by omega
          obtain ⟨x, hx⟩ : ∃ x, T[j]? = some x := ⟨_, List.getElem?_eq_getElem (by rw [unhide HMM]; exact hlt2)⟩
          obtain ⟨g, rfl, hg, hc⟩ := unhide HC2 j x hx
          have hcw := ((unhide HB).cell (p := ⟨g, j, none⟩) hg).trans hc
          have HT := hide (unhide HTK2 j x hx)
          clear hx hc hg
          go_wp2_with (at_builtin; refine wpList_append_own _ rfl _ _ 32 rfl w.heap.size 3 i0 (.int .i64 0) 1 8 Tryd.underlying32 hi hz0 hz1 hz2 rfl (by decide) _ _ _ rfl ((unhide HR).alloc _) ⟨wr.heap.size, 0, none⟩ 1 1 [.int .i64 x] rfl rfl (cell_one_new _ _ _) (fun x hx => by simp at hx; subst hx; rfl) (by unfold maxLen; omega) (by omega) (by have := (unhide HB).size; simp; omega) ?_; intro v' w1 hown' hgrow _; have HO1 := hide hown'; have HB1 := hide (irow_push (unhide HR) (unhide HB) hgrow); clear hown' hgrow)
          go_roundg (m - (j + 1))
          case rel => exact ⟨j + 1, by go_num, by omega, by rw [unhide HT]; exact HO1, HB1⟩
          case measure => omega
        · obtain rfl : j = m := by omega
          have hltz2 : ¬ (j : Int) < (j : Int) := by omega
          have HO := hide (unhide HOF _ _ (unhide HR) (unhide HB))
          clear HR HB HOF
          go_wp2_with (go_at_call 13; refine (unhide HO).mono ?_; rintro e w3 ⟨u3, rfl, h3⟩; have H3 := hide h3; clear h3)
          go_ret
          exact ⟨u3, rfl, unhide H3⟩

end So
end Go.Proofs.YtgaagbjbolfbjaaDoor
