/- The walk of FlagsAnyAll. -/
import Derived.Test.YtaaonaaciomijaaAllW
import Derived.Test.YtaaonaaciomijaaAnyW
namespace Go.Proofs.Ytaaonaaciomijaa
open Go.Sort Go.RowKit
namespace So
namespace AnyAll
theorem orB {F S : List Int} {k : Nat} {x : Int} (hx : F[k]? = some x) : (F.take (k + 1)).any (hasB S) = ((F.take k).any (hasB S) || hasB S x) ∧ (F.take (k + 1)).all (hasB S) = ((F.take k).all (hasB S) && hasB S x) := by
  have hk : k < F.length := (List.getElem?_eq_some_iff.1 hx).1
  rw [List.take_succ_eq_append_getElem hk, (List.getElem?_eq_some_iff.1 hx).2]
  simp
theorem two_farg {W : World} (x y : Int) (T : TypeId) : FArg (W.alloc (.cells #[.int .u16 x, .int .u16 y] T)) (.slice (some ⟨W.heap.size, 0, none⟩) 2 2) [x, y] := by
  refine ⟨_, 2, rfl, Nat.le_refl _, by simp [maxLen], (fun h => by cases h), fun _ => ⟨W.heap.size, 0, rfl, by simp, fun j z hz => ?_⟩⟩
  rw [World.cell?_alloc_at _ _ _ _ rfl]
  match j, hz with
  | 0, hz => simp at hz; subst hz; rfl
  | 1, hz => simp at hz; subst hz; rfl
theorem one_farg {W : World} (x : Int) (T : TypeId) : FArg (W.alloc (.cells #[.int .u16 x] T)) (.slice (some ⟨W.heap.size, 0, none⟩) 1 1) [x] := by
  refine ⟨_, 1, rfl, Nat.le_refl _, by simp [maxLen], (fun h => by cases h), fun _ => ⟨W.heap.size, 0, rfl, by simp, fun j z hz => ?_⟩⟩
  rw [World.cell?_alloc_at _ _ _ _ rfl]
  match j, hz with
  | 0, hz => simp at hz; subst hz; rfl
set_option maxRecDepth 100000 in
set_option maxHeartbeats 4000000 in
theorem walk (v f : Value) (S F : List Int) (w : World) (hS : FArg w v S) (hF : FArg w f F) (hn : S.length + F.length ≤ 1048576) :
    Calls Try.prog 3 #[v, f] w fun e w' => e = .returned (.bool true) ∧ Go.RowKit.Below w.heap.size w w' := by
  have HT := hide (twin_any v S w hS (by omega))
  have HFA := hide hF
  have hF0 := hF
  obtain ⟨ao, cap, rfl, hcp, hm, _, hcell⟩ := hF0
  have HC := hide hcell
  have HTW := hide (fun W (h : Go.RowKit.Below w.heap.size w W) => twin_any (.slice ao F.length cap) F W (hF.below h) (by omega))
  have HOR := hide (fun (k : Nat) x => orB (F := F) (S := S) (k := k) (x := x))
  have HFN : Hid ((F.take F.length) = F) := List.take_length
  unfold maxLen at hm
  clear hcell hS hF
  generalize hnn : F.length = n at *
  have HN := hide hnn
  clear hnn
  go_enter Try.func3, Try.ntmps3
  go_wp2_with (go_at_call 4; refine (unhide HT).mono ?_; rintro e w1 ⟨x, rfl, hX, _, hB1⟩; have HX := hide hX; have HB1 := hide hB1; clear hX hB1 HT)
  go_loop [6, 7, 15] (fun s6 s7 si => ∃ k : Nat, si = .int .i64 k ∧ k ≤ n ∧ s6 = .bool ((F.take k).any (hasB S)) ∧ s7 = .bool ((F.take k).all (hasB S))) (fun _ _ si => n - (intOf si).toNat)
  case atStart => exact ⟨0, rfl, Nat.zero_le _, by simp, by simp⟩
  case round =>
    obtain ⟨k, rfl, hk, rfl, rfl⟩ := hrel
    by_cases hlt : k < n
    · have hltz : (k : Int) < (n : Int) := by omega
      obtain ⟨y, hy⟩ : ∃ y, F[k]? = some y := ⟨_, List.getElem?_eq_getElem (by rw [unhide HN]; exact hlt)⟩
      obtain ⟨g, off, rfl, hg, hcc⟩ := unhide HC (by omega)
      have hcy := ((unhide HB1).cell (p := ⟨g, off + k, none⟩) hg).trans (hcc k y hy)
      have HOK := hide (unhide HOR k y hy)
      have HHX := hide (has_any x S y w1 (unhide HX))
      clear hcc hy
      generalize hasB S y = hb at *
      generalize (F.take k).any (hasB S) = an at *
      generalize (F.take k).all (hasB S) = al at *
      cases an <;> cases al <;> cases hb
      all_goals go_wp2_with (go_at_call 5; refine (unhide HHX).mono ?_; rintro e w2 ⟨rfl, hw2⟩; obtain rfl := hw2.symm)
      all_goals go_round
      all_goals first
        | (case rel => exact ⟨k + 1, by go_num, by omega, by rw [(unhide HOK).1]; rfl, by rw [(unhide HOK).2]; rfl⟩)
        | skip
      all_goals (simp [intOf]; omega)
    · obtain rfl : k = n := by omega
      have hltz : ¬ (k : Int) < (k : Int) := by omega
      rw [unhide HFN]
      have HX9 : Hid (∀ W, Go.RowKit.Below w1.heap.size w1 W → FArg W x S) := fun W h => (unhide HX).below h
      have HOF1 : Hid (∀ W : World, Go.RowKit.Below w1.heap.size w1 W → Calls Try.prog 6 #[.slice (some ⟨W.heap.size, 0, none⟩) 1 1] (W.alloc (.cells #[.int .u16 5] 26)) fun e w' => ∃ u, e = .returned u ∧ FRow w1.heap.size w' u [5] ∧ Go.RowKit.Below w1.heap.size w1 w') := fun W hB => by
        have hA := (Go.RowKit.Below.refl _ W).alloc (Nat.le_refl _) (.cells #[.int .u16 5] 26)
        have hBA := hB.trans (hA.mono hB.size)
        refine (of_set _ [5] _ (one_farg 5 _) (by decide)).mono ?_
        rintro e w' ⟨u, rfl, h1, h2⟩
        exact ⟨u, rfl, h1.low hBA.size, hBA.trans (h2.mono hBA.size)⟩
      have HOF2 : Hid (∀ W : World, Go.RowKit.Below w1.heap.size w1 W → Calls Try.prog 6 #[.slice (some ⟨W.heap.size, 0, none⟩) 2 2] (W.alloc (.cells #[.int .u16 5, .int .u16 6] 26)) fun e w' => ∃ u, e = .returned u ∧ FRow w1.heap.size w' u [5, 6] ∧ Go.RowKit.Below w1.heap.size w1 w') := fun W hB => by
        have hA := (Go.RowKit.Below.refl _ W).alloc (Nat.le_refl _) (.cells #[.int .u16 5, .int .u16 6] 26)
        have hBA := hB.trans (hA.mono hB.size)
        refine (of_set _ [5, 6] _ (two_farg 5 6 _) (by decide)).mono ?_
        rintro e w' ⟨u, rfl, h1, h2⟩
        exact ⟨u, rfl, h1.low hBA.size, hBA.trans (h2.mono hBA.size)⟩
      have HAN : Hid (∀ (W : World) u, FRow w1.heap.size W u [5, 6] → Go.RowKit.Below w1.heap.size w1 W → Calls Try.prog 7 #[u, .slice (some ⟨W.heap.size, 0, none⟩) 2 2] (W.alloc (.cells #[.int .u16 6, .int .u16 7] 26)) fun e w' => e = .returned (.bool true) ∧ Go.RowKit.Below w1.heap.size w1 w') := fun W u hF hB => by
        have hA := (Go.RowKit.Below.refl _ W).alloc (Nat.le_refl _) (.cells #[.int .u16 6, .int .u16 7] 26)
        refine (any_any u _ [5, 6] [6, 7] _ (hF.arg.below hA) (two_farg 6 7 _)).mono ?_
        rintro e w' ⟨rfl, rfl⟩
        exact ⟨rfl, hB.trans (hA.mono hB.size)⟩
      have HAL : Hid (∀ (W : World) u, FRow w1.heap.size W u [5, 6] → Go.RowKit.Below w1.heap.size w1 W → Calls Try.prog 8 #[u, .slice (some ⟨W.heap.size, 0, none⟩) 2 2] (W.alloc (.cells #[.int .u16 6, .int .u16 7] 26)) fun e w' => e = .returned (.bool false) ∧ Go.RowKit.Below w1.heap.size w1 w') := fun W u hF hB => by
        have hA := (Go.RowKit.Below.refl _ W).alloc (Nat.le_refl _) (.cells #[.int .u16 6, .int .u16 7] 26)
        have hBA := hB.trans (hA.mono hB.size)
        refine (all_any u _ [5, 6] [6, 7] _ (hF.arg.below hA) (two_farg 6 7 _) (by decide)).mono ?_
        rintro e w' ⟨rfl, h2⟩
        exact ⟨rfl, hBA.trans (h2.mono hBA.size)⟩
      have HAN2 : Hid (∀ (W : World) t, FArg W t F → Go.RowKit.Below w1.heap.size w1 W → Calls Try.prog 7 #[x, t] W fun e w' => e = .returned (.bool (F.any (hasB S))) ∧ w' = W) := fun W t hT hB => any_any x t S F W (unhide HX9 W hB) hT
      have HAL2 : Hid (∀ (W : World) t, FArg W t F → Go.RowKit.Below w1.heap.size w1 W → Calls Try.prog 8 #[x, t] W fun e w' => e = .returned (.bool (F.all (hasB S))) ∧ Go.RowKit.Below w1.heap.size w1 w') := fun W t hT hB => by
        refine (all_any x t S F W (unhide HX9 W hB) hT (by rw [unhide HN]; omega)).mono ?_
        rintro e w' ⟨rfl, h2⟩
        exact ⟨rfl, hB.trans (h2.mono hB.size)⟩
      have HTW2 : Hid (∀ W : World, Go.RowKit.Below w1.heap.size w1 W → Calls Try.prog 4 #[.slice ao k cap] W fun e w' => ∃ u, e = .returned u ∧ FArg w' u F ∧ Go.RowKit.Below w1.heap.size w1 w') := fun W hB => by
        refine (unhide HTW W ((unhide HB1).trans (hB.mono (unhide HB1).size))).mono ?_
        rintro e w' ⟨u, rfl, h1, _, h2⟩
        exact ⟨u, rfl, h1, hB.trans (h2.mono hB.size)⟩
      clear HTW HOR HX HFA HC
      generalize F.any (hasB S) = an at *
      generalize F.all (hasB S) = al at *
      have HB0 := hide (Go.RowKit.Below.refl w1.heap.size w1)
      go_wp2_with (first
        | (go_at_call 6; first
          | (refine (unhide HOF1 _ (unhide HB0)).mono ?_; rintro e w2 ⟨u2, rfl, hF2, hB2⟩; have HHA := hide (has_any u2 [5] 5 w2 hF2.arg); have HBA := hide hB2; clear hF2 hB2 HOF1)
          | (refine (unhide HOF2 _ (unhide HBA)).mono ?_; rintro e w3 ⟨u3, rfl, hF3, hB3⟩; have HAX := hide (unhide HAN _ _ hF3 hB3); clear hF3 hB3 HBA)
          | (refine (unhide HOF2 _ (unhide HBC)).mono ?_; rintro e w5 ⟨u5, rfl, hF5, hB5⟩; have HLX := hide (unhide HAL _ _ hF5 hB5); clear hF5 hB5 HBC))
        | (go_at_call 5; refine (unhide HHA).mono ?_; rintro e wh ⟨rfl, hwh⟩; obtain rfl := hwh.symm)
        | (go_at_call 7; first
          | (refine (unhide HAX).mono ?_; rintro e w4 ⟨rfl, hB4⟩; have HBC := hide hB4; clear hB4 HAX)
          | (refine (unhide HAY).mono ?_; rintro e wa ⟨rfl, hwa⟩; obtain rfl := hwa.symm; clear HAY))
        | (go_at_call 8; first
          | (refine (unhide HLX).mono ?_; rintro e w6 ⟨rfl, hB6⟩; have HBD := hide hB6; clear hB6 HLX)
          | (refine (unhide HLY).mono ?_; rintro e w9 ⟨rfl, hB9⟩; have HBF := hide hB9; clear hB9 HLY))
        | (go_at_call 4; first
          | (refine (unhide HTW2 _ (unhide HBD)).mono ?_; rintro e w7 ⟨t7, rfl, hF7, hB7⟩; have HAY := hide (unhide HAN2 _ _ hF7 hB7); have HBE := hide hB7; clear hF7 hB7 HBD)
          | (refine (unhide HTW2 _ (unhide HBE)).mono ?_; rintro e w8 ⟨t8, rfl, hF8, hB8⟩; have HLY := hide (unhide HAL2 _ _ hF8 hB8); clear hF8 hB8 HBE)))
      go_ret
      exact ⟨by simp, (unhide HB1).trans ((unhide HBF).mono (unhide HB1).size)⟩
end AnyAll
end So
end Go.Proofs.Ytaaonaaciomijaa
