/- Contract: Equal of two sets of flags. -/
import Derived.Test.YtaaonaaciomijaaDoorSetW
import Derived.Test.YtaaonaaciomijaaDoorShEq
namespace Go.Proofs.YtaaonaaciomijaaDoor
open Go.Sort Go.RowKit
namespace So

theorem allEq_dec : ∀ (xs ys : List Int), Lib.allEq (fun x y => decide (x = y)) xs ys = decide (xs = ys)
  | [], [] => rfl
  | [], _ :: _ => rfl
  | _ :: _, [] => rfl
  | x :: xs, y :: ys => by
    have ih := allEq_dec xs ys
    show (decide (x = y) && Lib.allEq (fun x y => decide (x = y)) xs ys) = _
    rw [ih]
    by_cases h1 : x = y
    · by_cases h2 : xs = ys
      · simp [h1, h2]
      · simp [h1, h2]
    · simp [h1]
theorem drew_below (W : World) (q n : Nat) : Go.RowKit.Below n W (W.drewN q) := ⟨rfl, rfl, rfl, Nat.le_refl _, fun _ _ => rfl⟩
theorem holds_list {W : World} {g : Nat} {l : List Int} (h : Holds encF W g 0 l.toArray) : ∀ j, j < l.length → W.cell? ⟨g, 0 + j, none⟩ = some (.int .u16 l[j]!) := fun j hj => by
  have := (h j (by simpa using hj)).1
  rw [this]
  congr 2
  rw [getElem!_pos l.toArray j (by simpa using hj), getElem!_pos l j hj]
  simp
set_option maxRecDepth 100000 in
set_option maxHeartbeats 2000000 in
theorem equal_set (v t : Value) (S T : List Int) (w : World) (hS : FArg w v S) (hT : FArg w t T) (hn : S.length + T.length ≤ 1099511627776) :
    Calls Tryd.prog 23 #[v, t] w fun e w' => e = .returned (.bool (decide (setOf S = setOf T))) ∧ Go.RowKit.Below w.heap.size w w' := by
  have HO1 := hide (of_set v S w hS (by omega))
  have HO2 : Hid (∀ W, Go.RowKit.Below w.heap.size w W → Calls Tryd.prog 18 #[t] W fun e w' => ∃ u, e = .returned u ∧ FRow W.heap.size w' u (setOf T) ∧ Go.RowKit.Below W.heap.size W w') := fun W hB => of_set t T W (hT.below hB) (by omega)
  have HEQ : Hid (∀ W1 W2 u1 u2, FRow w.heap.size W1 u1 (setOf S) → Go.RowKit.Below w.heap.size w W1 → FRow W1.heap.size W2 u2 (setOf T) → Go.RowKit.Below W1.heap.size W1 W2 → Calls Tryd.prog 43 #[u1, u2] W2 fun e w' => e = .returned (.bool (decide (setOf S = setOf T))) ∧ Go.RowKit.Below w.heap.size w w') := fun W1 W2 u1 u2 h1 hB1 h2 hB2 => by
    obtain ⟨g, cap, rfl, _, _, _, hm, hH⟩ := (h1.below hB2).cells
    obtain ⟨g2, cap2, rfl, _, _, _, hm2, hH2⟩ := h2.cells
    have l1 := (setOf_set S).len
    have l2 := (setOf_set T).len
    refine (Tryd.flag_Equal g 0 (setOf S).length cap g2 0 (setOf T).length cap2 (setOf S) (setOf T) W2 (Nat.le_refl _) (Nat.le_refl _) (by omega) (by omega) (holds_list hH) (holds_list hH2)).mono ?_
    rintro e w' ⟨rfl, q, rfl⟩
    rw [List.take_length, List.take_length, allEq_dec]
    exact ⟨rfl, (hB1.trans (hB2.mono hB1.size)).trans (drew_below W2 q _)⟩
  clear hS hT hn
  generalize decide (setOf S = setOf T) = b at *
  go_enter Tryd.func23, Tryd.ntmps23
  go_wp2_with (first
    | (go_at_call 18; first
      | (refine (unhide HO1).mono ?_; rintro e w1 ⟨u1, rfl, hF1, hB1⟩; have HF1 := hide hF1; have HB1 := hide hB1; have HOX := hide (unhide HO2 _ hB1); clear hF1 hB1 HO1)
      | (refine (unhide HOX).mono ?_; rintro e w2 ⟨u2, rfl, hF2, hB2⟩; have HDX := hide (unhide HEQ _ _ _ _ (unhide HF1) (unhide HB1) hF2 hB2); clear hF2 hB2 HOX))
    | (go_at_call 43; refine (unhide HDX).mono ?_; rintro e w3 ⟨rfl, h3⟩; have H3 := hide h3; clear h3))
  go_ret
  exact ⟨rfl, unhide H3⟩
end So
end Go.Proofs.YtaaonaaciomijaaDoor
