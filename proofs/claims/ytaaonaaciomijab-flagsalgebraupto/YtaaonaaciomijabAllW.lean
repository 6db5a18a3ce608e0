/- Contract: All of a set of flags. -/
import Derived.Test.YtaaonaaciomijabFoW
namespace Go.Proofs.Ytaaonaaciomijab
open Go.Sort Go.RowKit
namespace So

theorem grow_len {S F : List Int} : (setOf (setOf S ++ F)).length = (setOf S).length ↔ F.all (hasB S) = true := by
  rw [List.all_eq_true]
  constructor
  · intro h x hx
    rw [hasB_iff]
    by_cases hxs : x ∈ S
    · exact hxs
    · exfalso
      have hm : x ∈ setOf (setOf S ++ F) := mem_setOf.2 (List.mem_append.2 (.inr hx))
      have h1 : (setOf S).length ≤ ((setOf (setOf S ++ F)).erase x).length := sub_len (setOf_set S).1 fun y hy => by
        have hne : y ≠ x := fun e => hxs (by rw [← e]; exact mem_setOf.1 hy)
        exact (List.mem_erase_of_ne hne).2 (mem_setOf.2 (List.mem_append.2 (.inl hy)))
      rw [List.length_erase_of_mem hm] at h1
      have : 0 < (setOf (setOf S ++ F)).length := List.length_pos_of_mem hm
      omega
  · intro h
    have : setOf (setOf S ++ F) = setOf S := setOf_congr fun x => by
      rw [List.mem_append, mem_setOf]
      constructor
      · rintro (h2 | h2)
        · exact h2
        · exact hasB_iff.1 (h x h2)
      · exact .inl
    rw [this]
theorem len_all {S F : List Int} : decide (((foldW S [F]).length : Int) = ((setOf S).length : Int)) = F.all (hasB S) := by
  have e : foldW S [F] = setOf (setOf S ++ F) := rfl
  rw [e]
  cases h : F.all (hasB S)
  · apply decide_eq_false
    intro h2
    have := grow_len.1 (Int.ofNat.inj h2)
    rw [h] at this
    cases this
  · apply decide_eq_true
    rw [grow_len.2 h]
theorem one_group {w : World} {f : Value} {F : List Int} (hF : FArg w f F) (T : TypeId) : FRows (w.alloc (.cells #[f] T)) (.slice (some ⟨w.heap.size, 0, none⟩) 1 1) [F] := by
  refine ⟨_, 1, rfl, Nat.le_refl _, by simp [maxLen], fun j l hl => ?_⟩
  have hj : j = 0 := by
    have := (List.getElem?_eq_some_iff.1 hl).1
    simpa using this
  subst hj
  simp at hl
  subst hl
  refine ⟨w.heap.size, 0, f, rfl, by simp, ?_, hF.below ((Go.RowKit.Below.refl _ w).alloc (Nat.le_refl _) _)⟩
  rw [World.cell?_alloc_at _ _ _ _ rfl]
  rfl

set_option maxRecDepth 100000 in
set_option maxHeartbeats 4000000 in
theorem all_any (v f : Value) (S F : List Int) (w : World) (hS : FArg w v S) (hF : FArg w f F) (hn : S.length + F.length ≤ 549755813888) :
    Calls Try.prog 10 #[v, f] w fun e w' => e = .returned (.bool (F.all (hasB S))) ∧ Go.RowKit.Below w.heap.size w w' := by
  have hF0 := hF
  obtain ⟨ao, cap, rfl, _⟩ := hF0
  have HR := hide (len_all (S := S) (F := F))
  have HFO := hide (fold_with v _ S [F] _ (hS.below ((Go.RowKit.Below.refl _ w).alloc (Nat.le_refl _) (.cells #[.slice ao F.length cap] 22))) (one_group hF 22) (by simp [sumL]; omega))
  have HC1 : Hid (∀ W u, FRow (w.alloc (.cells #[.slice ao F.length cap] 22)).heap.size W u (foldW S [F]) → Calls Try.prog 6 #[u] W fun e w' => e = .returned (.int .i64 ((foldW S [F]).length : Int)) ∧ Go.RowKit.Below W.heap.size W w') := fun W u hF => by
    have hl := foldW_len S [F]
    have h := count_any u (foldW S [F]) W hF.arg (by simp [sumL] at hl; omega)
    rw [foldW_self] at h
    exact h
  have HC2 : Hid (∀ W, Go.RowKit.Below w.heap.size w W → Calls Try.prog 6 #[v] W fun e w' => e = .returned (.int .i64 ((setOf S).length : Int)) ∧ Go.RowKit.Below W.heap.size W w') := fun W hB => count_any v S W (hS.below hB) (by omega)
  have HB0 : Hid (Go.RowKit.Below w.heap.size w (w.alloc (.cells #[.slice ao F.length cap] 22))) := (Go.RowKit.Below.refl _ w).alloc (Nat.le_refl _) _
  clear hS hF hn
  generalize F.length = nF at *
  generalize ((foldW S [F]).length : Int) = A at *
  generalize ((setOf S).length : Int) = B at *
  generalize F.all (hasB S) = b at *
  go_enter Try.func10, Try.ntmps10
  go_wp2_with (first
    | (go_at_call 18; refine (unhide HFO).mono ?_; rintro e w1 ⟨u1, rfl, hF1, hB1⟩; have HX := hide (unhide HC1 _ _ hF1); have HB1 : Hid (Go.RowKit.Below w.heap.size w w1) := (unhide HB0).trans (hB1.mono (unhide HB0).size); clear hF1 hB1 HFO)
    | (go_at_call 6; refine (unhide HX).mono ?_; rintro e w2 ⟨rfl, hB2⟩; have HB2 : Hid (Go.RowKit.Below w.heap.size w w2) := (unhide HB1).trans (hB2.mono (unhide HB1).size); have HY := hide (unhide HC2 _ (unhide HB2)); clear HX hB2)
    | (go_at_call 6; refine (unhide HY).mono ?_; rintro e w3 ⟨rfl, hB3⟩; have HB3 : Hid (Go.RowKit.Below w.heap.size w w3) := (unhide HB2).trans (hB3.mono (unhide HB2).size); clear HY hB3))
  go_ret
  refine ⟨?_, unhide HB3⟩
  rw [← unhide HR]
  congr 2
end So
end Go.Proofs.Ytaaonaaciomijab
