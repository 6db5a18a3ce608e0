/- Contracts: flags.Fold of Without over groups; flags.Fold of no function. -/
import Derived.Test.YtaaonaaciomijabDoorFoW
import Derived.Test.YtaaonaaciomijabDoorDelW
namespace Go.Proofs.YtaaonaaciomijabDoor
open Go.Sort Go.RowKit
namespace So

def foldD (S : List Int) (G : List (List Int)) : List Int := G.foldl (fun a g => kept g (setOf a)) (setOf S)
theorem kept_set (g a : List Int) : setOf (kept g (setOf a)) = kept g (setOf a) := (IsSet.eq ⟨(setOf_set a).1.filter _, fun _ => Iff.rfl⟩).symm
theorem foldD_set : ∀ (G : List (List Int)) (A : List Int), (setOf A = A) → setOf (G.foldl (fun a g => kept g (setOf a)) A) = G.foldl (fun a g => kept g (setOf a)) A
  | [], _, h => h
  | g :: t, A, _ => foldD_set t _ (kept_set g A)
theorem foldD_self (S : List Int) (G : List (List Int)) : setOf (foldD S G) = foldD S G := foldD_set G _ (setOf_setOf S)
theorem foldD_le : ∀ (G : List (List Int)) (A : List Int), (G.foldl (fun a g => kept g (setOf a)) A).length ≤ A.length
  | [], A => Nat.le_refl _
  | g :: t, A => by
    have ih := foldD_le t (kept g (setOf A))
    have h1 := (setOf_set A).len
    have h2 : (kept g (setOf A)).length ≤ (setOf A).length := List.length_filter_le _ _
    simp only [List.foldl_cons]
    omega
theorem foldD_len (S : List Int) (G : List (List Int)) : (foldD S G).length ≤ S.length := by
  have h1 := foldD_le G (setOf S)
  have h2 := (setOf_set S).len
  unfold foldD
  omega
theorem foldD_snoc (S : List Int) (G : List (List Int)) (k : Nat) (g : List Int) (h : G[k]? = some g) : foldD S (G.take (k + 1)) = kept g (setOf (foldD S (G.take k))) := by
  have hk : k < G.length := (List.getElem?_eq_some_iff.1 h).1
  rw [List.take_succ_eq_append_getElem hk, (List.getElem?_eq_some_iff.1 h).2]
  unfold foldD
  rw [List.foldl_append]
  rfl
theorem foldD_mem : ∀ (G : List (List Int)) (A : List Int), ∀ x ∈ G.foldl (fun a g => kept g (setOf a)) A, x ∈ A
  | [], A, x, h => h
  | g :: t, A, x, h => by
    have := foldD_mem t _ x h
    exact mem_setOf.1 (List.mem_filter.1 this).1

set_option maxRecDepth 100000 in
set_option maxHeartbeats 4000000 in
theorem fold_without (v gv : Value) (S : List Int) (G : List (List Int)) (w : World) (hS : FArg w v S) (hG : FRows w gv G) (hn : S.length + sumL G ≤ 549755813888) :
    Calls Tryd.prog 14 #[.func (.func 17) #[] #[], v, gv] w fun e w' => ∃ u, e = .returned u ∧ FRow w.heap.size w' u (foldD S G) ∧ Go.RowKit.Below w.heap.size w w' := by
  have HO := hide (of_set v S w hS (by omega))
  obtain ⟨ao, cap, rfl, hc, hm, hcell⟩ := hG
  have HC := hide hcell
  unfold maxLen at hm
  have HL : Hid (∀ k, (foldD S (G.take k)).length ≤ 549755813888) := fun k => by
    have := foldD_len S (G.take k)
    omega
  have HGL : Hid (∀ g ∈ G, g.length ≤ 549755813888) := fun g hg => by
    have := len_sumL hg
    omega
  have HSN := hide (foldD_snoc S G)
  have HSF : Hid (setOf (foldD S G) = foldD S G) := foldD_self S G
  have HF0 : Hid (foldD S (G.take 0) = setOf S) := rfl
  have HFN : Hid (foldD S (G.take G.length) = foldD S G) := by rw [Hid, List.take_length]
  clear hcell hS hn
  generalize hnn : G.length = n at *
  have HN := hide hnn
  clear hnn
  have hnil : ∀ W : World, Sem.run Tryd.prog (binOp .eql 33 (.func (.func 17) #[] #[]) .nilFunc) W = .ok (.bool false) W := fun W => by kernel_rfl
  go_enter Tryd.func14, Tryd.ntmps14
  go_wp2_with (go_at_call 18; refine (unhide HO).mono ?_; rintro e w1 ⟨u1, rfl, hF1, hB1⟩; have HF1 := hide hF1; have HB1 := hide hB1; clear hF1 hB1 HO)
  go_loopw [7, 17] (fun sv si wr => ∃ k : Nat, si = .int .i64 k ∧ k ≤ n ∧ Hid (FRow w.heap.size wr sv (foldD S (G.take k))) ∧ Hid (Go.RowKit.Below w.heap.size w wr)) (fun _ si _ => n - (intOf si).toNat)
  case atStart => exact ⟨0, rfl, Nat.zero_le _, by rw [unhide HF0]; exact HF1, HB1⟩
  case round =>
    obtain ⟨k, rfl, hk, HF, HB⟩ := hrel
    by_cases hlt : k < n
    · have hltz : (k : Int) < (n : Int) := by omega
      obtain ⟨l, hl⟩ : ∃ l, G[k]? = some l := ⟨_, List.getElem?_eq_getElem (by rw [unhide HN]; exact hlt)⟩
      obtain ⟨g, off, gu, rfl, hg, hcu, hfu⟩ := unhide HC k l hl
      have hcw := ((unhide HB).cell (p := ⟨g, off + k, none⟩) hg).trans hcu
      have HGU := hide (hfu.below (unhide HB))
      have hll := unhide HGL l (List.mem_of_getElem? hl)
      have HK := hide (unhide HSN k l hl)
      have hTl := unhide HL k
      clear hl hcu hfu
      generalize foldD S (G.take k) = T at *
      have HOW := hide (own_any _ T wr (unhide HF).arg (by omega))
      go_wp2_with (first
        | (go_at_call 27; refine (unhide HOW).mono ?_; rintro e w2 ⟨u2, rfl, hF2, hB2⟩; have HF2 := hide hF2; have HB2 := hide hB2; have HOG := hide (own_any gu l w2 ((unhide HGU).below hB2) (by omega)); clear HOW hF2 hB2)
        | (go_at_call 27; refine (unhide HOG).mono ?_; rintro e w3 ⟨u3, rfl, hF3, hB3⟩; have HWI := hide (without_any u2 u3 T l w3 ((unhide HF2).arg.below hB3) hF3.arg (by omega)); have HB3 := hide hB3; clear HOG hF3 hB3)
        | (go_at_call 17; refine (unhide HWI).mono ?_; rintro e w4 ⟨u4, rfl, hF4, hB4⟩; have HF4 := hide hF4; have HB4 := hide hB4; clear HWI hF4 hB4))
      have HBB : Hid (Go.RowKit.Below wr.heap.size wr w4) := (unhide HB2).trans (((unhide HB3).trans ((unhide HB4).mono (unhide HB3).size)).mono (unhide HB2).size)
      have HFF : Hid (FRow w.heap.size w4 u4 (kept l (setOf T))) := (unhide HF4).low (Nat.le_trans (unhide HB).size (Nat.le_trans (unhide HB2).size (unhide HB3).size))
      go_roundw
      case rel => exact ⟨k + 1, by go_num, by omega, by rw [unhide HK]; exact HFF, hide ((unhide HB).trans ((unhide HBB).mono (unhide HB).size))⟩
      case measure => simp [intOf]; omega
    · obtain rfl : k = n := by omega
      have hltz : ¬ (k : Int) < (k : Int) := by omega
      rw [unhide HFN] at HF
      have hTl := unhide HL k
      rw [unhide HFN] at hTl
      have HOW := hide (of_set _ (foldD S G) wr (unhide HF).arg (by omega))
      rw [unhide HSF] at HOW
      go_wp2_with (go_at_call 18; refine (unhide HOW).mono ?_; rintro e w2 ⟨u2, rfl, hF2, hB2⟩; have HF2 := hide hF2; have HB2 := hide hB2; clear hF2 hB2)
      go_ret
      exact ⟨u2, rfl, (unhide HF2).low (unhide HB).size, (unhide HB).trans ((unhide HB2).mono (unhide HB).size)⟩

set_option maxRecDepth 100000 in
set_option maxHeartbeats 4000000 in
theorem fold_nil (v gv : Value) (S : List Int) (w : World) (hS : FArg w v S) (hn : S.length ≤ 549755813888) :
    Calls Tryd.prog 14 #[.nilFunc, v, gv] w fun e w' => ∃ u, e = .returned u ∧ FRow w.heap.size w' u (setOf S) ∧ Go.RowKit.Below w.heap.size w w' := by
  have HO := hide (of_set v S w hS (by omega))
  have hnil : ∀ W : World, Sem.run Tryd.prog (binOp .eql 33 .nilFunc .nilFunc) W = .ok (.bool true) W := fun W => by kernel_rfl
  clear hS hn
  go_enter Tryd.func14, Tryd.ntmps14
  go_wp2_with (go_at_call 18; refine (unhide HO).mono ?_; rintro e w1 ⟨u1, rfl, hF1, hB1⟩; have HF1 := hide hF1; have HB1 := hide hB1; clear hF1 hB1 HO)
  go_ret
  exact ⟨u1, rfl, unhide HF1, unhide HB1⟩
end So
end Go.Proofs.YtaaonaaciomijabDoor
