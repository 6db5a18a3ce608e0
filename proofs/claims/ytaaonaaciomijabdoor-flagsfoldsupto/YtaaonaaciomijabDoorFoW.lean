/- Contract: flags.Fold of With over groups: the set of the start and of all groups. -/
import Derived.Test.YtaaonaaciomijabDoorSetW
namespace Go.Proofs.YtaaonaaciomijabDoor
open Go.Sort Go.RowKit
namespace So

/-- groups of flags, wherever they lie -/
def FRows (W : World) (v : Value) (G : List (List Int)) : Prop :=
  ∃ ao cap, v = .slice ao G.length cap ∧ G.length ≤ cap ∧ G.length ≤ maxLen ∧ ∀ (j : Nat) l, G[j]? = some l → ∃ g off u, ao = some ⟨g, off, none⟩ ∧ g < W.heap.size ∧ W.cell? ⟨g, off + j, none⟩ = some u ∧ FArg W u l
def foldW (S : List Int) (G : List (List Int)) : List Int := G.foldl (fun a g => setOf (a ++ g)) (setOf S)
theorem foldW_set (S : List Int) : ∀ (G : List (List Int)) (A : List Int), (setOf A = A) → setOf (G.foldl (fun a g => setOf (a ++ g)) A) = G.foldl (fun a g => setOf (a ++ g)) A
  | [], _, h => h
  | _ :: t, _, _ => foldW_set S t _ (setOf_congr fun _ => mem_setOf)
theorem setOf_setOf (S : List Int) : setOf (setOf S) = setOf S := setOf_congr fun _ => mem_setOf
theorem foldW_self (S : List Int) (G : List (List Int)) : setOf (foldW S G) = foldW S G := foldW_set S G _ (setOf_setOf S)
def sumL (G : List (List Int)) : Nat := (G.map List.length).sum
theorem foldl_len : ∀ (G : List (List Int)) (A : List Int), (G.foldl (fun a g => setOf (a ++ g)) A).length ≤ A.length + sumL G
  | [], A => by simp [sumL]
  | g :: t, A => by
    have ih := foldl_len t (setOf (A ++ g))
    have := (setOf_set (A ++ g)).len
    simp only [List.foldl_cons, sumL, List.map_cons, List.sum_cons] at ih ⊢
    simp at this
    omega
theorem foldW_len (S : List Int) (G : List (List Int)) : (foldW S G).length ≤ S.length + sumL G := by
  have h1 := foldl_len G (setOf S)
  have h2 := (setOf_set S).len
  unfold foldW
  omega
theorem foldW_snoc (S : List Int) (G : List (List Int)) (k : Nat) (g : List Int) (h : G[k]? = some g) : foldW S (G.take (k + 1)) = setOf (foldW S (G.take k) ++ g) := by
  have hk : k < G.length := (List.getElem?_eq_some_iff.1 h).1
  rw [List.take_succ_eq_append_getElem hk, (List.getElem?_eq_some_iff.1 h).2]
  unfold foldW
  rw [List.foldl_append]
  rfl
theorem sumL_take : ∀ (G : List (List Int)) (k : Nat), sumL (G.take k) ≤ sumL G
  | [], k => by simp [sumL]
  | g :: t, 0 => by simp [sumL]
  | g :: t, k + 1 => by
    have := sumL_take t k
    simp only [sumL, List.take_succ_cons, List.map_cons, List.sum_cons] at this ⊢
    omega
theorem len_sumL : ∀ {G : List (List Int)} {g : List Int}, g ∈ G → g.length ≤ sumL G
  | x :: t, g, h => by
    simp only [sumL, List.map_cons, List.sum_cons]
    rcases List.mem_cons.1 h with rfl | h
    · omega
    · have := len_sumL h
      simp only [sumL] at this
      omega

set_option maxRecDepth 100000 in
set_option maxHeartbeats 4000000 in
theorem fold_with (v gv : Value) (S : List Int) (G : List (List Int)) (w : World) (hS : FArg w v S) (hG : FRows w gv G) (hn : S.length + sumL G ≤ 549755813888) :
    Calls Tryd.prog 14 #[.func (.func 15) #[] #[], v, gv] w fun e w' => ∃ u, e = .returned u ∧ FRow w.heap.size w' u (foldW S G) ∧ Go.RowKit.Below w.heap.size w w' := by
  have HO := hide (of_set v S w hS (by omega))
  obtain ⟨ao, cap, rfl, hc, hm, hcell⟩ := hG
  have HC := hide hcell
  unfold maxLen at hm
  have HL : Hid (∀ k, (foldW S (G.take k)).length ≤ 549755813888) := fun k => by
    have := foldW_len S (G.take k)
    have := sumL_take G k
    omega
  have HGL : Hid (∀ g ∈ G, g.length ≤ 549755813888) := fun g hg => by
    have := len_sumL hg
    omega
  have HSN := hide (foldW_snoc S G)
  have HSF : Hid (setOf (foldW S G) = foldW S G) := foldW_self S G
  have HF0 : Hid (foldW S (G.take 0) = setOf S) := rfl
  have HFN : Hid (foldW S (G.take G.length) = foldW S G) := by rw [Hid, List.take_length]
  clear hcell hS hn
  generalize hnn : G.length = n at *
  have HN := hide hnn
  clear hnn
  have hnil : ∀ W : World, Sem.run Tryd.prog (binOp .eql 33 (.func (.func 15) #[] #[]) .nilFunc) W = .ok (.bool false) W := fun W => by kernel_rfl
  go_enter Tryd.func14, Tryd.ntmps14
  go_wp2_with (go_at_call 18; refine (unhide HO).mono ?_; rintro e w1 ⟨u1, rfl, hF1, hB1⟩; have HF1 := hide hF1; have HB1 := hide hB1; clear hF1 hB1 HO)
  go_loopw [7, 17] (fun sv si wr => ∃ k : Nat, si = .int .i64 k ∧ k ≤ n ∧ Hid (FRow w.heap.size wr sv (foldW S (G.take k))) ∧ Hid (Go.RowKit.Below w.heap.size w wr)) (fun _ si _ => n - (intOf si).toNat)
  case atStart => exact ⟨0, rfl, Nat.zero_le _, by rw [unhide HF0]; exact HF1, HB1⟩
  case round =>
    obtain ⟨k, rfl, hk, HF, HB⟩ := hrel
    by_cases hlt : k < n
    · have hltz : (k : Int) < (n : Int) := by omega
      obtain ⟨l, hl⟩ : ∃ l, G[k]? = some l := ⟨_, List.getElem?_eq_getElem (by rw [unhide HN]; exact hlt)⟩
      obtain ⟨g, off, gu, rfl, hg, hcu, hfu⟩ := unhide HC k l hl
      have hcw := ((unhide HB).cell (p := ⟨g, off + k, none⟩) hg).trans hcu
      have HGU := hide (hfu.below (unhide HB))
      have hll := unhide HGL l (List.mem_of_getElem? hl)
      have HK := hide (unhide HSN k l hl)
      have hTl := unhide HL k
      clear hl hcu hfu
      generalize foldW S (G.take k) = T at *
      have HOW := hide (own_any _ T wr (unhide HF).arg (by omega))
      go_wp2_with (first
        | (go_at_call 27; refine (unhide HOW).mono ?_; rintro e w2 ⟨u2, rfl, hF2, hB2⟩; have HF2 := hide hF2; have HB2 := hide hB2; have HOG := hide (own_any gu l w2 ((unhide HGU).below hB2) (by omega)); clear HOW hF2 hB2)
        | (go_at_call 27; refine (unhide HOG).mono ?_; rintro e w3 ⟨u3, rfl, hF3, hB3⟩; have HWI := hide (with_any u2 u3 T l w3 ((unhide HF2).arg.below hB3) hF3.arg (by omega)); have HB3 := hide hB3; clear HOG hF3 hB3)
        | (go_at_call 15; refine (unhide HWI).mono ?_; rintro e w4 ⟨u4, rfl, hF4, hB4⟩; have HF4 := hide hF4; have HB4 := hide hB4; clear HWI hF4 hB4))
      have HBB : Hid (Go.RowKit.Below wr.heap.size wr w4) := (unhide HB2).trans (((unhide HB3).trans ((unhide HB4).mono (unhide HB3).size)).mono (unhide HB2).size)
      have HFF : Hid (FRow w.heap.size w4 u4 (setOf (T ++ l))) := (unhide HF4).low (Nat.le_trans (unhide HB).size (Nat.le_trans (unhide HB2).size (unhide HB3).size))
      go_roundw
      case rel => exact ⟨k + 1, by go_num, by omega, by rw [unhide HK]; exact HFF, hide ((unhide HB).trans ((unhide HBB).mono (unhide HB).size))⟩
      case measure => simp [intOf]; omega
    · obtain rfl : k = n := by omega
      have hltz : ¬ (k : Int) < (k : Int) := by omega
      rw [unhide HFN] at HF
      have hTl := unhide HL k
      rw [unhide HFN] at hTl
      have HOW := hide (of_set _ (foldW S G) wr (unhide HF).arg (by omega))
      rw [unhide HSF] at HOW
      go_wp2_with (go_at_call 18; refine (unhide HOW).mono ?_; rintro e w2 ⟨u2, rfl, hF2, hB2⟩; have HF2 := hide hF2; have HB2 := hide hB2; clear hF2 hB2)
      go_ret
      exact ⟨u2, rfl, (unhide HF2).low (unhide HB).size, (unhide HB).trans ((unhide HB2).mono (unhide HB).size)⟩
end So
end Go.Proofs.YtaaonaaciomijabDoor
