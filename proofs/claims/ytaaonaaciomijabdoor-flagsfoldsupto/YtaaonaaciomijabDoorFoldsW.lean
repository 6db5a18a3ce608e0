/- The walk of FlagsFolds. -/
import Derived.Test.YtaaonaaciomijabDoorGrW
namespace Go.Proofs.YtaaonaaciomijabDoor
open Go.Sort Go.RowKit
namespace So
namespace Folds
set_option maxRecDepth 100000 in
set_option maxHeartbeats 16000000 in
theorem walk (v gv : Value) (S : List Int) (G : List (List Int)) (w : World) (hS : FArg w v S) (hG : FRows w gv G) (hbS : ∀ x ∈ S, 0 ≤ x ∧ x ≤ 65535) (hbG : ∀ g ∈ G, ∀ x ∈ g, 0 ≤ x ∧ x ≤ 65535) (hn : S.length + sumL G + G.length ≤ 1048576) (hM : MaxIs w) :
    Calls Tryd.prog 3 #[v, gv] w fun e w' => e = .returned (.bool true) ∧ Go.RowKit.Below w.heap.size w w' := by
  obtain ⟨iG, hiG, hzG0, hzG1, hzG2⟩ := info_parts infoG
  have hS0 : ∀ x ∈ S, 0 ≤ x := fun x hx => (hbS x hx).1
  obtain ⟨ao, cap, rfl, hcp, hm, hcell⟩ := hG
  have HC := hide hcell
  have HI1 := hide (ints_any v S w hS hbS (by omega))
  have HOF : Hid (∀ n W u, IRow n W u S → Calls Tryd.prog 8 #[u] W fun e w' => ∃ u, e = .returned u ∧ IRow 0 w' u (setOf S) ∧ Go.RowKit.Below W.heap.size W w') := fun n W u h => by
    refine (refOf_any u S W h hS0 (by omega)).mono ?_
    rintro e w' ⟨u, rfl, h1, h2⟩
    exact ⟨u, rfl, h1.low (Nat.zero_le _), h2⟩
  have HIG : Hid (∀ (k : Nat) l W u, G[k]? = some l → FArg W u l → Calls Tryd.prog 9 #[u] W fun e w' => ∃ u, e = .returned u ∧ IRow 0 w' u l ∧ Go.RowKit.Below W.heap.size W w') := fun k l W u hl h => by
    have := len_sumL (List.mem_of_getElem? hl)
    refine (ints_any u l W h (hbG l (List.mem_of_getElem? hl)) (by omega)).mono ?_
    rintro e w' ⟨u, rfl, h1, h2⟩
    exact ⟨u, rfl, h1.low (Nat.zero_le _), h2⟩
  have hFB : ∀ k, ∀ x ∈ foldW S (G.take k), 0 ≤ x ∧ x ≤ 65535 := fun k x hx => by
    have key : ∀ (T : List (List Int)) (A : List Int), (∀ g ∈ T, ∀ x ∈ g, 0 ≤ x ∧ x ≤ 65535) → (∀ x ∈ A, 0 ≤ x ∧ x ≤ 65535) → ∀ x ∈ T.foldl (fun a g => setOf (a ++ g)) A, 0 ≤ x ∧ x ≤ 65535 := by
      intro T
      induction T with
      | nil => intro A _ h; exact h
      | cons g t ih =>
        intro A h1 h2
        refine ih _ (fun y hy => h1 y (by simp [hy])) (fun x hx => ?_)
        rcases List.mem_append.1 (mem_setOf.1 hx) with hx | hx
        · exact h2 x hx
        · exact h1 g (by simp) x hx
    exact key (G.take k) (setOf S) (fun g hg => hbG g (List.mem_of_mem_take hg)) (set_bounds hbS) x hx
  have hFL : ∀ k, (foldW S (G.take k)).length ≤ 1048576 := fun k => by
    have := foldW_len S (G.take k)
    have := sumL_take G k
    omega
  have HWI : Hid (∀ (k : Nat) l W a b, G[k]? = some l → IRow 0 W a (foldW S (G.take k)) → IRow 0 W b l → Calls Tryd.prog 10 #[a, b] W fun e w' => ∃ u, e = .returned u ∧ IRow 0 w' u (foldW S (G.take (k + 1))) ∧ Go.RowKit.Below W.heap.size W w') := fun k l W a b hl h1 h2 => by
    have := len_sumL (List.mem_of_getElem? hl)
    have := hFL k
    rw [foldW_snoc S G k l hl]
    refine (refWith_any a b (foldW S (G.take k)) l W h1 h2 (fun x hx => (hFB k x hx).1) (fun x hx => (hbG l (List.mem_of_getElem? hl) x hx).1) (by omega)).mono ?_
    rintro e w' ⟨u, rfl, h1, h2⟩
    exact ⟨u, rfl, h1.low (Nat.zero_le _), h2⟩
  have HTW : Hid (∀ (k : Nat) l W u, G[k]? = some l → FArg W u l → Calls Tryd.prog 11 #[u] W fun e w' => ∃ ao c, e = .returned (.slice ao l.length c) ∧ FNR w' (.slice ao l.length c) l ∧ Go.RowKit.Below W.heap.size W w') := fun k l W u hl h => by
    have := len_sumL (List.mem_of_getElem? hl)
    exact twin_fnr u l W h (by omega)
  have HST : Hid (∀ W, Go.RowKit.Below w.heap.size w W → FArg W v S ∧ MaxIs W) := fun W hB => ⟨hS.below hB, hM.below hB⟩
  have HTN : Hid (∀ (k : Nat) l, G[k]? = some l → G.take (k + 1) = G.take k ++ [l]) := fun k l h => take_snocG h
  have HFN : Hid (foldW S (G.take G.length) = foldW S G) := by rw [Hid, List.take_length]
  have HGN : Hid (G.take G.length = G) := List.take_length
  have HF0 : Hid (foldW S (G.take 0) = setOf S) := rfl
  have hFB1 : ∀ x ∈ foldW S G, 0 ≤ x ∧ x ≤ 65535 := by
    have h := hFB G.length
    rwa [List.take_length] at h
  have HIS := hide (fun a b W (h1 : FArg W a (foldW S G)) (h2 : IRow 0 W b (foldW S G)) => is_below a b (foldW S G) W h1 h2 hFB1)
  have HFO := hide (fun a b W (h1 : FArg W a S) (h2 : FRows W b G) => fold_with a b S G W h1 h2 (by omega))

  unfold maxLen at hm
  clear hcell hS hM hFB hFL hFB1 hbG
  generalize hnn : G.length = n at *
  have HN := hide hnn
  clear hnn
  have hnz : (n : Int) ≤ 1048576 := by omega
  go_enter Tryd.func3, Tryd.ntmps3
  go_wp2_with (first
    | (go_at_call 9; refine (unhide HI1).mono ?_; rintro e w1 ⟨a, rfl, hI, hB⟩; have HOX := hide (unhide HOF _ _ _ hI); have HB1 := hide hB; clear hI hB HI1)
    | (go_at_call 8; refine (unhide HOX).mono ?_; rintro e w2 ⟨want, rfl, hI, hB⟩; have HW0 := hide hI; have HB2 := hide ((unhide HB1).trans (hB.mono (unhide HB1).size)); clear hI hB HOX))
  go_loopg [5, 6, 14] n (fun kk s5 s6 s14 wr => ∃ k : Nat, s14 = .int .i64 k ∧ k + kk = n ∧ Hid (IRow 0 wr s5 (foldW S (G.take k))) ∧ Hid (GRow w.heap.size wr s6 k (G.take k)) ∧ Hid (Go.RowKit.Below w.heap.size w wr))
  case atStart => exact ⟨0, rfl, by omega, by rw [unhide HF0]; exact HW0, GRow.nil _ _, HB2⟩
  case round =>
    obtain ⟨k, rfl, hk, HI, HGR, HB⟩ := hrel
    clear HW0 HB2 HB1
    by_cases hlt : k < n
    · have hltz : (k : Int) < (n : Int) := by omega
      obtain ⟨l, hl⟩ : ∃ l, G[k]? = some l := ⟨_, List.getElem?_eq_getElem (by rw [unhide HN]; exact hlt)⟩
      obtain ⟨g, off, gu, rfl, hg, hcu, hfu⟩ := unhide HC k l hl
      have hcw := ((unhide HB).cell (p := ⟨g, off + k, none⟩) hg).trans hcu
      have HGU := hide (hfu.below (unhide HB))
      have HIX := hide (unhide HIG k l _ _ hl (unhide HGU))
      have HWX := hide (fun W a b => unhide HWI k l W a b hl)
      have HTX := hide (fun W u => unhide HTW k l W u hl)
      have HTT := hide (unhide HTN k l hl)
      clear hl hcu hfu hg
      go_wp2_with (first
        | (go_at_call 9; refine (unhide HIX).mono ?_; rintro e w3 ⟨b, rfl, hI3, hB3⟩; have HWY := hide (unhide HWX _ _ _ ((unhide HI).below hB3) hI3); have HB3 := hide hB3; clear hI3 hB3 HIX)
        | (go_at_call 10; refine (unhide HWY).mono ?_; rintro e w4 ⟨c4, rfl, hI4, hB4⟩; have HI4 := hide hI4; have HB4 := hide ((unhide HB3).trans (hB4.mono (unhide HB3).size)); have HTY := hide (unhide HTX _ _ ((unhide HGU).below (unhide HB4))); clear hI4 hB4 HWY)
        | (go_at_call 11; refine (unhide HTY).mono ?_; rintro e w5 ⟨ao5, c5, rfl, hF5, hB5⟩; have HF5 := hide hF5; have HI5 := hide ((unhide HI4).below hB5); have HB5 := hide ((unhide HB4).trans (hB5.mono (unhide HB4).size)); have HBW := hide ((unhide HB).trans ((unhide HB5).mono (unhide HB).size)); obtain ⟨U, hU1, hU2, hU3⟩ := (unhide HGR).below (unhide HB5); have HU1 := hide hU1; have HU2 := hide hU2; have HU3 := hide hU3; clear hF5 hB5 hU1 hU2 hU3 HTY)
        | (at_builtin; refine wpList_append_own _ rfl _ _ 23 rfl w.heap.size 22 iG (.slice none 0 0) 1 24 Tryd.underlying23 hiG hzG0 hzG1 hzG2 rfl (by decide) _ _ _ rfl ((unhide HU1).alloc _) ⟨w5.heap.size, 0, none⟩ 1 1 [.slice ao5 l.length c5] rfl rfl (cell_one_new _ _ _) (fun x hx => by simp at hx; subst hx; rfl) (by unfold maxLen; omega) (by omega) (by have := (unhide HBW).size; simp; omega) ?_; intro v' w6 hown' hgrow _; have HGS := hide (grow_step (unhide HU1) (unhide HU2) (unhide HU3) (unhide HF5) hown' hgrow); have HB6 := hide (irow_push (unhide HU1) (unhide HBW) hgrow); clear hown' hgrow))
      go_roundg (n - (k + 1))
      case rel => exact ⟨k + 1, by go_num, by omega, hide ((unhide HGS).2 _ _ (unhide HI5)), by rw [unhide HTT]; exact hide (unhide HGS).1, HB6⟩
      case measure => omega
    · obtain rfl : k = n := by omega
      have hltz : ¬ (k : Int) < (k : Int) := by omega
      rw [unhide HFN] at HI
      rw [unhide HGN] at HGR
      clear HIG HWI HTW HTN
      have HWK := hide (wakes_any wr (unhide HST _ (unhide HB)).2)
      have HT9 : Hid (∀ W, Go.RowKit.Below w.heap.size w W → Calls Tryd.prog 11 #[v] W fun e w' => ∃ u, e = .returned u ∧ FArg w' u S ∧ Go.RowKit.Below W.heap.size W w') := fun W hB => by
        refine (twin_any v S W (unhide HST W hB).1 (by omega)).mono ?_
        rintro e w' ⟨u, rfl, h1, _, h2⟩
        exact ⟨u, rfl, h1, h2⟩
      go_wp2_with (first
        | (go_at_call 12; refine (unhide HWK).mono ?_; rintro e w7 ⟨rfl, hB⟩; have HI7 := hide ((unhide HI).below hB); have HG7 := hide ((unhide HGR).below hB); have HB7 := hide ((unhide HB).trans (hB.mono (unhide HB).size)); have HTZ := hide (unhide HT9 _ (unhide HB7)); clear hB HWK)
        | (go_at_call 11; refine (unhide HTZ).mono ?_; rintro e w8 ⟨p, rfl, hF, hB⟩; have HI8 := hide ((unhide HI7).below hB); have HFZ := hide (unhide HFO _ _ _ hF ((unhide HG7).below hB).rows); have HB8 := hide ((unhide HB7).trans (hB.mono (unhide HB7).size)); clear hF hB HTZ)
        | (go_at_call 14; refine (unhide HFZ).mono ?_; rintro e w9 ⟨q, rfl, hF, hB⟩; have HIZ := hide (unhide HIS _ _ _ hF.arg ((unhide HI8).below hB)); have HB9 := hide ((unhide HB8).trans (hB.mono (unhide HB8).size)); clear hF hB HFZ)
        | (go_at_call 13; refine (unhide HIZ).mono ?_; rintro e w10 ⟨rfl, hB⟩; have HB10 := hide ((unhide HB9).trans (hB.mono (unhide HB9).size)); clear hB HIZ))
      go_ret
      exact ⟨rfl, unhide HB10⟩
end Folds
end So
end Go.Proofs.YtaaonaaciomijabDoor
