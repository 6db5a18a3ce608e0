/- The walk of FlagsDrops. -/
import Derived.Test.YtaaonaaciomijabDoorGrW
namespace Go.Proofs.YtaaonaaciomijabDoor
open Go.Sort Go.RowKit
namespace So
namespace Drops
set_option maxRecDepth 100000 in
set_option maxHeartbeats 16000000 in
theorem walk (v gv : Value) (S : List Int) (G : List (List Int)) (w : World) (hS : FArg w v S) (hG : FRows w gv G) (hbS : ∀ x ∈ S, 0 ≤ x ∧ x ≤ 65535) (hbG : ∀ g ∈ G, ∀ x ∈ g, 0 ≤ x ∧ x ≤ 65535) (hn : S.length + sumL G + G.length ≤ 1048576) (hM : MaxIs w) :
    Calls Tryd.prog 4 #[v, gv] w fun e w' => e = .returned (.bool true) ∧ Go.RowKit.Below w.heap.size w w' := by
  obtain ⟨iG, hiG, hzG0, hzG1, hzG2⟩ := info_parts infoG
  have hS0 : ∀ x ∈ S, 0 ≤ x := fun x hx => (hbS x hx).1
  obtain ⟨ao, cap, rfl, hcp, hm, hcell⟩ := hG
  have HC := hide hcell
  have HI1 := hide (ints_any v S w hS hbS (by omega))
  have HOF : Hid (∀ n W u, IRow n W u S → Calls Tryd.prog 8 #[u] W fun e w' => ∃ u, e = .returned u ∧ IRow 0 w' u (setOf S) ∧ Go.RowKit.Below W.heap.size W w') := fun n W u h => by
    refine (refOf_any u S W h hS0 (by omega)).mono ?_
    rintro e w' ⟨u, rfl, h1, h2⟩
    exact ⟨u, rfl, h1.low (Nat.zero_le _), h2⟩
  have HIG : Hid (∀ (k : Nat) l W u, G[k]? = some l → FArg W u l → Calls Tryd.prog 9 #[u] W fun e w' => ∃ u, e = .returned u ∧ IRow 0 w' u l ∧ Go.RowKit.Below W.heap.size W w') := fun k l W u hl h => by
    have := len_sumL (List.mem_of_getElem? hl)
    refine (ints_any u l W h (hbG l (List.mem_of_getElem? hl)) (by omega)).mono ?_
    rintro e w' ⟨u, rfl, h1, h2⟩
    exact ⟨u, rfl, h1.low (Nat.zero_le _), h2⟩
  have hFB : ∀ k, ∀ x ∈ foldD S (G.take k), 0 ≤ x ∧ x ≤ 65535 := fun k x hx => set_bounds hbS x (foldD_mem _ _ x hx)
  have hFL : ∀ k, (foldD S (G.take k)).length ≤ 1048576 := fun k => by
    have := foldD_len S (G.take k)
    have := sumL_take G k
    omega
  have HWI : Hid (∀ (k : Nat) l W a b, G[k]? = some l → IRow 0 W a (foldD S (G.take k)) → IRow 0 W b l → Calls Tryd.prog 16 #[a, b] W fun e w' => ∃ u, e = .returned u ∧ IRow 0 w' u (foldD S (G.take (k + 1))) ∧ Go.RowKit.Below W.heap.size W w') := fun k l W a b hl h1 h2 => by
    have := len_sumL (List.mem_of_getElem? hl)
    have := hFL k
    rw [foldD_snoc S G k l hl]
    refine (refWithout_any a b (foldD S (G.take k)) l W h1 h2 (fun x hx => (hFB k x hx).1) (by omega)).mono ?_
    rintro e w' ⟨u, rfl, h1, h2⟩
    exact ⟨u, rfl, h1.low (Nat.zero_le _), h2⟩
  have HTW : Hid (∀ (k : Nat) l W u, G[k]? = some l → FArg W u l → Calls Tryd.prog 11 #[u] W fun e w' => ∃ ao c, e = .returned (.slice ao l.length c) ∧ FNR w' (.slice ao l.length c) l ∧ Go.RowKit.Below W.heap.size W w') := fun k l W u hl h => by
    have := len_sumL (List.mem_of_getElem? hl)
    exact twin_fnr u l W h (by omega)
  have HST : Hid (∀ W, Go.RowKit.Below w.heap.size w W → FArg W v S ∧ MaxIs W) := fun W hB => ⟨hS.below hB, hM.below hB⟩
  have HTN : Hid (∀ (k : Nat) l, G[k]? = some l → G.take (k + 1) = G.take k ++ [l]) := fun k l h => take_snocG h
  have HFN : Hid (foldD S (G.take G.length) = foldD S G) := by rw [Hid, List.take_length]
  have HGN : Hid (G.take G.length = G) := List.take_length
  have HF0 : Hid (foldD S (G.take 0) = setOf S) := rfl
  have hFB1 : ∀ x ∈ foldD S G, 0 ≤ x ∧ x ≤ 65535 := by
    have h := hFB G.length
    rwa [List.take_length] at h
  have HIS := hide (fun a b W (h1 : FArg W a (foldD S G)) (h2 : IRow 0 W b (foldD S G)) => is_below a b (foldD S G) W h1 h2 hFB1)
  have HFO := hide (fun a b W (h1 : FArg W a S) (h2 : FRows W b G) => fold_without a b S G W h1 h2 (by omega))
  have HNI := hide (fun a b W (h1 : FArg W a S) => fold_nil a b S W h1 (by omega))
  have HIE := hide (fun a b W (h1 : FArg W a (setOf S)) (h2 : IRow 0 W b (setOf S)) => is_below a b (setOf S) W h1 h2 (set_bounds hbS))
  unfold maxLen at hm
  clear hcell hS hM hFB hFL hFB1 hbG
  generalize hnn : G.length = n at *
  have HN := hide hnn
  clear hnn
  have hnz : (n : Int) ≤ 1048576 := by omega
  go_enter Tryd.func4, Tryd.ntmps4
  go_wp2_with (first
    | (go_at_call 9; refine (unhide HI1).mono ?_; rintro e w1 ⟨a, rfl, hI, hB⟩; have HOX := hide (unhide HOF _ _ _ hI); have HB1 := hide hB; clear hI hB HI1)
    | (go_at_call 8; refine (unhide HOX).mono ?_; rintro e w2 ⟨want, rfl, hI, hB⟩; have HW0 := hide hI; have HB2 := hide ((unhide HB1).trans (hB.mono (unhide HB1).size)); clear hI hB HOX))
  go_loopg [5, 6, 14] n (fun kk s5 s6 s14 wr => ∃ k : Nat, s14 = .int .i64 k ∧ k + kk = n ∧ Hid (IRow 0 wr s5 (foldD S (G.take k))) ∧ Hid (GRow w.heap.size wr s6 k (G.take k)) ∧ Hid (Go.RowKit.Below w.heap.size w wr))
  case atStart => exact ⟨0, rfl, by omega, by rw [unhide HF0]; exact HW0, GRow.nil _ _, HB2⟩
  case round =>
    obtain ⟨k, rfl, hk, HI, HGR, HB⟩ := hrel
    clear HW0 HB2 HB1
    by_cases hlt : k < n
    · have hltz : (k : Int) < (n : Int) := by omega
      obtain ⟨l, hl⟩ : ∃ l, G[k]? = some l := ⟨_, List.getElem?_eq_getElem (by rw [unhide HN]; exact hlt)⟩
      obtain ⟨g, off, gu, rfl, hg, hcu, hfu⟩ := unhide HC k l hl
      have hcw := ((unhide HB).cell (p := ⟨g, off + k, none⟩) hg).trans hcu
      have HGU := hide (hfu.below (unhide HB))
      have HIX := hide (unhide HIG k l _ _ hl (unhide HGU))
      have HWX := hide (fun W a b => unhide HWI k l W a b hl)
      have HTX := hide (fun W u => unhide HTW k l W u hl)
      have HTT := hide (unhide HTN k l hl)
      clear hl hcu hfu hg
      go_wp2_with (first
        | (go_at_call 9; refine (unhide HIX).mono ?_; rintro e w3 ⟨b, rfl, hI3, hB3⟩; have HWY := hide (unhide HWX _ _ _ ((unhide HI).below hB3) hI3); have HB3 := hide hB3; clear hI3 hB3 HIX)
        | (go_at_call 16; refine (unhide HWY).mono ?_; rintro e w4 ⟨c4, rfl, hI4, hB4⟩; have HI4 := hide hI4; have HB4 := hide ((unhide HB3).trans (hB4.mono (unhide HB3).size)); have HTY := hide (unhide HTX _ _ ((unhide HGU).below (unhide HB4))); clear hI4 hB4 HWY)
        | (go_at_call 11; refine (unhide HTY).mono ?_; rintro e w5 ⟨ao5, c5, rfl, hF5, hB5⟩; have HF5 := hide hF5; have HI5 := hide ((unhide HI4).below hB5); have HB5 := hide ((unhide HB4).trans (hB5.mono (unhide HB4).size)); have HBW := hide ((unhide HB).trans ((unhide HB5).mono (unhide HB).size)); obtain ⟨U, hU1, hU2, hU3⟩ := (unhide HGR).below (unhide HB5); have HU1 := hide hU1; have HU2 := hide hU2; have HU3 := hide hU3; clear hF5 hB5 hU1 hU2 hU3 HTY)
        | (at_builtin; refine wpList_append_own _ rfl _ _ 23 rfl w.heap.size 22 iG (.slice none 0 0) 1 24 Tryd.underlying23 hiG hzG0 hzG1 hzG2 rfl (by decide) _ _ _ rfl ((unhide HU1).alloc _) ⟨w5.heap.size, 0, none⟩ 1 1 [.slice ao5 l.length c5] rfl rfl (cell_one_new _ _ _) (fun x hx => by simp at hx; subst hx; rfl) (by unfold maxLen; omega) (by omega) (by have := (unhide HBW).size; simp; omega) ?_; intro v' w6 hown' hgrow _; have HGS := hide (grow_step (unhide HU1) (unhide HU2) (unhide HU3) (unhide HF5) hown' hgrow); have HB6 := hide (irow_push (unhide HU1) (unhide HBW) hgrow); clear hown' hgrow))
      go_roundg (n - (k + 1))
      case rel => exact ⟨k + 1, by go_num, by omega, hide ((unhide HGS).2 _ _ (unhide HI5)), by rw [unhide HTT]; exact hide (unhide HGS).1, HB6⟩
      case measure => omega
    · obtain rfl : k = n := by omega
      have hltz : ¬ (k : Int) < (k : Int) := by omega
      rw [unhide HFN] at HI
      rw [unhide HGN] at HGR
      clear HIG HWI HTW HTN
      have HWK := hide (wakes_any wr (unhide HST _ (unhide HB)).2)
      have HT9 : Hid (∀ W, Go.RowKit.Below w.heap.size w W → Calls Tryd.prog 11 #[v] W fun e w' => ∃ u, e = .returned u ∧ FArg w' u S ∧ Go.RowKit.Below W.heap.size W w') := fun W hB => by
        refine (twin_any v S W (unhide HST W hB).1 (by omega)).mono ?_
        rintro e w' ⟨u, rfl, h1, _, h2⟩
        exact ⟨u, rfl, h1, h2⟩
      have HI9 : Hid (∀ W, Go.RowKit.Below w.heap.size w W → Calls Tryd.prog 9 #[v] W fun e w' => ∃ u, e = .returned u ∧ IRow 0 w' u S ∧ Go.RowKit.Below W.heap.size W w') := fun W hB => by
        refine (ints_any v S W (unhide HST W hB).1 hbS (by omega)).mono ?_
        rintro e w' ⟨u, rfl, h1, h2⟩
        exact ⟨u, rfl, h1.low (Nat.zero_le _), h2⟩
      go_wp2_with (first
        | (go_at_call 12; refine (unhide HWK).mono ?_; rintro e w7 ⟨rfl, hB⟩; have HI7 := hide ((unhide HI).below hB); have HG7 := hide ((unhide HGR).below hB); have HB7 := hide ((unhide HB).trans (hB.mono (unhide HB).size)); have HTZ := hide (unhide HT9 _ (unhide HB7)); clear hB HWK)
        | (go_at_call 11; refine (unhide HTZ).mono ?_; rintro e w8 ⟨p, rfl, hF, hB⟩; have HI8 := hide ((unhide HI7).below hB); have HG8 := hide ((unhide HG7).below hB); have HFZ := hide (unhide HNI p u6 _ hF); have HB8 := hide ((unhide HB7).trans (hB.mono (unhide HB7).size)); clear hF hB HTZ)
        | (go_at_call 14; refine (unhide HFZ).mono ?_; rintro e w9 ⟨q, rfl, hF, hB⟩; have HQ9 := hide hF; have HI9a := hide ((unhide HI8).below hB); have HG9 := hide ((unhide HG8).below hB); have HB9 := hide ((unhide HB8).trans (hB.mono (unhide HB8).size)); have HJZ := hide (unhide HI9 _ (unhide HB9)); clear hF hB HFZ)
        | (go_at_call 9; refine (unhide HJZ).mono ?_; rintro e w10 ⟨a2, rfl, hI, hB⟩; have HQ10 := hide ((unhide HQ9).arg.below hB); have HI10 := hide ((unhide HI9a).below hB); have HG10 := hide ((unhide HG9).below hB); have HB10 := hide ((unhide HB9).trans (hB.mono (unhide HB9).size)); have HOZ := hide (unhide HOF _ _ _ hI); clear hI hB HJZ)
        | (go_at_call 8; refine (unhide HOZ).mono ?_; rintro e w11 ⟨r, rfl, hI, hB⟩; have HI11 := hide ((unhide HI10).below hB); have HG11 := hide ((unhide HG10).below hB); have HB11 := hide ((unhide HB10).trans (hB.mono (unhide HB10).size)); have HEZ := hide (unhide HIE _ _ _ ((unhide HQ10).below hB) hI); clear hI hB HOZ)
        | (go_at_call 13; refine (unhide HEZ).mono ?_; rintro e w12 ⟨rfl, hB⟩; have HI12 := hide ((unhide HI11).below hB); have HG12 := hide ((unhide HG11).below hB); have HB12 := hide ((unhide HB11).trans (hB.mono (unhide HB11).size)); have HTV := hide (unhide HT9 _ (unhide HB12)); clear hB HEZ)
        | (go_at_call 11; refine (unhide HTV).mono ?_; rintro e w13 ⟨p2, rfl, hF, hB⟩; have HI13 := hide ((unhide HI12).below hB); have HFV := hide (unhide HFO _ _ _ hF ((unhide HG12).below hB).rows); have HB13 := hide ((unhide HB12).trans (hB.mono (unhide HB12).size)); clear hF hB HTV)
        | (go_at_call 14; refine (unhide HFV).mono ?_; rintro e w14 ⟨q2, rfl, hF, hB⟩; have HIZ := hide (unhide HIS _ _ _ hF.arg ((unhide HI13).below hB)); have HB14 := hide ((unhide HB13).trans (hB.mono (unhide HB13).size)); clear hF hB HFV)
        | (go_at_call 13; refine (unhide HIZ).mono ?_; rintro e w15 ⟨rfl, hB⟩; have HB15 := hide ((unhide HB14).trans (hB.mono (unhide HB14).size)); clear hB HIZ))
      go_ret
      exact ⟨rfl, unhide HB15⟩
end Drops
end So
end Go.Proofs.YtaaonaaciomijabDoor
