/- Layer 7: the walk of HeapTurned. -/
import Derived.Test.YtddfljlecnllaaaKv
import Derived.Test.YtddfljlecnllaaaKf
namespace Go.Proofs.Ytddfljlecnllaaa
open Go.RowKit
namespace Hp
theorem rev_drop {S : List It} {m : Nat} {x : It} (h : S[m]? = some x) : (S.drop (m + 1)).reverse ++ [x] = (S.drop m).reverse := by
  have hm := (List.getElem?_eq_some_iff.1 h).1
  rw [List.drop_eq_getElem_cons hm, (List.getElem?_eq_some_iff.1 h).2, List.reverse_cons]
theorem ref_new (W : World) : RAt (W.alloc (.cells #[.slice none 0 0] 31)) W.heap.size [] (fun b => b = W.heap.size) :=
  ⟨.slice none 0 0, fun b hb => by rw [hb]; simp, rfl, (MapKept.heap_alloc W _).1, World.ownsRow_nil _ _ _ _, fun g hg => by cases hg⟩
theorem its_slice0 {w : World} {v : Value} {X : List It} {F : Nat → Prop} (h : Its w v X F) : ∃ ao cap, v = .slice ao X.length cap := by
  obtain ⟨ao, cap, e, _⟩ := h
  exact ⟨ao, cap, e⟩
set_option maxRecDepth 100000 in
set_option maxHeartbeats 8000000 in
theorem turned_walk {w : World} {v1 : Value} {X : List It} (h1 : Its w v1 X (fun b => w.heap.size ≤ b)) (hz : X.length ≤ 1048576) :
    Calls Try.prog 5 #[v1] w fun e w' => e = .returned (.bool true) ∧ Below w.heap.size w w' := by
  have H1 := hide h1
  obtain ⟨ao, cap, rfl, hat⟩ := h1
  have HAT := hide hat
  have HLS : Hid (∀ (a b : It) (W : World), Calls Try.prog 18 #[.agg #[.int .i64 a.1, .int .i64 a.2], .agg #[.int .i64 b.1, .int .i64 b.2]] W fun e w' => e = .returned (.bool (decide (a.1 < b.1))) ∧ Below W.heap.size W w') := fun a b W => les_item.call a b W
  clear hat
  obtain ⟨n, hn⟩ : ∃ n, X.length = n := ⟨_, rfl⟩
  have HN := hide hn
  rw [hn] at hz H1 ⊢
  clear hn
  go_enter Try.func5, Try.ntmps5
  go_wp2_with fail
  refine (wakes_any w).mono ?_
  rintro e w1 ⟨rfl, b1⟩
  have B1 := hide b1
  clear b1
  go_wp2
  go_loopw [16] (fun s16 wr => ∃ (k : Nat), s16 = .int .i64 k ∧ k ≤ n ∧ Hid (Below w.heap.size w wr)) (fun s16 _ => n - (intOf s16).toNat)
  case atStart => exact ⟨0, rfl, Nat.zero_le _, B1⟩
  case round =>
    obtain ⟨k, rfl, hk, HB⟩ := hrel
    by_cases hlt : k < n
    · have hltz : (k : Int) < (n : Int) := by omega
      have hk0 : 0 ≤ (k : Int) := by omega
      have hn0 : (0 : Int) < (n : Int) := by omega
      obtain ⟨x, hx⟩ : ∃ x, X[k]? = some x := ⟨_, List.getElem?_eq_getElem (by rw [unhide HN]; exact hlt)⟩
      obtain ⟨z, hz0⟩ : ∃ z, X[0]? = some z := ⟨_, List.getElem?_eq_getElem (by rw [unhide HN]; omega)⟩
      obtain ⟨g, off, rfl, hg, -, hc⟩ := unhide HAT (by rw [unhide HN]; omega)
      have x0 := ((unhide HB).cell (p := ⟨g, off + k * 2, none⟩) hg).trans (hc k x hx).1
      have x1 := ((unhide HB).cell (p := ⟨g, off + k * 2 + 1, none⟩) hg).trans (hc k x hx).2
      have z0 := ((unhide HB).cell (p := ⟨g, off + 0 * 2, none⟩) hg).trans (hc 0 z hz0).1
      have z1 := ((unhide HB).cell (p := ⟨g, off + 0 * 2 + 1, none⟩) hg).trans (hc 0 z hz0).2
      rw [Nat.zero_mul, Nat.add_zero] at z0 z1
      have l1 : g < wr.heap.size := Nat.lt_of_lt_of_le hg (unhide HB).size
      have hnn : 0 < n := by omega
      clear hc hx hz0
      go_wp2
      go_region_held3 (fun w' => w'.cell? ⟨g, off + k * 2, none⟩ = some (.int .i64 x.1) ∧ w'.cell? ⟨g, off + k * 2 + 1, none⟩ = some (.int .i64 x.2) ∧ w'.cell? ⟨g, off, none⟩ = some (.int .i64 z.1) ∧ w'.cell? ⟨g, off + 1, none⟩ = some (.int .i64 z.2))
        (first | exact ⟨x0, x1, z0, z1⟩ | exact s3)
        (first | (go_at_call 18; refine (unhide HLS _ _ _).mono ?_; rintro e w3 ⟨rfl, hb3⟩; have s3 := (⟨(hb3.cell (p := ⟨g, off + k * 2, none⟩) l1).trans x0, (hb3.cell (p := ⟨g, off + k * 2 + 1, none⟩) l1).trans x1, (hb3.cell (p := ⟨g, off, none⟩) l1).trans z0, (hb3.cell (p := ⟨g, off + 1, none⟩) l1).trans z1⟩ : _ ∧ _ ∧ _ ∧ _); have HB3 : Hid (Below w.heap.size w w3) := (unhide HB).trans (((Below.refl _ _).drew.trans hb3).mono (unhide HB).size); clear hb3))
      all_goals
        clear s3
        go_wp2
        go_roundw
        case rel => exact ⟨k + 1, by go_num, by omega, HB3⟩
        case measure => simp [intOf]; omega
    · obtain rfl : k = n := by omega
      have hltz : ¬ (k : Int) < (k : Int) := by omega
      have HTW := hide (twin_any ((unhide H1).chg (Chg.of_below (unhide HB)) |>.mono (G := fun _ => False) (fun _ _ h => h.elim)) (by rw [unhide HN]; omega))
      go_wp2_with fail
      refine (unhide HTW).mono ?_
      rintro e w2 ⟨u2, rfl, r2, b2⟩
      have HNW := hide (new_any lessV_fall (r2.its.mono (fun b hb hg => absurd hg (by omega)) : Its w2 u2 X (fun b => w2.heap.size ≤ b)) (by rw [unhide HN]; omega))
      have B2 : Hid (Below w.heap.size w w2) := (unhide HB).trans (b2.mono (unhide HB).size)
      clear r2 b2 HTW
      go_wp2_with fail
      refine (unhide HNW).mono ?_
      rintro e w3 ⟨rfl, a3, b3⟩
      have B3 : Hid (Below w.heap.size w w3) := (unhide B2).trans (b3.mono (unhide B2).size)
      have HDR := hide (drain_any lessV_fall a3 (by rw [unhide HN]; omega))
      have hs2 := (unhide B2).size
      clear a3 b3 HNW
      go_wp2_with fail
      refine (unhide HDR).mono ?_
      rintro e w4 ⟨v4, rfl, G, -, -, ir, c4⟩
      have B4 : Hid (Below w.heap.size w w4) := (unhide B3).trans (c4.below (unhide B3).size (fun b hb => by omega))
      have HSL : Hid ((drain fall_ X).length = k) := (drain_len _ _ rfl).trans (unhide HN)
      have IR : Hid (Its w4 v4 (drain fall_ X) (fun b => w4.heap.size ≤ b)) := by
        refine its_of_row ir.1 fun g hg => ?_
        have := (ir.1.lt g hg).2
        omega
      have HTU : Hid ((drain fall_ X).reverse = drain rise_ X.reverse) := drain_turn _ X rfl
      clear ir c4 HDR
      generalize drain fall_ X = S at *
      obtain ⟨a4, c4, e4⟩ := its_slice0 (unhide IR)
      rw [unhide HSL] at e4
      subst e4
      go_wp2
      refine gen_world ?_
      intro W0 hW0
      have B5 : Hid (Below w.heap.size w W0) := by rw [hW0]; exact (unhide B4).alloc (unhide B4).size _
      have I5 : Hid (Its W0 (.slice a4 k c4) S (fun b => b = w4.heap.size)) := by
        rw [hW0]
        exact ((unhide IR).chg (Chg.of_below ((Below.refl _ _).alloc (Nat.le_refl _) _))).mono fun b _ e => by rw [e]; exact Nat.le_refl _
      have HR0 : Hid (RRes (fun b => b = w4.heap.size) W0 w4.heap.size ((S.drop k).reverse) W0) := by
        rw [show S.drop k = [] from List.drop_eq_nil_of_le (by rw [unhide HSL]; exact Nat.le_refl _)]
        rw [hW0]
        exact RRes.start (ref_new w4)
      have hW4 : w4.heap.size < W0.heap.size := by rw [hW0]; simp
      have M5 : Hid (Its W0 (.slice ao k cap) X (fun b => b = w4.heap.size)) := ((unhide H1).chg (Chg.of_below (unhide B5))).mono fun b _ e => by rw [e]; exact (unhide B4).size
      clear hW0 IR H1
      have hs4 := (unhide B4).size
      generalize w4.heap.size = lb at *
      go_loopw [7] (fun s7 wr => ∃ (m : Nat), s7 = .int .i64 ((m : Int) - 1) ∧ m ≤ k ∧ Hid (RRes (fun b => b = lb) W0 lb ((S.drop m).reverse) wr)) (fun s7 _ => (intOf s7 + 1).toNat)
      case atStart => exact ⟨k, by go_num, Nat.le_refl _, HR0⟩
      case round =>
        obtain ⟨m, rfl, hm, HR⟩ := hrel
        by_cases hm0 : 0 < m
        · obtain ⟨i, rfl⟩ : ∃ i, m = i + 1 := ⟨m - 1, by omega⟩
          have hiz : (i : Int) < (k : Int) := by omega
          have hi0 : 0 ≤ (i : Int) := by omega
          have e1 : ((i + 1 : Nat) : Int) - 1 = (i : Int) := by omega
          rw [e1]
          clear e1
          obtain ⟨x, hx⟩ : ∃ x, S[i]? = some x := ⟨_, List.getElem?_eq_getElem (by rw [unhide HSL]; omega)⟩
          obtain ⟨a', c', e1, hat⟩ := (unhide I5).chg (unhide HR).2
          have e3 : a4 = a' := by injection e1
          clear e1
          subst e3
          obtain ⟨g, off, rfl, hg, -, hc⟩ := hat (by rw [unhide HSL]; omega)
          obtain ⟨x0, x1⟩ := hc i x hx
          have HT : Hid ((S.drop i).reverse = (S.drop (i + 1)).reverse ++ [x]) := (rev_drop hx).symm
          obtain ⟨rv, hin⟩ := (unhide HR).1
          obtain ⟨c0, cf, hl⟩ := dcell hin.obj
          obtain ⟨a5, c5, W5, hap, z1, z2, z3, z4⟩ := hin.push x (by simp; rw [unhide HSL]; omega) 28
          have HF2 : Hid (RRes (fun b => b = lb) W0 lb ((S.drop i).reverse) (W5.setCell ⟨lb, 0, none⟩ (.slice a5 ((S.drop (i + 1)).reverse.length + 1) c5))) := by
            rw [unhide HT]
            exact (unhide HR).more (fun b hb => by omega) (Below.refl _ _) z4
          obtain ⟨ar, cr, rfl⟩ := own_slice hin.row
          generalize (S.drop (i + 1)).reverse.length = M at *
          have HAP := hide hap
          have z2' := z2 0
          clear hat hc hx hap z2 z4 hin
          go_wp2
          go_region_law (first | (refine step_app (by rfl) _ _ _ (by rfl) _ _ _ _ (by rfl) (by rfl) (by exact unhide HAP) ?_))
          all_goals
            go_wp2
            exact ⟨⟨i, by go_num, by omega, HF2⟩, by simp [intOf]⟩
        · obtain rfl : m = 0 := by omega
          have e0 : ((0 : Nat) : Int) - 1 = -1 := by omega
          rw [e0]
          clear e0
          rw [List.drop_zero] at HR
          go_wp2
          refine gen_world ?_
          intro W6 hW6
          have B6 : Hid (Below w.heap.size w W6) := by
            rw [hW6]
            have c := (unhide HR).2
            have s1 := (unhide B5).size
            exact ((unhide B5).trans (c.below s1 (fun b hb => by omega))).alloc (Nat.le_trans s1 c.size) _
          have L6 : Hid (RAt W6 lb S.reverse (Up (fun b => b = lb) W0 wr)) := by rw [hW6]; exact (unhide HR).1.below ((Below.refl _ _).alloc (Nat.le_refl _) _)
          have M6 : Hid (Its W6 (.slice ao k cap) X (fun b => b = wr.heap.size)) := by
            rw [hW6]
            have q := ((unhide M5).chg (unhide HR).2).chg (Chg.of_below ((Below.refl _ _).alloc (Nat.le_refl _) _) (b := wr.alloc (.cells #[.slice none 0 0] 31)))
            have q2 := (unhide M5).chg (unhide HR).2
            obtain ⟨a', c', e1, hq⟩ := q2
            refine ⟨a', c', e1, fun h0 => ?_⟩
            obtain ⟨g, off, e2, hg, -, hc⟩ := hq h0
            exact ⟨g, off, e2, by simp; omega, fun e => by omega, fun j y hj => ⟨cell_old (hc j y hj).1 hg, cell_old (hc j y hj).2 hg⟩⟩
          have HR1 : Hid (RRes (fun b => b = wr.heap.size) W6 wr.heap.size ((X.drop k).reverse) W6) := by
            rw [show X.drop k = [] from List.drop_eq_nil_of_le (by rw [unhide HN]; exact Nat.le_refl _)]
            rw [hW6]
            exact RRes.start (ref_new wr)
          have hW6s : wr.heap.size < W6.heap.size := by rw [hW6]; simp
          have HUP : Hid (∀ b, Up (fun b => b = lb) W0 wr b → b < wr.heap.size) := (unhide HR).1.lt
          have hlw : w.heap.size ≤ wr.heap.size := Nat.le_trans (unhide B5).size (unhide HR).2.size
          clear hW6 HR I5 M5 HR0 B5
          obtain ⟨U, hU⟩ : ∃ U : Nat → Prop, U = Up (fun b => b = lb) W0 wr := ⟨_, rfl⟩
          rw [← hU] at L6 HUP
          clear hU
          generalize wr.heap.size = lc at *
          clear hW4 hs4
          go_loopw [9] (fun s7 wr => ∃ (m : Nat), s7 = .int .i64 ((m : Int) - 1) ∧ m ≤ k ∧ Hid (RRes (fun b => b = lc) W6 lc ((X.drop m).reverse) wr)) (fun s7 _ => (intOf s7 + 1).toNat)
          case atStart => exact ⟨k, by go_num, Nat.le_refl _, HR1⟩
          case round =>
            obtain ⟨m, rfl, hm, HR⟩ := hrel
            by_cases hm0 : 0 < m
            · obtain ⟨i, rfl⟩ : ∃ i, m = i + 1 := ⟨m - 1, by omega⟩
              have hiz : (i : Int) < (k : Int) := by omega
              have hi0 : 0 ≤ (i : Int) := by omega
              have e1 : ((i + 1 : Nat) : Int) - 1 = (i : Int) := by omega
              rw [e1]
              clear e1
              obtain ⟨x, hx⟩ : ∃ x, X[i]? = some x := ⟨_, List.getElem?_eq_getElem (by rw [unhide HN]; omega)⟩
              obtain ⟨a', c', e1, hat⟩ := (unhide M6).chg (unhide HR).2
              have e3 : ao = a' := by injection e1
              clear e1
              subst e3
              obtain ⟨g, off, rfl, hg, -, hc⟩ := hat (by rw [unhide HN]; omega)
              obtain ⟨x0, x1⟩ := hc i x hx
              have HT : Hid ((X.drop i).reverse = (X.drop (i + 1)).reverse ++ [x]) := (rev_drop hx).symm
              obtain ⟨rv, hin⟩ := (unhide HR).1
              obtain ⟨c0, cf, hl⟩ := dcell hin.obj
              obtain ⟨a5, c5, W5, hap, z1, z2, z3, z4⟩ := hin.push x (by simp; rw [unhide HN]; omega) 28
              have HF2 : Hid (RRes (fun b => b = lc) W6 lc ((X.drop i).reverse) (W5.setCell ⟨lc, 0, none⟩ (.slice a5 ((X.drop (i + 1)).reverse.length + 1) c5))) := by
                rw [unhide HT]
                exact (unhide HR).more (fun b hb => by omega) (Below.refl _ _) z4
              obtain ⟨ar, cr, rfl⟩ := own_slice hin.row
              generalize (X.drop (i + 1)).reverse.length = M at *
              have HAP := hide hap
              have z2' := z2 0
              clear hat hc hx hap z2 z4 hin
              go_wp2
              go_region_law (first | (refine step_app (by rfl) _ _ _ (by rfl) _ _ _ _ (by rfl) (by rfl) (by exact unhide HAP) ?_))
              all_goals
                go_wp2
                exact ⟨⟨i, by go_num, by omega, HF2⟩, by simp [intOf]⟩
            · obtain rfl : m = 0 := by omega
              have e0 : ((0 : Nat) : Int) - 1 = -1 := by omega
              rw [e0]
              clear e0
              rw [List.drop_zero] at HR
              have HRD := hide (rdrain_any (unhide HR).1 (by simp; rw [unhide HN]; omega))
              have L7 : Hid (RAt wr lb S.reverse U) := (unhide L6).kept (fun b hb => (unhide HR).2.block b ((unhide L6).lt b hb) (fun e => by have := unhide HUP b hb; omega)) (fun _ x => x) (fun b hb => Nat.lt_of_lt_of_le ((unhide L6).lt b hb) (unhide HR).2.size)
              go_wp2_with fail
              refine (unhide HRD).mono ?_
              rintro e w8 ⟨v8, rfl, G8, -, -, e3, e4⟩
              have L8 : Hid (RAt w8 lb S.reverse U) := (unhide L7).kept (fun b hb => e4.block b ((unhide L7).lt b hb) (fun e => by
                have h1 := unhide HUP b hb
                rcases e with e | e
                · have e : b = lc := e
                  omega
                · omega)) (fun _ x => x) (fun b hb => Nat.lt_of_lt_of_le ((unhide L7).lt b hb) e4.size)
              have HBE : Hid (Below w.heap.size w w8) := by
                have s1 := (unhide B6).size
                have c9 : Chg (fun b => b = lc) W6 w8 := (unhide HR).2.trans e4
                exact (unhide B6).trans (c9.below s1 (fun b hb => by have hb : b = lc := hb; omega))
              obtain ⟨rv, hin⟩ := unhide L8
              obtain ⟨c0, cf, hl⟩ := dcell hin.obj
              obtain ⟨al, cl, rfl, hal⟩ := hin.its
              obtain ⟨ar, cr, rfl, har⟩ := its_of_row (F := fun _ => False) e3.1 (fun _ _ h => h)
              rw [← unhide HTU] at har
              have HLE : Hid (S.reverse.length = k) := by rw [Hid, List.length_reverse, unhide HSL]
              rw [← unhide HTU, unhide HLE]
              rw [unhide HLE] at c0
              have HAL := hide hal
              have HAR := hide har
              clear e3 e4 hal har hin HRD L6 L7 L8 HR HR1 M6
              go_wp2
              go_loopw [111] (fun s wr2 => ∃ (i q : Nat), s = .int .i64 i ∧ i ≤ k ∧ wr2 = w8.drewN q) (fun s _ => k - (intOf s).toNat)
              case atStart => exact ⟨0, 0, rfl, Nat.zero_le _, rfl⟩
              case round =>
                obtain ⟨i, q, rfl, hi, rfl⟩ := hrel
                by_cases hil : i < k
                · have hilz : (i : Int) < (k : Int) := by omega
                  have hi0 : 0 ≤ (i : Int) := by omega
                  obtain ⟨gl, offl, rfl, hgl, -, hcl⟩ := unhide HAL (by rw [unhide HLE]; omega)
                  obtain ⟨gr, offr, rfl, hgr, -, hcr⟩ := unhide HAR (by rw [unhide HLE]; omega)
                  obtain ⟨x, hx⟩ : ∃ x, S.reverse[i]? = some x := ⟨_, List.getElem?_eq_getElem (by rw [unhide HLE]; exact hil)⟩
                  have k0 : (w8.drewN q).cell? ⟨gl, offl + i * 2, none⟩ = some (.int .i64 x.1) := (hcl i x hx).1
                  have k1 : (w8.drewN q).cell? ⟨gl, offl + i * 2 + 1, none⟩ = some (.int .i64 x.2) := (hcl i x hx).2
                  have l0 : (w8.drewN q).cell? ⟨gr, offr + i * 2, none⟩ = some (.int .i64 x.1) := (hcr i x hx).1
                  have l1 : (w8.drewN q).cell? ⟨gr, offr + i * 2 + 1, none⟩ = some (.int .i64 x.2) := (hcr i x hx).2
                  have j0 : (w8.drewN q).cell? ⟨lb, 0, none⟩ = some (.slice (some ⟨gl, offl, none⟩) k cl) := c0
                  have HW : Hid (∀ m, ∃ q', (w8.drewN q).drewN m = w8.drewN q') := fun m => ⟨q + m, by rw [World.drewN_drewN]⟩
                  clear hcl hcr hx
                  generalize w8.drewN q = W at *
                  go_wp2
                  go_quiet (fail)
                  go_wp2
                  obtain ⟨q', hq'⟩ := unhide HW nq
                  exact ⟨⟨i + 1, q', by go_num, by omega, hq'⟩, by simp [intOf]; omega⟩
                · obtain rfl : i = k := by omega
                  have hilz : ¬ (i : Int) < (i : Int) := by omega
                  go_wp2
                  go_ret
                  exact ⟨rfl, (unhide HBE).trans ⟨rfl, rfl, rfl, Nat.le_refl _, fun _ _ => rfl⟩⟩
end Hp
end Go.Proofs.Ytddfljlecnllaaa
