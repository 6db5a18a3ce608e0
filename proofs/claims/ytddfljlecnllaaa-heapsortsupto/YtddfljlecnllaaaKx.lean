/- Layer 7: the walk of HeapSorts. -/
import Derived.Test.YtddfljlecnllaaaKs
namespace Go.Proofs.Ytddfljlecnllaaa
open Go.RowKit
namespace Hp
theorem Nums.below {w W : World} {v : Value} {L : List Int} (h : Nums w v L) (hb : Below w.heap.size w W) : Nums W v L := by
  obtain ⟨ao, cap, e, h⟩ := h
  refine ⟨ao, cap, e, fun h0 => ?_⟩
  obtain ⟨g, off, e1, hg, hc⟩ := h h0
  exact ⟨g, off, e1, Nat.lt_of_lt_of_le hg hb.size, fun j x hx => (hb.cell (p := ⟨g, off + j, none⟩) hg).trans (hc j x hx)⟩
/-- a row of items that grows, newer than w -/
structure GrowI (w : World) (v : Value) (S : List It) (wr : World) : Prop where
  row : wr.ownsRow 0 39 2 v S.length (rowI S)
  new : ∀ g, v.ownBlock = some g → w.heap.size ≤ g
  old : Below w.heap.size w wr
theorem GrowI.push {w wr : World} {v : Value} {S : List It} (h : GrowI w v S wr) (x : It) (hz : S.length ≤ 1099511627776) (ty : TypeId) :
    ∃ a c W', (Builtin.append_ #[22, 22] ty #[v, .slice (some ⟨wr.heap.size, 0, none⟩) 1 1]).run Try.prog (wr.alloc (.cells #[.int .i64 x.1, .int .i64 x.2] 39)) = .ok (.slice a (S.length + 1) c) W' ∧ GrowI w (.slice a (S.length + 1) c) (S ++ [x]) W' := by
  have hb : Below wr.heap.size wr (wr.alloc (.cells #[.int .i64 x.1, .int .i64 x.2] 39)) := (Below.refl _ _).alloc (Nat.le_refl _) _
  have hrow := own_kept h.row fun g hg => hb.block g (h.row.lt g hg).2
  have hit : Its (wr.alloc (.cells #[.int .i64 x.1, .int .i64 x.2] 39)) (.slice (some ⟨wr.heap.size, 0, none⟩) 1 1) [x] (fun _ => False) := by
    refine ⟨_, _, rfl, fun _ => ⟨_, _, rfl, by simp, fun e => e, fun j y hj => ?_⟩⟩
    rcases j with _ | j
    · simp at hj; subst hj; exact ⟨by simp, by simp⟩
    · simp at hj
  obtain ⟨v', W', hrun, hown, hg, hbk⟩ := push_items hrow hit (by simp; omega) ty
  obtain ⟨a, c, rfl⟩ := own_slice hown
  rw [List.length_append, List.length_singleton] at hrun hbk hown
  have hB := h.old.trans (hb.mono h.old.size)
  refine ⟨a, c, W', hrun, ⟨by rw [List.length_append, List.length_singleton]; exact hown, fun g hg' => ?_, hB.trans ((Below.refl _ _).grown hg hB.size h.new)⟩⟩
  rcases hbk with q | q
  · exact h.new g (q ▸ hg')
  · rw [q] at hg'; injection hg' with hg'; have := hB.size; omega
set_option maxRecDepth 100000 in
set_option maxHeartbeats 8000000 in
theorem sorts_walk {w : World} {v1 : Value} {keys : List Int} (h1 : Nums w v1 keys) (hz : keys.length ≤ 1048576) :
    Calls Try.prog 7 #[v1] w fun e w' => e = .returned (.bool true) ∧ Below w.heap.size w w' := by
  have H1 := hide h1
  obtain ⟨ao, cap, rfl, -⟩ := h1
  obtain ⟨n, hn⟩ : ∃ n, keys.length = n := ⟨_, rfl⟩
  have HN := hide hn
  rw [hn] at hz H1 ⊢
  clear hn
  go_enter Try.func7, Try.ntmps7
  go_wp2_with fail
  refine (wakes_any w).mono ?_
  rintro e w1 ⟨rfl, b1⟩
  have B1 := hide b1
  have HG0 : Hid (GrowI w1 (.slice none 0 0) ((tg keys).take 0) w1) := ⟨World.ownsRow_nil _ _ _ _, fun g hg => (by cases hg), Below.refl _ _⟩
  clear b1
  go_wp2
  go_loopw [3, 14] (fun s3 s14 wr => ∃ (k : Nat), s14 = .int .i64 k ∧ k ≤ n ∧ Hid (GrowI w1 s3 ((tg keys).take k) wr)) (fun _ s14 _ => n - (intOf s14).toNat)
  case atStart => exact ⟨0, rfl, Nat.zero_le _, HG0⟩
  case round =>
    obtain ⟨k, rfl, hk, HG⟩ := hrel
    by_cases hlt : k < n
    · have hltz : (k : Int) < (n : Int) := by omega
      have hk0 : 0 ≤ (k : Int) := by omega
      obtain ⟨x, hx⟩ : ∃ x, keys[k]? = some x := ⟨_, List.getElem?_eq_getElem (by rw [unhide HN]; exact hlt)⟩
      obtain ⟨a', c', e1, hat⟩ := (unhide H1).below ((unhide B1).trans ((unhide HG).old.mono (unhide B1).size))
      have e3 : ao = a' := by injection e1
      clear e1
      subst e3
      obtain ⟨g, off, rfl, hg, hc⟩ := hat (by rw [unhide HN]; omega)
      have x0 := hc k x hx
      have hT : (tg keys).take (k + 1) = (tg keys).take k ++ [(x, (k : Int))] := by
        have hq := tg_get hx
        rw [List.take_succ_eq_append_getElem (List.getElem?_eq_some_iff.1 hq).1, (List.getElem?_eq_some_iff.1 hq).2]
      obtain ⟨a5, c5, W5, hap, hgr⟩ := (unhide HG).push (x, (k : Int)) (by rw [List.length_take]; omega) 22
      rw [← hT] at hgr
      have hl : ((tg keys).take k).length = k := by rw [List.length_take, tg_len, unhide HN]; omega
      rw [hl] at hap hgr
      have HAP := hide hap
      have HGR := hide hgr
      clear hat hc hx hap hgr hl hT
      go_wp2_with (at_builtin; refine wpList_append_run rfl _ _ 22 22 rfl _ _ rfl rfl (.slice a5 (k + 1) c5) W5 (unhide HAP) ?_)
      go_roundw
      case rel => exact ⟨k + 1, by go_num, by omega, HGR⟩
      case measure => simp [intOf]; omega
    · obtain rfl : k = n := by omega
      have hltz : ¬ (k : Int) < (k : Int) := by omega
      have HE : Hid ((tg keys).take k = tg keys) := by rw [Hid, ← unhide HN, ← tg_len, List.take_length]
      rw [unhide HE] at HG
      have B2 : Hid (Below w.heap.size w wr) := (unhide B1).trans ((unhide HG).old.mono (unhide B1).size)
      have hit := its_of_row (F := fun b => wr.heap.size ≤ b) (unhide HG).row (fun g hg e => by have := ((unhide HG).row.lt g hg).2; omega)
      have HNW := hide (items_any hit (by rw [tg_len, unhide HN]; omega))
      clear hit HE
      go_wp2_with fail
      refine (unhide HNW).mono ?_
      rintro e w3 ⟨rfl, a3, b3⟩
      have HDR := hide (drain_any lessV_item a3 (by rw [tg_len, unhide HN]; omega))
      have B3 : Hid (Below w.heap.size w w3) := (unhide B2).trans (b3.mono (unhide B2).size)
      have hs2 := (unhide B2).size
      have hs3 := b3.size
      clear a3 b3 HNW
      go_wp2_with fail
      refine (unhide HDR).mono ?_
      rintro e w4 ⟨v4, rfl, G, -, -, ir, c4⟩
      have B4 : Hid (Below w.heap.size w w4) := (unhide B3).trans (c4.below (unhide B3).size (fun b hb => by omega))
      have HSL : Hid ((drain rise_ (tg keys)).length = k) := (drain_len _ _ rfl).trans ((tg_len keys).trans (unhide HN))
      have IR : Hid (Its w4 v4 (drain rise_ (tg keys)) (fun b => w4.heap.size ≤ b)) := its_of_row ir.1 fun g hg e => by have := (ir.1.lt g hg).2; omega
      have HGD : Hid (∀ (i : Nat) (x : It), (drain rise_ (tg keys))[i]? = some x → ∃ t, Good keys (drain rise_ (tg keys)) i t x) := fun i x hx => good_of keys hx
      clear ir c4 HDR
      generalize drain rise_ (tg keys) = S at *
      obtain ⟨a4, c4, e4, -⟩ := unhide IR
      rw [unhide HSL] at e4
      subst e4
      obtain ⟨ib, hi, hz'⟩ := Option.map_eq_some_iff.1 infoBo
      simp only [Prod.mk.injEq] at hz'
      obtain ⟨hz0, hz1, hz2⟩ := hz'
      obtain ⟨w5, hmk, hown, hgr⟩ := run_make_full (P := Try.prog) w4 0 54 4 ib _ 1 Try.underlying54 hi hz0 hz1 .i64 .i64 k (by rw [hz2]; omega) (by unfold maxLen; omega) (Nat.zero_le _)
      have hB5 : Below w4.heap.size w4 w5 := (Below.refl _ w4).grown hgr (Nat.le_refl _) (fun k hk => by cases hk)
      have S5 : Hid (Seen w4.heap.size k S 0 w5) := by
        have em : (madeCells (Value.bool false).cells (k * 1)).toList = List.replicate k (.bool false) := by rw [Nat.mul_one]; exact toList_madeCells_one _ _
        rw [em] at hown
        refine ⟨⟨_, hown, fun t ht => ?_⟩⟩
        rw [List.getElem?_replicate, if_pos ht]
        simp
      have C5 : Hid (Below w.heap.size w w5) := (unhide B4).trans (hB5.mono (unhide B4).size)
      have I5 : Hid (Its w5 (.slice a4 k c4) S (fun b => b = w4.heap.size)) := ((unhide IR).chg (Chg.of_below hB5)).mono fun b _ e => by rw [e]; exact Nat.le_refl _
      have hs4 := (unhide B4).size
      clear hi hz0 hz1 hz2 hgr hown hB5 IR HG
      go_wp2
      generalize w4.heap.size = sb at *
      go_loopw [39] (fun s39 wr => ∃ (i : Nat), s39 = .int .i64 i ∧ i ≤ k ∧ Hid (Seen sb k S i wr ∧ Chg (fun b => b = sb) w5 wr)) (fun s39 _ => k - (intOf s39).toNat)
      case atStart => exact ⟨0, rfl, Nat.zero_le _, unhide S5, Chg.refl _ _⟩
      case round =>
        obtain ⟨i, rfl, hi, HS⟩ := hrel
        by_cases hil : i < k
        · have hilz : (i : Int) < (k : Int) := by omega
          have hi0 : 0 ≤ (i : Int) := by omega
          obtain ⟨x, hx⟩ : ∃ x, S[i]? = some x := ⟨_, List.getElem?_eq_getElem (by rw [unhide HSL]; exact hil)⟩
          obtain ⟨t, gd_⟩ := unhide HGD i x hx
          obtain ⟨a', c', e1, hat⟩ := (unhide I5).chg (unhide HS).2
          have e3 : a4 = a' := by injection e1
          clear e1
          subst e3
          obtain ⟨g, off, rfl, hg, hgsb, hc⟩ := hat (by rw [unhide HSL]; omega)
          have hgsb : g ≠ sb := hgsb
          obtain ⟨x0, x1⟩ := hc i x hx
          have hbw : Below w.heap.size w wr := (unhide C5).trans ((unhide HS).2.below (unhide C5).size (fun b hb => by omega))
          obtain ⟨a', c', e1, hatk⟩ := (unhide H1).below hbw
          have e3 : ao = a' := by injection e1
          clear e1
          subst e3
          obtain ⟨gk, offk, rfl, hgk, hck⟩ := hatk (by rw [unhide HN]; omega)
          have hgksb : gk ≠ sb := fun e => by
            obtain ⟨ao', cap', e1, h1⟩ := unhide H1
            obtain ⟨g', off', e2, hg', -⟩ := h1 (by rw [unhide HN]; omega)
            injection e1 with e1 _ _
            rw [e2] at e1
            injection e1 with e1
            injection e1 with e1 _ _
            omega
          have htk : t < k := by have := gd_.lt; rw [unhide HN] at this; exact this
          have t0 := hck t x.1 gd_.key
          obtain ⟨s0, sf, sl⟩ := (unhide HS).1.at htk
          have hnew : decide (∃ y ∈ S.take i, y.2 = (t : Int)) = false := by
            simp only [decide_eq_false_iff_not]
            rintro ⟨y, hy, e⟩
            exact gd_.new y hy e
          rw [hnew] at s0
          have hxe : x = (x.1, (t : Int)) := Prod.ext rfl gd_.tag
          have x1' := x1
          rw [gd_.tag] at x1'
          have SP : Hid (∀ o : Obj, Seen sb k S (i + 1) ((wr.alloc o).setCell ⟨sb, t, none⟩ (.bool true)) ∧ Chg (fun b => b = sb) w5 ((wr.alloc o).setCell ⟨sb, t, none⟩ (.bool true))) := fun o => ⟨((unhide HS).1.below ((Below.refl _ _).alloc (Nat.le_refl _) o)).put hx gd_.tag htk, ((unhide HS).2.alloc o).setCell (.inl rfl) _⟩
          have HPV : Hid (∀ j y, i = j + 1 → S[j]? = some y → y.1 < x.1 ∨ (y.1 = x.1 ∧ y.2 < (t : Int))) := fun j y h1 h2 => by
            have h3 := gd_.prev j y h1 h2
            unfold Rr at h3
            rw [gd_.tag] at h3
            exact h3
          have HC := hide hc
          have htz : (t : Int) < (k : Int) := by omega
          have ht0 : 0 ≤ (t : Int) := by omega
          have htd : decide ((t : Int) < 0) = false := by simp
          have htg : ¬ (k : Int) ≤ (t : Int) := by omega
          clear hat hc hatk hck hx hnew x1 gd_ hbw
          generalize x.1 = a at *
          go_wp2
          refine gen_world ?_
          intro V hV
          have y0 : V.cell? ⟨wr.heap.size, 0, none⟩ = some (.int .i64 a) := by rw [hV]; go_simp
          have y1 : V.cell? ⟨wr.heap.size, 1, none⟩ = some (.int .i64 (t : Int)) := by rw [hV]; go_simp
          have k0 : V.cell? ⟨gk, offk + t, none⟩ = some (.int .i64 a) := by rw [hV]; exact cell_old t0 hgk
          have z0 : V.cell? ⟨sb, t, none⟩ = some (.bool false) := by rw [hV]; exact cell_old s0 sl
          have zf : V.frozen? ⟨sb, t, none⟩ = false := by rw [hV, World.frozen?_alloc_past _ _ _ sl]; exact sf
          have SV : Hid (Seen sb k S (i + 1) (V.setCell ⟨sb, t, none⟩ (.bool true)) ∧ Chg (fun b => b = sb) w5 (V.setCell ⟨sb, t, none⟩ (.bool true))) := by rw [hV]; exact unhide SP _
          have hVs : wr.heap.size < V.heap.size := by rw [hV]; simp
          have hgV : ∀ o u, wr.cell? ⟨g, o, none⟩ = some u → V.cell? ⟨g, o, none⟩ = some u := fun o u h => by rw [hV]; exact cell_old h hg
          have HGV := hide hgV
          have hslw : sb < wr.heap.size := sl
          clear hV x0 x1' t0 s0 sf SP hgV
          go_quiet (fail)
          go_wp2
          refine gen_world ?_
          intro W hW
          have o1 : ∀ p : Addr, p.block ≠ sb → W.cell? p = V.cell? p := fun p hp => by
            rw [hW]
            exact World.cell?_of_block (w := V.drewN nq) (Below.heap_setCell _ _ _ _ hp)
          have w0 := (o1 ⟨wr.heap.size, 0, none⟩ (by show wr.heap.size ≠ sb; omega)).trans y0
          have w1_ := (o1 ⟨wr.heap.size, 1, none⟩ (by show wr.heap.size ≠ sb; omega)).trans y1
          have SW : Hid (Seen sb k S (i + 1) W ∧ Chg (fun b => b = sb) w5 W) := by
            have e : W = (V.setCell ⟨sb, t, none⟩ (.bool true)).drewN nq := by rw [hW]; rfl
            have b : Below (V.setCell ⟨sb, t, none⟩ (.bool true)).heap.size (V.setCell ⟨sb, t, none⟩ (.bool true)) W := by rw [e]; exact ⟨rfl, rfl, rfl, Nat.le_refl _, fun _ _ => rfl⟩
            exact ⟨(unhide SV).1.below b, (unhide SV).2.then (Chg.of_below b)⟩
          have HO1 := hide o1
          clear hW o1 y0 y1 k0 z0 zf SV
          by_cases hi00 : i = 0
          · have HI0 := hide hi00
            have hgt : decide ((i : Int) > 0) = false := by rw [hi00]; rfl
            have hgt2 : ¬ (i : Int) > 0 := by omega
            have hgt3 : decide (0 < i) = false := by rw [hi00]; rfl
            clear hi00
            go_quiet (fail)
            go_wp2
            go_roundw
            case rel =>
              have b : Below W.heap.size W (W.drewN nq) := ⟨rfl, rfl, rfl, Nat.le_refl _, fun _ _ => rfl⟩
              exact ⟨i + 1, by go_num, by omega, (unhide SW).1.below b, (unhide SW).2.then (Chg.of_below b)⟩
            case measure => simp [intOf]; omega
          · obtain ⟨j, hj⟩ : ∃ j, i = j + 1 := ⟨i - 1, by omega⟩
            have HJ := hide hj
            obtain ⟨y, hy⟩ : ∃ y, S[j]? = some y := ⟨_, List.getElem?_eq_getElem (by rw [unhide HSL]; omega)⟩
            have hr := unhide HPV j y hj hy
            have hij : (i : Int) - 1 = (j : Int) := by omega
            have hjk : (j : Int) < (k : Int) := by omega
            have hj0 : 0 ≤ (j : Int) := by omega
            have hgt : (i : Int) > 0 := by omega
            have hgt2 : 0 < i := by omega
            have p0 := (unhide HO1 ⟨g, off + j * 2, none⟩ hgsb).trans (unhide HGV _ _ (unhide HC j y hy).1)
            have p1 := (unhide HO1 ⟨g, off + j * 2 + 1, none⟩ hgsb).trans (unhide HGV _ _ (unhide HC j y hy).2)
            clear hj hi00 hy
            by_cases hya : y.1 = a
            · have h1 : ¬ a < y.1 := by omega
              have h2 : ¬ (t : Int) < y.2 := by omega
              have h3 : decide (a < y.1) = false := by simp; omega
              have h4 : decide ((t : Int) < y.2) = false := by simp; omega
              rw [hya] at p0
              clear hr h1 h3 hya
              have h5 : ¬ a < a := by omega
              go_quiet (fail)
              go_wp2
              go_roundw
              case rel =>
                have b : Below W.heap.size W (W.drewN nq) := ⟨rfl, rfl, rfl, Nat.le_refl _, fun _ _ => rfl⟩
                exact ⟨i + 1, by go_num, by omega, (unhide SW).1.below b, (unhide SW).2.then (Chg.of_below b)⟩
              case measure => simp [intOf]; omega
            · have h1 : ¬ a < y.1 := by omega
              have h3 : decide (a < y.1) = false := by simp; omega
              have h4 : (y.1 == a) = false := by simp [hya]
              clear hr
              go_quiet (fail)
              go_wp2
              go_roundw
              case rel =>
                have b : Below W.heap.size W (W.drewN nq) := ⟨rfl, rfl, rfl, Nat.le_refl _, fun _ _ => rfl⟩
                exact ⟨i + 1, by go_num, by omega, (unhide SW).1.below b, (unhide SW).2.then (Chg.of_below b)⟩
              case measure => simp [intOf]; omega

        · obtain rfl : i = k := by omega
          have hilz : ¬ (i : Int) < (i : Int) := by omega
          have HBE := hide ((unhide C5).trans ((unhide HS).2.below (unhide C5).size (fun b hb => by omega)))
          go_wp2
          go_ret
          exact ⟨rfl, unhide HBE⟩
end Hp
end Go.Proofs.Ytddfljlecnllaaa
