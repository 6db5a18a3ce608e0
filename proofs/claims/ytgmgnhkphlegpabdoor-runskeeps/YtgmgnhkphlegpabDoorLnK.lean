/- Layer 5: RunsKeeps. -/
import Derived.Test.YtgmgnhkphlegpabDoorRv
import Derived.Test.YtgmgnhkphlegpabDoorRk
namespace Go.Proofs.YtgmgnhkphlegpabDoor
open Go.RowKit
namespace Rs
def mk (j : Nat) : Sto := ⟨10, (List.range j).map fun i => ⟨i + 1, [], false⟩, j, 0, 0⟩
theorem mk_new (j : Nat) (h : j ≤ 41) : crt (mk j) = ((((j + 1 : Nat) : Int), 0), mk (j + 1)) := by
  unfold crt
  rw [if_neg (by simp [mk]), if_neg (by simp [mk]; omega)]
  simp [mk, Sto.tick, Sto.newRun, List.range_succ]
theorem mk_nums (j : Nat) : nums (mk j).runs = (List.range j).map fun i => ((i + 1 : Nat) : Int) := by
  simp [nums, mk, List.map_map, Function.comp_def]
theorem mk_zero : newS 10 = mk 0 := rfl
theorem sit_wakes {w w1 : World} {E : Nat → Addr} {sb : Nat} {m : Sto} (h : Sit w E sb m w1) : Calls Tryd.prog 6 #[] w1 fun e w' => e = .returned (.bool true) ∧ Sit w E sb m w' := by
  obtain ⟨F, h1, h2, h3, h4⟩ := id h
  refine (wakes_any w1 h2).mono ?_
  rintro e w' ⟨rfl, hb⟩
  exact ⟨rfl, h.below hb⟩
def KV (n : Nat) : List Value := (List.range n).map fun i : Nat => Value.int .i64 ((i : Int) + 1)
def MK (n k : Nat) : List Value := List.replicate k (.int .i64 (-7)) ++ (KV n).drop k
def GR (n j : Nat) : List Value := List.replicate n (.int .i64 (-7)) ++ List.replicate j (.int .i64 (-9))
theorem KV_get {n k : Nat} (h : k < n) : (KV n)[k]? = some (.int .i64 ((k : Int) + 1)) := by simp [KV, h]
theorem KV_len (n : Nat) : (KV n).length = n := by simp [KV]
theorem MK_get {n k : Nat} (h : k < n) : (MK n k)[k]? = some (.int .i64 ((k : Int) + 1)) := by
  unfold MK
  rw [List.getElem?_append_right (by simp), List.length_replicate, Nat.sub_self, List.getElem?_drop, Nat.add_zero, KV_get h]
theorem MK_set {n k : Nat} (h : k < n) : (MK n k).set k (.int .i64 (-7)) = MK n (k + 1) := by
  unfold MK
  rw [List.set_append_right _ _ (by simp), List.length_replicate, Nat.sub_self]
  have e : (KV n).drop k = (KV n)[k]'(by rw [KV_len]; exact h) :: (KV n).drop (k + 1) := List.drop_eq_getElem_cons (by rw [KV_len]; exact h)
  rw [e, List.set_cons_zero, List.replicate_succ', List.append_assoc]
  rfl
theorem MK_zero (n : Nat) : MK n 0 = KV n := by simp [MK]
theorem MK_end (n : Nat) : MK n n = GR n 0 := by simp [MK, GR, KV, List.drop_eq_nil_of_le]
theorem GR_app (n j : Nat) : GR n j ++ [.int .i64 (-9)] = GR n (j + 1) := by simp [GR, List.replicate_succ', List.append_assoc]
theorem GR_len (n j : Nat) : (GR n j).length = n + j := by simp [GR]
theorem GR_get0 {n j : Nat} (h : 0 < n) : (GR n j)[0]? = some (.int .i64 (-7)) := by
  unfold GR
  rw [List.getElem?_append_left (by simpa using h)]
  simp [h]
theorem mk_vals (n : Nat) : (nums (mk n).runs).map (Value.int .i64) = KV n := by
  rw [mk_nums]
  simp [KV, List.map_map, Function.comp_def]
theorem mk_len (n : Nat) : (nums (mk n).runs).length = n := by rw [mk_nums]; simp
theorem sit_live {w w1 : World} {E : Nat → Addr} {sb n : Nat} (h : Sit w E sb (mk n) w1) (hn : 0 < n) :
    Calls Tryd.prog 13 #[.pointer (some ⟨sb, 0, none⟩)] w1 fun e w' => ∃ g cap, e = .returned (.slice (some ⟨g, 0, none⟩) n cap) ∧ w'.ownsRow w1.heap.size 3 1 (.slice (some ⟨g, 0, none⟩) n cap) n (KV n) ∧ w1.heap.size ≤ g ∧ g < w'.heap.size ∧ Below w1.heap.size w1 w' ∧ Sit w E sb (mk n) w' := by
  obtain ⟨F, h1, h2, h3, h4⟩ := id h
  refine (live_any h1).mono ?_
  rintro e w' ⟨v, rfl, ho, hb⟩
  rw [mk_len, mk_vals] at ho
  rcases id ho.2 with ⟨rfl, e⟩ | ⟨g, cap, cur, rfl, hg, hx, _⟩
  · omega
  · exact ⟨g, cap, rfl, ho, hg, (Array.getElem?_eq_some_iff.1 hx).1, hb, h.below hb⟩
theorem own_low {W : World} {B B2 : Nat} {e : TypeId} {size n : Nat} {v : Value} {xs : List Value} (h : W.ownsRow B e size v n xs) (hB : B2 ≤ B) : W.ownsRow B2 e size v n xs :=
  ⟨h.1, h.2.imp id fun ⟨g, cap, cur, h1, h2, h3⟩ => ⟨g, cap, cur, h1, Nat.le_trans hB h2, h3⟩⟩
structure Gw (B : Nat) (w7 : World) (ga g n j cap : Nat) (wr : World) : Prop where
  own : wr.ownsRow B 3 1 (.slice (some ⟨g, 0, none⟩) (n + j) cap) (n + j) (GR n j)
  a0 : wr.cell? ⟨ga, 0, none⟩ = some (.int .i64 (-7))
  chg : Chg (fun b => b = ga) w7 wr
  gg : g = ga ∨ w7.heap.size ≤ g
theorem Gw.fits {B : Nat} {w7 : World} {ga g n j cap : Nat} {wr w9 : World} {o : Obj} (h : Gw B w7 ga g n j cap wr) (hn : 0 < n) (hga : ga < w7.heap.size) (ho : w9.ownsRow B 3 1 (.slice (some ⟨g, 0, none⟩) (n + j + 1) cap) (n + j + 1) (GR n j ++ [.int .i64 (-9)])) (hg : (wr.alloc o).grownBy w9 (some g)) : Gw B w7 ga g n (j + 1) cap w9 := by
  rw [GR_app] at ho
  refine ⟨ho, ?_, (h.chg.alloc o).grown hg (fun k hk => by cases hk; exact h.gg), h.gg⟩
  rcases h.gg with e | e
  · subst e
    rw [ho.cellAt 0 (by omega)]
    exact GR_get0 hn
  · have hs := h.chg.size
    rw [← h.a0]
    refine World.cell?_of_block (a := ⟨ga, 0, none⟩) ?_
    rw [hg.block ga (by simp; omega) (fun e => by cases e; omega), Below.heap_alloc wr o ga (by omega)]
theorem Gw.grows {B : Nat} {w7 : World} {ga g n j cap : Nat} {wr w9 : World} {o : Obj} {v : Value} (h : Gw B w7 ga g n j cap wr) (hB : B ≤ w7.heap.size) (hga : ga < w7.heap.size) (ho : w9.ownsRow (wr.alloc o).heap.size 3 1 v (n + j + 1) (GR n j ++ [.int .i64 (-9)])) (hg : (wr.alloc o).grownBy w9 none) : ∃ g' cap', v = .slice (some ⟨g', 0, none⟩) (n + (j + 1)) cap' ∧ Gw B w7 ga g' n (j + 1) cap' w9 := by
  rw [GR_app] at ho
  have hs := h.chg.size
  rcases id ho.2 with ⟨rfl, e⟩ | ⟨g', cap', cur, rfl, hgg, hx, _⟩
  · omega
  · have hgg' : wr.heap.size + 1 ≤ g' := by simpa using hgg
    refine ⟨g', cap', rfl, own_low ho (by simp; omega), ?_, (h.chg.alloc o).grown hg (fun k hk => by cases hk), .inr (by omega)⟩
    rw [← h.a0]
    refine World.cell?_of_block (a := ⟨ga, 0, none⟩) ?_
    rw [hg.block ga (by simp; omega) (fun e => by cases e), Below.heap_alloc wr o ga (by omega)]
set_option maxRecDepth 100000 in
set_option maxHeartbeats 4000000 in
theorem keeps_lo (w : World) {c : Int} {E : Nat → Addr} {F : Nat → Prop} (G : Gs w E F) (hc1 : -9223372036854775808 ≤ c) (hc2 : c ≤ 9223372036854775807) (hc : c ≤ 40) :
    Calls Tryd.prog 4 #[.int .i64 c] w fun e w' => e = .returned (.bool true) ∧ Below w.heap.size w w' := by
  have HSN := hide (sit_new G 10 (by omega) (by omega))
  rw [mk_zero] at HSN
  clear G
  go_enter Tryd.func4, Tryd.ntmps4
  go_wp2_with (first | (go_at_call 5; refine (unhide HSN).mono ?_; clear HSN; rintro e w1 ⟨rfl, hb1⟩; have HS1 := hide hb1; clear hb1) | (go_at_call 6; refine (sit_wakes (unhide HS1)).mono ?_; clear HS1; rintro e w2 ⟨rfl, hb2⟩; have HS := hide hb2; clear hb2))
  go_loop [4, 5] (fun s4 s5 => ∃ q : Nat, q ≤ 40 ∧ s4 = .int .i64 ((q : Int) + 1) ∧ s5 = .int .i64 q) (fun _ s5 => 40 - (intOf s5).toNat)
  case atStart => exact ⟨0, Nat.zero_le _, rfl, rfl⟩
  case round =>
    obtain ⟨q, hq, rfl, rfl⟩ := hrel
    have hq0 : 0 ≤ (q : Int) := by omega
    by_cases hx : (q : Int) < c
    · have hx2 : (q : Int) < 40 := by omega
      go_wp2
      exact ⟨⟨q + 1, by omega, by go_num, by go_num⟩, by simp [intOf]; omega⟩
    · have hx3 : True := trivial
      go_wp2
      go_loopw [30] (fun i wr => ∃ j : Nat, j ≤ q + 1 ∧ i = .int .i64 j ∧ Hid (Sit w E w.heap.size (mk j) wr)) (fun i _ => q + 1 - (intOf i).toNat)
      case atStart => exact ⟨0, Nat.zero_le _, rfl, HS⟩
      case round =>
        obtain ⟨j, hj, rfl, HJ⟩ := hrel
        by_cases hlt : j < q + 1
        · have hltz : (j : Int) < (q : Int) + 1 := by omega
          have HC := hide (sit_create (unhide HJ))
          rw [mk_new j (by omega)] at HC
          dsimp only at HC
          clear HS
          go_wp2_with (go_at_call 7; refine (unhide HC).mono ?_; rintro e w3 ⟨rfl, hs3⟩; have HS3 := hide hs3; clear hs3)
          exact ⟨⟨j + 1, by omega, by go_num, HS3⟩, by simp [intOf]; omega⟩
        · have hltz : ¬ (j : Int) < (q : Int) + 1 := by omega
          obtain rfl : j = q + 1 := by omega
          clear HS
          obtain ⟨w5, rfl⟩ : ∃ x : World, x = wr := ⟨_, rfl⟩
          have HS5 := HJ
          go_wp2_with (first | (go_at_call 13; refine (sit_live (unhide HJ) (Nat.succ_pos q)).mono ?_; clear HJ; rintro e w6 ⟨ga, ca, rfl, ho6, hga, hga2, hb6, hs6⟩; have HS6 := hide hs6; have HA6 := hide ho6; have HB6 := hide hb6; clear ho6 hb6 hs6) | (go_at_call 13; refine (sit_live (unhide HS6) (Nat.succ_pos q)).mono ?_; clear HS6; rintro e w7 ⟨gb, cb, rfl, ho7, hgb, hgb2, hb7, -⟩; have ho := own_kept (unhide HA6) (W' := w7) (fun g hg => by cases hg; exact hb7.block _ hga2); have hcq : w7.cell? ⟨ga, q, none⟩ = some (.int .i64 ((q : Int) + 1)) := (by rw [ho.cellAt q (by omega)]; exact KV_get (by omega)); have HA7 := hide ho; have HO7 := hide ho7; have HB7 : Hid (Below w5.heap.size w5 w7) := ((unhide HB6).trans (hb7.mono (unhide HB6).size)); have hga3 : ga < w7.heap.size := Nat.lt_of_lt_of_le hga2 hb7.size; clear ho ho7 hb7 HA6 HB6))
          go_loopw [8, 60] (fun _ i wr => ∃ k : Nat, k ≤ q + 1 ∧ i = .int .i64 k ∧ Hid (wr.ownsRow w5.heap.size 3 1 (.slice (some ⟨ga, 0, none⟩) (q + 1) ca) (q + 1) (MK (q + 1) k)) ∧ Hid (Chg (fun b => b = ga) w7 wr)) (fun _ i _ => q + 1 - (intOf i).toNat)
          case atStart => exact ⟨0, Nat.zero_le _, rfl, hide (by rw [MK_zero]; exact unhide HA7), hide (Chg.refl _ _)⟩
          case round =>
            obtain ⟨k, hk, rfl, HM, HC⟩ := hrel
            clear hcq
            by_cases hlt : k < q + 1
            · have hltz2 : (k : Int) < (q : Int) + 1 := by omega
              have hkz : 0 ≤ (k : Int) := by omega
              have hcell : wr.cell? ⟨ga, k, none⟩ = some (.int .i64 ((k : Int) + 1)) := by rw [(unhide HM).cellAt k (by omega)]; exact MK_get hlt
              have hfz : wr.frozen? ⟨ga, k, none⟩ = false := (unhide HM).frozenAt k
              go_wp2
              refine ⟨⟨k + 1, by omega, by go_num, hide ?_, hide ?_⟩, by simp [intOf]; omega⟩
              · rw [← MK_set hlt]; exact ((unhide HM).stored k _).1
              · exact (unhide HC).setCell (.inl rfl) _
            · have hltz2 : ¬ (k : Int) < (q : Int) + 1 := by omega
              obtain rfl : k = q + 1 := by omega
              rw [MK_end] at HM
              have HG0 : Hid (Gw w5.heap.size w7 ga ga (q + 1) 0 ca wr) := ⟨unhide HM, by rw [(unhide HM).cellAt 0 (by omega)]; exact GR_get0 (by omega), unhide HC, .inl rfl⟩
              clear HM HC
              go_wp2
              go_loopw [9, 68] (fun v i wr => ∃ j g cap : Nat, j ≤ 20 ∧ i = .int .i64 j ∧ v = .slice (some ⟨g, 0, none⟩) (q + 1 + j) cap ∧ Hid (Gw w5.heap.size w7 ga g (q + 1) j cap wr)) (fun _ i _ => 20 - (intOf i).toNat)
              case atStart => exact ⟨0, ga, ca, Nat.zero_le _, rfl, rfl, HG0⟩
              case round =>
                obtain ⟨j, g, cap, hj, rfl, rfl, HG⟩ := hrel
                clear HG0
                by_cases hl20 : j < 20
                · have hlz : (j : Int) < 20 := by omega
                  obtain ⟨i0, hi, hz0⟩ := Option.map_eq_some_iff.1 row3
                  simp only [Prod.mk.injEq] at hz0
                  obtain ⟨hz0, hz1, hz2⟩ := hz0
                  by_cases hcap : q + 1 + j + 1 ≤ cap
                  · go_wp2_with (at_builtin; refine wpList_append_fits _ rfl _ _ 33 rfl w5.heap.size 3 i0 1 Tryd.underlying33 hi hz1 g (q + 1 + j) cap (GR (q + 1) j) rfl ((unhide HG).own.alloc _) ⟨wr.heap.size, 0, none⟩ 1 1 [.int .i64 (-9)] rfl rfl (cell_one_new _ _ _) (by simp [Value.oneCell']) hcap ?_; intro w9 hown9 hgrow9; have HG9 := hide ((unhide HG).fits (Nat.succ_pos q) hga3 hown9 hgrow9); clear hown9 hgrow9)
                    exact ⟨⟨j + 1, g, cap, by omega, by go_num, rfl, HG9⟩, by simp [intOf]; omega⟩
                  · go_wp2_with (at_builtin; refine wpList_append_grows _ rfl _ _ 33 rfl 3 i0 (.int .i64 0) 1 8 Tryd.underlying33 hi hz0 hz1 hz2 rfl (by decide) (some ⟨g, 0, none⟩) (q + 1 + j) cap (GR (q + 1) j) rfl (fun h => by cases h) (by rw [GR_len]; omega) (fun b hb => by cases hb; exact ((unhide HG).own.alloc _).cells rfl) ⟨wr.heap.size, 0, none⟩ 1 1 [.int .i64 (-9)] rfl rfl (cell_one_new _ _ _) (by simp [Value.oneCell']) (by omega) (by unfold maxLen; omega) (by omega) ?_; intro v9 w9 hown9 hgrow9; obtain ⟨g9, c9, rfl, hg9⟩ := (unhide HG).grows (unhide HB7).size hga3 hown9 hgrow9; have HG9 := hide hg9; clear hown9 hgrow9 hg9)
                    exact ⟨⟨j + 1, g9, c9, by omega, by go_num, rfl, HG9⟩, by simp [intOf]; omega⟩
                · have hlz : ¬ (j : Int) < 20 := by omega
                  obtain rfl : j = 20 := by omega
                  have hkb : ∀ x, wr.cell? ⟨gb, x, none⟩ = w7.cell? ⟨gb, x, none⟩ := fun x => World.cell?_of_block (a := ⟨gb, x, none⟩) ((unhide HG).chg.block gb hgb2 fun e => by omega)
                  have hb0 : wr.cell? ⟨gb, 0, none⟩ = some (.int .i64 1) := by rw [hkb, (unhide HO7).cellAt 0 (by omega)]; exact KV_get (by omega)
                  have hbq : wr.cell? ⟨gb, q, none⟩ = some (.int .i64 ((q : Int) + 1)) := by rw [hkb, (unhide HO7).cellAt q (by omega)]; exact KV_get (by omega)
                  have HB8 : Hid (Below w5.heap.size w5 wr) := (unhide HB7).trans ((unhide HG).chg.below (unhide HB7).size fun k hk => by rw [hk]; exact hga)
                  have HS8 := hide ((unhide HS5).below (unhide HB8))
                  clear hkb
                  go_wp2_with (go_at_call 13; refine (sit_live (unhide HS8) (Nat.succ_pos q)).mono ?_; clear HS8; rintro e w12 ⟨gc, cc, rfl, ho12, hgc, hgc2, hb12, hs12⟩; have hc0 : w12.cell? ⟨gc, 0, none⟩ = some (.int .i64 1) := (by rw [ho12.cellAt 0 (by omega)]; exact KV_get (by omega)); have hcq : w12.cell? ⟨gc, q, none⟩ = some (.int .i64 ((q : Int) + 1)) := (by rw [ho12.cellAt q (by omega)]; exact KV_get (by omega)); have ha0 : w12.cell? ⟨ga, 0, none⟩ = some (.int .i64 (-7)) := ((hb12.cell (p := ⟨ga, 0, none⟩) (Nat.lt_of_lt_of_le hga3 (unhide HG).chg.size)).trans (unhide HG).a0); have HS12 := hide hs12; clear ho12 hb12 hs12)
                  go_ret
                  exact ⟨rfl, (unhide HS12).old⟩
set_option maxRecDepth 100000 in
set_option maxHeartbeats 4000000 in
theorem keeps_hi (w : World) {c : Int} {E : Nat → Addr} {F : Nat → Prop} (G : Gs w E F) (hc1 : -9223372036854775808 ≤ c) (hc2 : c ≤ 9223372036854775807) (hc : 40 < c) :
    Calls Tryd.prog 4 #[.int .i64 c] w fun e w' => e = .returned (.bool true) ∧ Below w.heap.size w w' := by
  have HSN := hide (sit_new G 10 (by omega) (by omega))
  rw [mk_zero] at HSN
  clear G
  go_enter Tryd.func4, Tryd.ntmps4
  go_wp2_with (first | (go_at_call 5; refine (unhide HSN).mono ?_; clear HSN; rintro e w1 ⟨rfl, hb1⟩; have HS1 := hide hb1; clear hb1) | (go_at_call 6; refine (sit_wakes (unhide HS1)).mono ?_; clear HS1; rintro e w2 ⟨rfl, hb2⟩; have HS := hide hb2; clear hb2))
  go_loop [4, 5] (fun s4 s5 => ∃ q : Nat, q ≤ 40 ∧ s4 = .int .i64 ((q : Int) + 1) ∧ s5 = .int .i64 q) (fun _ s5 => 40 - (intOf s5).toNat)
  case atStart => exact ⟨0, Nat.zero_le _, rfl, rfl⟩
  case round =>
    obtain ⟨q, hq, rfl, rfl⟩ := hrel
    have hq0 : 0 ≤ (q : Int) := by omega
    by_cases hx : (q : Int) < 40
    · have hx2 : (q : Int) < c := by omega
      go_wp2
      exact ⟨⟨q + 1, by omega, by go_num, by go_num⟩, by simp [intOf]; omega⟩
    · have hx2 : (q : Int) < c := by omega
      go_wp2
      go_loopw [30] (fun i wr => ∃ j : Nat, j ≤ q + 1 ∧ i = .int .i64 j ∧ Hid (Sit w E w.heap.size (mk j) wr)) (fun i _ => q + 1 - (intOf i).toNat)
      case atStart => exact ⟨0, Nat.zero_le _, rfl, HS⟩
      case round =>
        obtain ⟨j, hj, rfl, HJ⟩ := hrel
        by_cases hlt : j < q + 1
        · have hltz : (j : Int) < (q : Int) + 1 := by omega
          have HC := hide (sit_create (unhide HJ))
          rw [mk_new j (by omega)] at HC
          dsimp only at HC
          clear HS
          go_wp2_with (go_at_call 7; refine (unhide HC).mono ?_; rintro e w3 ⟨rfl, hs3⟩; have HS3 := hide hs3; clear hs3)
          exact ⟨⟨j + 1, by omega, by go_num, HS3⟩, by simp [intOf]; omega⟩
        · have hltz : ¬ (j : Int) < (q : Int) + 1 := by omega
          obtain rfl : j = q + 1 := by omega
          clear HS
          obtain ⟨w5, rfl⟩ : ∃ x : World, x = wr := ⟨_, rfl⟩
          have HS5 := HJ
          go_wp2_with (first | (go_at_call 13; refine (sit_live (unhide HJ) (Nat.succ_pos q)).mono ?_; clear HJ; rintro e w6 ⟨ga, ca, rfl, ho6, hga, hga2, hb6, hs6⟩; have HS6 := hide hs6; have HA6 := hide ho6; have HB6 := hide hb6; clear ho6 hb6 hs6) | (go_at_call 13; refine (sit_live (unhide HS6) (Nat.succ_pos q)).mono ?_; clear HS6; rintro e w7 ⟨gb, cb, rfl, ho7, hgb, hgb2, hb7, -⟩; have ho := own_kept (unhide HA6) (W' := w7) (fun g hg => by cases hg; exact hb7.block _ hga2); have hcq : w7.cell? ⟨ga, q, none⟩ = some (.int .i64 ((q : Int) + 1)) := (by rw [ho.cellAt q (by omega)]; exact KV_get (by omega)); have HA7 := hide ho; have HO7 := hide ho7; have HB7 : Hid (Below w5.heap.size w5 w7) := ((unhide HB6).trans (hb7.mono (unhide HB6).size)); have hga3 : ga < w7.heap.size := Nat.lt_of_lt_of_le hga2 hb7.size; clear ho ho7 hb7 HA6 HB6))
          go_loopw [8, 60] (fun _ i wr => ∃ k : Nat, k ≤ q + 1 ∧ i = .int .i64 k ∧ Hid (wr.ownsRow w5.heap.size 3 1 (.slice (some ⟨ga, 0, none⟩) (q + 1) ca) (q + 1) (MK (q + 1) k)) ∧ Hid (Chg (fun b => b = ga) w7 wr)) (fun _ i _ => q + 1 - (intOf i).toNat)
          case atStart => exact ⟨0, Nat.zero_le _, rfl, hide (by rw [MK_zero]; exact unhide HA7), hide (Chg.refl _ _)⟩
          case round =>
            obtain ⟨k, hk, rfl, HM, HC⟩ := hrel
            clear hcq
            by_cases hlt : k < q + 1
            · have hltz2 : (k : Int) < (q : Int) + 1 := by omega
              have hkz : 0 ≤ (k : Int) := by omega
              have hcell : wr.cell? ⟨ga, k, none⟩ = some (.int .i64 ((k : Int) + 1)) := by rw [(unhide HM).cellAt k (by omega)]; exact MK_get hlt
              have hfz : wr.frozen? ⟨ga, k, none⟩ = false := (unhide HM).frozenAt k
              go_wp2
              refine ⟨⟨k + 1, by omega, by go_num, hide ?_, hide ?_⟩, by simp [intOf]; omega⟩
              · rw [← MK_set hlt]; exact ((unhide HM).stored k _).1
              · exact (unhide HC).setCell (.inl rfl) _
            · have hltz2 : ¬ (k : Int) < (q : Int) + 1 := by omega
              obtain rfl : k = q + 1 := by omega
              rw [MK_end] at HM
              have HG0 : Hid (Gw w5.heap.size w7 ga ga (q + 1) 0 ca wr) := ⟨unhide HM, by rw [(unhide HM).cellAt 0 (by omega)]; exact GR_get0 (by omega), unhide HC, .inl rfl⟩
              clear HM HC
              go_wp2
              go_loopw [9, 68] (fun v i wr => ∃ j g cap : Nat, j ≤ 20 ∧ i = .int .i64 j ∧ v = .slice (some ⟨g, 0, none⟩) (q + 1 + j) cap ∧ Hid (Gw w5.heap.size w7 ga g (q + 1) j cap wr)) (fun _ i _ => 20 - (intOf i).toNat)
              case atStart => exact ⟨0, ga, ca, Nat.zero_le _, rfl, rfl, HG0⟩
              case round =>
                obtain ⟨j, g, cap, hj, rfl, rfl, HG⟩ := hrel
                clear HG0
                by_cases hl20 : j < 20
                · have hlz : (j : Int) < 20 := by omega
                  obtain ⟨i0, hi, hz0⟩ := Option.map_eq_some_iff.1 row3
                  simp only [Prod.mk.injEq] at hz0
                  obtain ⟨hz0, hz1, hz2⟩ := hz0
                  by_cases hcap : q + 1 + j + 1 ≤ cap
                  · go_wp2_with (at_builtin; refine wpList_append_fits _ rfl _ _ 33 rfl w5.heap.size 3 i0 1 Tryd.underlying33 hi hz1 g (q + 1 + j) cap (GR (q + 1) j) rfl ((unhide HG).own.alloc _) ⟨wr.heap.size, 0, none⟩ 1 1 [.int .i64 (-9)] rfl rfl (cell_one_new _ _ _) (by simp [Value.oneCell']) hcap ?_; intro w9 hown9 hgrow9; have HG9 := hide ((unhide HG).fits (Nat.succ_pos q) hga3 hown9 hgrow9); clear hown9 hgrow9)
                    exact ⟨⟨j + 1, g, cap, by omega, by go_num, rfl, HG9⟩, by simp [intOf]; omega⟩
                  · go_wp2_with (at_builtin; refine wpList_append_grows _ rfl _ _ 33 rfl 3 i0 (.int .i64 0) 1 8 Tryd.underlying33 hi hz0 hz1 hz2 rfl (by decide) (some ⟨g, 0, none⟩) (q + 1 + j) cap (GR (q + 1) j) rfl (fun h => by cases h) (by rw [GR_len]; omega) (fun b hb => by cases hb; exact ((unhide HG).own.alloc _).cells rfl) ⟨wr.heap.size, 0, none⟩ 1 1 [.int .i64 (-9)] rfl rfl (cell_one_new _ _ _) (by simp [Value.oneCell']) (by omega) (by unfold maxLen; omega) (by omega) ?_; intro v9 w9 hown9 hgrow9; obtain ⟨g9, c9, rfl, hg9⟩ := (unhide HG).grows (unhide HB7).size hga3 hown9 hgrow9; have HG9 := hide hg9; clear hown9 hgrow9 hg9)
                    exact ⟨⟨j + 1, g9, c9, by omega, by go_num, rfl, HG9⟩, by simp [intOf]; omega⟩
                · have hlz : ¬ (j : Int) < 20 := by omega
                  obtain rfl : j = 20 := by omega
                  have hkb : ∀ x, wr.cell? ⟨gb, x, none⟩ = w7.cell? ⟨gb, x, none⟩ := fun x => World.cell?_of_block (a := ⟨gb, x, none⟩) ((unhide HG).chg.block gb hgb2 fun e => by omega)
                  have hb0 : wr.cell? ⟨gb, 0, none⟩ = some (.int .i64 1) := by rw [hkb, (unhide HO7).cellAt 0 (by omega)]; exact KV_get (by omega)
                  have hbq : wr.cell? ⟨gb, q, none⟩ = some (.int .i64 ((q : Int) + 1)) := by rw [hkb, (unhide HO7).cellAt q (by omega)]; exact KV_get (by omega)
                  have HB8 : Hid (Below w5.heap.size w5 wr) := (unhide HB7).trans ((unhide HG).chg.below (unhide HB7).size fun k hk => by rw [hk]; exact hga)
                  have HS8 := hide ((unhide HS5).below (unhide HB8))
                  clear hkb
                  go_wp2_with (go_at_call 13; refine (sit_live (unhide HS8) (Nat.succ_pos q)).mono ?_; clear HS8; rintro e w12 ⟨gc, cc, rfl, ho12, hgc, hgc2, hb12, hs12⟩; have hc0 : w12.cell? ⟨gc, 0, none⟩ = some (.int .i64 1) := (by rw [ho12.cellAt 0 (by omega)]; exact KV_get (by omega)); have hcq : w12.cell? ⟨gc, q, none⟩ = some (.int .i64 ((q : Int) + 1)) := (by rw [ho12.cellAt q (by omega)]; exact KV_get (by omega)); have ha0 : w12.cell? ⟨ga, 0, none⟩ = some (.int .i64 (-7)) := ((hb12.cell (p := ⟨ga, 0, none⟩) (Nat.lt_of_lt_of_le hga3 (unhide HG).chg.size)).trans (unhide HG).a0); have HS12 := hide hs12; clear ho12 hb12 hs12)
                  go_ret
                  exact ⟨rfl, (unhide HS12).old⟩
theorem keeps_law (w : World) {c : Int} {E : Nat → Addr} {F : Nat → Prop} (G : Gs w E F) (hc1 : -9223372036854775808 ≤ c) (hc2 : c ≤ 9223372036854775807) :
    Calls Tryd.prog 4 #[.int .i64 c] w fun e w' => e = .returned (.bool true) ∧ Below w.heap.size w w' := by
  by_cases h : c ≤ 40
  · exact keeps_lo w G hc1 hc2 h
  · exact keeps_hi w G hc1 hc2 (by omega)
end Rs
end Go.Proofs.YtgmgnhkphlegpabDoor
