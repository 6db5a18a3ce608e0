/- Layer 9: BatchKeeps. -/
import Derived.Test.YtigffjbefbndnaaDoorGc
namespace Go.Proofs.YtigffjbefbndnaaDoor
open Go.RowKit
namespace Rs
open Sm (Tx ofS)
set_option maxRecDepth 100000 in
set_option maxHeartbeats 8000000 in
theorem keeps_law {w : World} {v : Value} {X : List Tx} {E : Nat → Addr} (V : EnvR w E w.heap.size) (hT : Um.Txs w v X) (hn : X.length ≤ 9223372036854775807) (bl : Int) (hb1 : -9223372036854775808 ≤ bl) (hb2 : bl ≤ 9223372036854775807) :
    Calls Tryd.prog 5 #[v, .int .i64 bl] w fun e w' => e = .returned (.bool true) ∧ Below w.heap.size w w' := by
  have HWK := hide (wakes_any V)
  have HV := hide V
  have HFI : Hid (∀ W, Below w.heap.size w W → Calls Tryd.prog 7 #[v] W fun e w' => ∃ u D z, e = .returned (.tuple #[u, .int .i64 (z : Nat)]) ∧ z ≤ 1048832 ∧ Fit D z ∧ Um.OwnT W.heap.size w' u D ∧ Below W.heap.size W w') := fun W hW => fit_any (by
    obtain ⟨ao, cap, e, h1, h2, h3⟩ := hT
    refine ⟨ao, cap, e, h1, h2, fun h0 => ?_⟩
    obtain ⟨g, off, e1, hg, hc⟩ := h3 h0
    exact ⟨g, off, e1, Nat.lt_of_lt_of_le hg hW.size, fun j x hx => (hW.cell (p := ⟨g, off + j, none⟩) hg).trans (hc j x hx)⟩) hn
  obtain ⟨ao, cap, rfl, hcap, hnn, hat⟩ := hT
  obtain ⟨q, hq⟩ : ∃ q : Nat, max 0 bl = (q : Int) := ⟨(max 0 bl).toNat, by omega⟩
  have hqb : q ≤ 9223372036854775807 := by omega
  have hr : (q : Int).tmod 20 = ((q % 20 : Nat) : Int) := by rw [Int.tmod_eq_emod_of_nonneg (by omega)]; omega
  obtain ⟨b, hbb⟩ : ∃ b : Nat, 1 + (q : Int) % 20 = (b : Int) := ⟨1 + q % 20, by omega⟩
  have hb3 : 1 ≤ b := by omega
  have hb4 : b ≤ 50 := by omega
  clear hat hnn V
  go_enter Tryd.func5, Tryd.ntmps5
  go_wp2_with (first
    | (go_at_call 6; refine (unhide HWK).mono ?_; rintro e w1 ⟨rfl, h1⟩; have HB1 := hide h1; clear h1)
    | (go_at_call 7; refine (unhide HFI _ (unhide HB1)).mono ?_; rintro e w2 ⟨u, D, z, rfl, hz, hF, hO, h2⟩; have HF := hide hF; have HO := hide hO; have HB2 := hide h2; clear hF hO h2))
  have HBw : Hid (Below w.heap.size w w2) := (unhide HB1).trans ((unhide HB2).mono (unhide HB1).size)
  have HV2 : Hid (EnvR w2 E w2.heap.size) := ((unhide HV).below (unhide HBw)).over (unhide HBw).size
  obtain ⟨mA, fA, mF, fF, hD⟩ := done_of hb3 hz (unhide HF)
  have hDl : D.length ≤ 524416 := by have := fz_len D; rw [(unhide HF).sum] at this; omega
  have hQl : mF.made ≤ 16777216 := hD.end_.ok.made
  have hQz : (((D.length : Nat) : Int) + (b : Int) - 1).tdiv (b : Int) = ((mF.made : Nat) : Int) := by
    rw [hD.end_.num]
    unfold cnt
    rw [Int.tdiv_eq_ediv_of_nonneg (by omega), show ((D.length : Nat) : Int) + (b : Int) - 1 = ((D.length + b - 1 : Nat) : Int) by omega]
    rfl
  have hml : fF.made.length = mF.made := by rw [hD.end_.made, upTo_len]
  obtain ⟨M, hM⟩ : ∃ M, D.length = M := ⟨_, rfl⟩
  obtain ⟨a2, c2, rfl⟩ := own_slice (unhide HO)
  have HTW : Hid (Calls Tryd.prog 11 #[.slice a2 M c2] w2 fun e w' => ∃ a c3 g c w4, e = .returned (.slice a M c3) ∧ Hid ((Builtin.append_ #[22, 22] 22 #[.slice a M c3, .slice (some ⟨w'.heap.size, 0, none⟩) 2 2]).run Tryd.prog (w'.alloc (.cells #[.string (⟨#[122, 122]⟩ : Tx), .string ⟨#[122, 121]⟩] 9)) = .ok (.slice (some ⟨g, 0, none⟩) (M + 2) c) w4) ∧ Hid (w2.heap.size ≤ g ∧ g < w4.heap.size ∧ M + 2 ≤ c ∧ Below w2.heap.size w2 w4 ∧ Own w4 (.slice (some ⟨g, 0, none⟩) (M + 2) c) (D ++ [(⟨#[122, 122]⟩ : Tx), ⟨#[122, 121]⟩]))) := by
    rw [← hM]
    refine (Um.twin_any _ D w2 (unhide HO).txs (by omega)).mono ?_
    rintro e w' ⟨t, rfl, ho3, h3⟩
    obtain ⟨a, c3, rfl⟩ := own_slice ho3
    obtain ⟨g, c, w4, hrun, ho4, hc4, hg4⟩ := push_two (⟨#[122, 122]⟩ : Tx) ⟨#[122, 121]⟩ (own_of ho3) (by omega) 22 22 Tryd.underlying22
    refine ⟨a, c3, g, c, w4, rfl, hrun, ?_, (own_lt ho4 (g := g) rfl).2, ?_, h3.trans (hc4.below h3.size fun k hk => (World.ownsRow.lt ho3 k hk).1), ho4⟩
    · have s := h3.size
      rcases hg4 with e | e
      · exact (World.ownsRow.lt ho3 g e).1
      · omega
    · obtain ⟨_, _, e, h1, _⟩ := ho4.crow
      injection e with _ _ e
      subst e
      rw [List.length_append] at h1
      exact h1
  have HM := hide hM
  have HDN := hide hD
  rw [hM] at hQz hDl ⊢
  clear HB1 HB2 HWK HFI hM hq hr hbb hD
  go_wp2_with (first
    | (go_at_call 11; refine (unhide HTW).mono ?_; clear HTW; rintro e w3 ⟨a3, c3, g, c, w4, rfl, HRN, HX⟩)
    | (at_builtin; refine Kz.wpList_append_run rfl _ _ 22 22 rfl _ _ rfl rfl (.slice (some ⟨g, 0, none⟩) (M + 2) c) w4 (unhide HRN) ?_; clear HRN))
  obtain ⟨h2g, hg4', hcM, h4, ho4⟩ := unhide HX
  have HB4 := hide h4
  have HO4 := hide ho4
  have HGG := hide (⟨h2g, hg4'⟩ : _ ∧ _)
  clear ho4 h2g hg4' h4 HX
  have HV4 : Hid (EnvR w4 E w4.heap.size) := ((unhide HV2).below (unhide HB4)).over (unhide HB4).size
  have HVB : Hid (∀ B, Below w2.heap.size w2 B → EnvR B E B.heap.size) := fun B hB => ((unhide HV2).below hB).over hB.size
  have HNW : Hid (Calls Tryd.prog 8 #[.int .i64 z] w4 fun e w' => e = .returned (.pointer (some ⟨w4.heap.size, 0, none⟩)) ∧ Sep w4 [stoT w4.heap.size (newS (z : Int))] (fun _ => w'.heap.size) w') := sep_new (Sep.nil w4 fun _ => 0) z (by omega) (by omega)
  obtain ⟨sb, hsb⟩ : ∃ sb, w4.heap.size = sb := ⟨_, rfl⟩
  have HFN : Hid (∀ W, Sep w4 [stoT sb (newS (z : Int))] (fun _ => W.heap.size) W → Calls Tryd.prog 9 #[.pointer (some ⟨sb, 0, none⟩), .int .i64 b] W fun e w' => ∃ fb, e = .returned (.tuple #[.pointer (some ⟨fb, 0, none⟩), .nilIface]) ∧ Sep w4 [sfT E sb fb (newS (z : Int)) ⟨b, [], [], 0⟩] (fun _ => w'.heap.size) w') := fun W h => sep_fnew (E := E) h (i := 0) rfl b hb3 (by omega)
  have HAD : Hid (∀ W fb, Sep w4 [sfT E sb fb (newS (z : Int)) ⟨b, [], [], 0⟩] (fun _ => W.heap.size) W → Calls Tryd.prog 10 #[.pointer (some ⟨fb, 0, none⟩), .slice (some ⟨g, 0, none⟩) M c] W fun e w' => e = .returned .nilIface ∧ Sep w4 [sfT E sb fb mA fA] (fun _ => w'.heap.size) w') := fun W fb h => by
    have c0 := chk_new b hb3 z (by omega)
    have hT := own_front (A := D) ((unhide HO4).below h.old) (by rw [unhide HM]; rfl)
    rw [unhide HM] at hT
    have q := sep_add (unhide HV4).toEnv h (i := 0) rfl (c0.for (by omega)) (by show 0 < b; omega) hT (fun a n c e => by
      injection e with e
      injection e with e
      subst e
      exact .inl (unhide HGG).2) (by have := unhide HM; omega) (no_long (unhide HF).short)
    rw [(unhide HDN).add] at q
    exact q
  have HCG : Hid (∀ (L : List Thing) Dn W k, k < M → Sep w4 L Dn W → ∃ g2 off2 x, a2 = some ⟨g2, off2, none⟩ ∧ W.cell? ⟨g2, off2 + k, none⟩ = some (.string x) ∧ W.cell? ⟨g, k, none⟩ = some (.string x)) := fun L Dn W k hk h => by
    obtain ⟨ao, cp, e, _, _, hat⟩ := ((unhide HO).below (unhide HB4)).txs
    injection e with e _ _
    have hl := unhide HM
    obtain ⟨g2, off2, e1, hg, hc⟩ := hat (by omega)
    obtain ⟨x, hx⟩ : ∃ x, D[k]? = some x := ⟨_, List.getElem?_eq_getElem (by omega)⟩
    refine ⟨g2, off2, x, by rw [e, e1], (h.old.cell (p := ⟨g2, off2 + k, none⟩) hg).trans (hc k x hx), (h.old.cell (p := ⟨g, k, none⟩) (unhide HGG).2).trans ?_⟩
    exact own_cell (unhide HO4) (by rw [List.length_append, hl]; rfl) (by rw [List.getElem?_append_left (by omega)]; exact hx)
  have HCZ : Hid (∀ (L : List Thing) Dn W, Sep w4 L Dn W → W.cell? ⟨g, M, none⟩ = some (.string ⟨#[122, 122]⟩) ∧ W.cell? ⟨g, M + 1, none⟩ = some (.string ⟨#[122, 121]⟩)) := fun L Dn W h => by
    have hl := unhide HM
    refine ⟨(h.old.cell (p := ⟨g, M, none⟩) (unhide HGG).2).trans ?_, (h.old.cell (p := ⟨g, M + 1, none⟩) (unhide HGG).2).trans ?_⟩
    · exact own_cell (unhide HO4) (by rw [List.length_append, hl]; rfl) (by rw [List.getElem?_append_right (by omega), hl, Nat.sub_self]; rfl)
    · exact own_cell (unhide HO4) (by rw [List.length_append, hl]; rfl) (by rw [List.getElem?_append_right (by omega), hl, Nat.add_sub_cancel_left]; rfl)
  have HMK : Hid (∀ (L : List Thing) Dn W, Sep w4 L Dn W → Mrk W g (M + 2) W) := fun L Dn W h => ⟨Chg.refl _ _, rfl, fun j hj => by
    have hl := unhide HM
    obtain ⟨x, hx⟩ : ∃ x, (D ++ [(⟨#[122, 122]⟩ : Tx), ⟨#[122, 121]⟩])[j]? = some x := ⟨_, List.getElem?_eq_getElem (by rw [List.length_append, hl]; exact hj)⟩
    exact ⟨_, (h.old.cell (p := ⟨g, j, none⟩) (unhide HGG).2).trans (own_cell (unhide HO4) (by rw [List.length_append, hl]; rfl) hx)⟩, fun j => (h.old.frozen (p := ⟨g, j, none⟩) (unhide HGG).2).trans ((show w4.ownsRow 0 9 1 (.slice (some ⟨g, 0, none⟩) (M + 2) c) (M + 2) _ by
      have q := unhide HO4
      unfold Own at q
      rw [List.length_append, unhide HM] at q
      exact q).frozenAt j)⟩
  have HSB : Hid (∀ T w7 wr, Sep w4 [T] (fun _ => w7.heap.size) w7 → Mrk w7 g (M + 2) wr → Sb w2 T wr) := fun T w7 wr h m => sb_mark (unhide HB4) (unhide HGG).1 (unhide HGG).2 h m
  have HFS : Hid (∀ W fb, Sb w2 (sfT E sb fb mA fA) W → Calls Tryd.prog 12 #[.pointer (some ⟨fb, 0, none⟩)] W fun e w' => ∃ a c, e = .returned (.tuple #[.slice a mF.made c, .nilIface]) ∧ Sb w2 (scT sb mF (.slice a mF.made c) (upTo mF.made)) w') := fun W fb ⟨B, hB, h⟩ => by
    have q := sep_finish (unhide HVB B hB).toEnv h (i := 0) rfl ((unhide HDN).chk.for (by omega)) (by rw [(unhide HDN).chk.size]; exact (unhide HDN).chk.full) (unhide HDN).fin
    rw [hml, (unhide HDN).end_.made] at q
    exact q.mono fun e w' ⟨a, c, e1, h1⟩ => ⟨a, c, e1, B, hB, h1⟩
  have HTX : Hid (∀ W lv k, k < mF.made → Sb w2 (scT sb mF lv (upTo mF.made)) W → Calls Tryd.prog 14 #[.pointer (some ⟨sb, 0, none⟩), .int .i64 ((k + 1 : Nat) : Int)] W fun e w' => e = .returned (.string (strB (Um.frs (Um.rl (ofS (prt b D k)))))) ∧ Sb w2 (scT sb mF lv (upTo mF.made)) w') := fun W lv k hk ⟨B, hB, h⟩ =>
    (sep_text (unhide HVB B hB) h (i := 0) rfl (n := k + 1) (by omega) (look_run (unhide HDN).end_.ok (unhide HDN).end_.runs hk)).mono fun e w' hh => ⟨hh.1, B, hB, hh.2.1⟩
  have HOF : Hid (∀ W T p k, Um.Txs W p (prt b D k) → Sb w2 T W → Calls Tryd.prog 20 #[p] W fun e w' => ∃ r, e = .returned r ∧ Um.Txs w' r (ofS (prt b D k)) ∧ Sb w2 T w') := fun W T p k hT ⟨B, hB, h⟩ => by
    have hpl : (prt b D k).length ≤ 50 := by rw [prt_len]; omega
    refine (of_prt hT (by omega)).mono ?_
    rintro e w' ⟨r, rfl, ht, hb⟩
    exact ⟨r, rfl, ht, B, hB, (h.below hb).reset⟩
  have HFR : Hid (∀ W T r k, Um.Txs W r (ofS (prt b D k)) → Sb w2 T W → Calls Tryd.prog 19 #[r] W fun e w' => e = .returned (.tuple #[.string (strB (Um.frs (Um.rl (ofS (prt b D k))))), .int .i64 0]) ∧ Sb w2 T w') := fun W T r k hT ⟨B, hB, h⟩ => by
    have hpl : (prt b D k).length ≤ 50 := by rw [prt_len]; omega
    have hol := Sm.ofS_len (prt b D k)
    refine (frame_prt hT (fun x hx => (unhide HF).short x (prt_mem (Sm.ofS_mem.1 hx))) (by omega)).mono ?_
    rintro e w' ⟨rfl, hb⟩
    exact ⟨rfl, B, hB, (h.below hb).reset⟩
  have HLC : Hid (∀ W a c k, k < mF.made → Sb w2 (scT sb mF (.slice a mF.made c) (upTo mF.made)) W → ∃ g off, a = some ⟨g, off, none⟩ ∧ W.cell? ⟨g, off + k, none⟩ = some (.int .i64 ((k + 1 : Nat) : Int))) := fun W a c k hk ⟨B, hB, h⟩ => by
    obtain ⟨F, h1, h2, h3, h4⟩ := sep_sc h (i := 0) rfl
    obtain ⟨ao, c', e, hat⟩ := nat_of h2
    injection e with e _ _
    obtain ⟨g, off, e1, hg, hc⟩ := hat (by rw [upTo_len]; omega)
    refine ⟨g, off, by rw [e, e1], hc k (k + 1) ?_⟩
    unfold upTo
    rw [List.getElem?_map, List.getElem?_range hk]
    rfl
  have HPT : Hid (∀ W T k, k < mF.made → Sb w2 T W → ∃ g off, a2 = some ⟨g, off, none⟩ ∧ M ≤ c2 ∧ k * b < M ∧ Um.Txs W (.slice (some ⟨g, off + k * b, none⟩) (min (k * b + b) M - k * b) (c2 - k * b)) (prt b D k)) := fun W T k hk h => by
    have hkb := (unhide HDN).q hk
    obtain ⟨ao, cap, e, hcap, _, hat⟩ := ((unhide HO).below h.old).txs
    obtain ⟨g, off, e1, hg, hc⟩ := hat (by omega)
    injection e with e e2 e3
    subst e3
    have hl := unhide HM
    have q := txs_prt (b := b) rfl rfl rfl hkb hcap hg hc
    rw [hl] at q hkb hcap
    exact ⟨g, off, by rw [e, e1], hcap, hkb, q⟩
  have HOLD : Hid (∀ T W, Sb w2 T W → Below w.heap.size w W) := fun T W h => (unhide HBw).trans (h.old.mono (unhide HBw).size)
  obtain ⟨Q, hQ⟩ : ∃ Q, mF.made = Q := ⟨_, rfl⟩
  rw [hQ] at hQz hQl HFS HTX HLC HPT
  rw [hsb] at HNW
  have hMc1 : (M : Int) ≤ (c : Int) := by omega
  clear hml hsb hQ HV2 HV4 HVB HF HV HO HBw HB4 HDN HGG HO4
  go_wp2_with (first
    | (go_at_call 8; refine (unhide HNW).mono ?_; clear HNW; rintro e w5 ⟨rfl, h5⟩; have HS5 := hide h5; clear h5)
    | (go_at_call 9; refine (unhide HFN _ (unhide HS5)).mono ?_; clear HFN; rintro e w6 ⟨fb, rfl, h6⟩; have HS6 := hide h6; clear h6)
    | (go_at_call 10; refine (unhide HAD _ fb (unhide HS6)).mono ?_; clear HAD; rintro e w7 ⟨rfl, h7⟩; have HS7 := hide h7; clear h7))
  clear HS5 HS6
  go_loopw [58] (fun s58 wr => ∃ k : Nat, s58 = .int .i64 k ∧ k ≤ M ∧ Hid (Sep w4 [sfT E sb fb mA fA] (fun _ => wr.heap.size) wr)) (fun s58 _ => M - (intOf s58).toNat)
  case atStart => exact ⟨0, rfl, Nat.zero_le _, HS7⟩
  case round =>
    clear HS7
    obtain ⟨k, rfl, hk, HS⟩ := hrel
    by_cases hlt : k < M
    · have hltz : (k : Int) < (M : Int) := by omega
      have hltz2 : (k : Int) < ((M + 2 : Nat) : Int) := by omega
      have hk2 : k < M + 2 := by omega
      have hk0 : 0 ≤ (k : Int) := by omega
      obtain ⟨g2, off2, x, rfl, hx1, hx2⟩ := unhide HCG _ _ wr k hlt (unhide HS)
      have hxx : (x.toList == x.toList) = true := by simp
      clear HCG HCZ HMK HSB HFS HTX HOF HFR HLC HPT HOLD
      go_wp2
      go_quiet (fail)
      obtain ⟨V, hV⟩ : ∃ V, V = wr.drewN nq := ⟨_, rfl⟩
      rw [← hV]
      have HK1 : Hid (Sep w4 [sfT E sb fb mA fA] (fun _ => V.heap.size) V) := by rw [hV]; exact ((unhide HS).below (Kz.below_drewN _ _ _)).reset
      clear hV hx1 hx2
      go_wp2
      go_roundw
      case rel => exact ⟨k + 1, by go_num, by omega, HK1⟩
      case measure => simp [intOf]; omega
    · have hltz : ¬ (k : Int) < (M : Int) := by omega
      obtain ⟨hz1, hz2⟩ := unhide HCZ _ _ wr (unhide HS)
      have HMR := hide (unhide HMK _ _ wr (unhide HS))
      have hM2 : (M : Int) < ((M + 2 : Nat) : Int) := by omega
      have hM3 : (M : Int) + 1 < ((M + 2 : Nat) : Int) := by omega
      have hM4 : (M : Int) < (M : Int) + 2 := by omega
      have hM5 : (M : Int) + 1 < (M : Int) + 2 := by omega
      have hM6 : 0 ≤ (M : Int) := by omega
      have hM7 : 0 ≤ (M : Int) + 1 := by omega
      clear HCG HCZ HMK
      go_wp2
      clear hz1 hz2 hM2 hM3 hM4 hM5 hM6 hM7
      go_loopw [88] (fun s88 wm => ∃ k : Nat, s88 = .int .i64 k ∧ k ≤ M + 2 ∧ Hid (Mrk wr g (M + 2) wm)) (fun s88 _ => (M + 2) - (intOf s88).toNat)
      case atStart => exact ⟨0, rfl, Nat.zero_le _, HMR⟩
      case round =>
        clear HMR
        rename_i wm
        obtain ⟨i, rfl, hi, HMR⟩ := hrel
        by_cases hlq : i < M + 2
        · have hlqz : (i : Int) < ((M + 2 : Nat) : Int) := by omega
          have hlqy : (i : Int) < (M : Int) + 2 := by omega
          have hi0 : 0 ≤ (i : Int) := by omega
          obtain ⟨y, hy⟩ := (unhide HMR).cell i hlq
          have hfr := (unhide HMR).free i
          have HK := hide ((unhide HMR).set i (.string ⟨#[109, 97, 114, 107]⟩))
          clear HSB HFS HTX HOF HFR HLC HPT HOLD
          go_wp2
          go_roundw
          case rel => exact ⟨i + 1, by go_num, by omega, HK⟩
          case measure => simp [intOf]; omega
        · have hlqz : ¬ (i : Int) < ((M + 2 : Nat) : Int) := by omega
          have hlqy : ¬ (i : Int) < (M : Int) + 2 := by omega
          have HT0 := hide (unhide HSB _ _ _ (unhide HS) (unhide HMR))
          have hQe : ((Q : Int) != (Q : Int)) = false := by simp
          clear HSB HS HMR
          go_wp2_with (go_at_call 12; refine (unhide HFS _ fb (unhide HT0)).mono ?_; clear HFS; rintro e v1 ⟨a, c, rfl, h1⟩; have HT1 := hide h1; clear h1)
          clear HT0
          go_loopw [114] (fun s114 wr => ∃ k : Nat, s114 = .int .i64 k ∧ k ≤ Q ∧ Hid (Sb w2 (scT sb mF (.slice a Q c) (upTo Q)) wr)) (fun s114 _ => Q - (intOf s114).toNat)
          case atStart => exact ⟨0, rfl, Nat.zero_le _, HT1⟩
          case round =>
            clear HT1
            rename_i wn
            obtain ⟨k, rfl, hk, HS⟩ := hrel
            by_cases hlt : k < Q
            · have hltz : (k : Int) < (Q : Int) := by omega
              have hk0 : 0 ≤ (k : Int) := by omega
              obtain ⟨g, off, rfl, hcx⟩ := unhide HLC _ a c k hlt (unhide HS)
              obtain ⟨g2, off2, eu, hcap2, hkb, hpt⟩ := unhide HPT _ _ k hlt (unhide HS)
              subst eu
              obtain ⟨p, hp⟩ : ∃ p, k * b = p := ⟨_, rfl⟩
              rw [hp] at hpt hkb
              obtain ⟨j, hj⟩ : ∃ j, min (p + b) M = j := ⟨_, rfl⟩
              rw [hj] at hpt
              have hp1 : (k : Int) * (b : Int) = (p : Int) := by rw [← hp]; simp
              have hp2 : ((k : Int) + 1) * (b : Int) = ((p + b : Nat) : Int) := by rw [Int.add_mul, hp1]; omega
              have hp3 : min ((p : Int) + (b : Int)) (M : Int) = (j : Int) := by omega
              have hpj : (p : Int) ≤ (j : Int) := by omega
              have hjc : (j : Int) ≤ (c2 : Int) := by omega
              have hpn : ¬ c2 = p := by omega
              have hpb : p ≤ 1000000 := by omega
              have hp0 : 0 ≤ (p : Int) := by omega
              have HOK := hide (unhide HOF _ _ _ k hpt (unhide HS))
              have HTK := hide (fun W => unhide HTX W (.slice (some ⟨g, off, none⟩) Q c) k hlt)
              have HFK := hide (fun W r => unhide HFR W (scT sb mF (.slice (some ⟨g, off, none⟩) Q c) (upTo Q)) r k)
              obtain ⟨T, hTe⟩ : ∃ T, strB (Um.frs (Um.rl (ofS (prt b D k)))) = T := ⟨_, rfl⟩
              rw [hTe] at HTK HFK
              rw [show ((k + 1 : Nat) : Int) = (k : Int) + 1 by omega] at HTK hcx
              clear hpt hTe hp hj HLC HPT HOF HTX HFR HOLD
              go_wp2_with (first
                | (go_at_call 20; refine (unhide HOK).mono ?_; clear HOK; rintro e v5 ⟨r, rfl, kT, k1⟩; have HK1 := hide k1; have HKT := hide kT; clear k1 kT)
                | (go_at_call 19; refine (unhide HFK _ r (unhide HKT) (unhide HK1)).mono ?_; clear HFK; rintro e v6 ⟨rfl, k2⟩; have HK2 := hide k2; clear k2)
                | (go_at_call 14; refine (unhide HTK _ (unhide HK2)).mono ?_; clear HTK; rintro e v7 ⟨rfl, k3⟩; have HK3 := hide k3; clear k3))
              go_roundw
              case rel => exact ⟨k + 1, by go_num, by omega, HK3⟩
              case measure => simp [intOf]; omega
            · have hltz : ¬ (k : Int) < (Q : Int) := by omega
              go_wp2
              go_ret
              exact ⟨by simp, unhide HOLD _ _ (unhide HS)⟩
end Rs
end Go.Proofs.YtigffjbefbndnaaDoor
