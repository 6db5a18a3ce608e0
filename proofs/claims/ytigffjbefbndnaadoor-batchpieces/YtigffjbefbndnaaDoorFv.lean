/- Layer 9: BatchPieces. -/
import Derived.Test.YtigffjbefbndnaaDoorFu
import Derived.Test.YtigffjbefbndnaaDoorGa
namespace Go.Proofs.YtigffjbefbndnaaDoor
open Go.RowKit
namespace Rs
open Sm (Tx ofS)
/-- behind the words Y -/
structure Gst (b z : Nat) (Y : List Tx) (m : Sto) (f : For) : Prop where
  add : adds (newS (z : Int)) ⟨b, [], [], 0⟩ Y = (0, m, f)
  chk : Chk b z Y m f
theorem gst_step {b z : Nat} {D Y X : List Tx} {m : Sto} {f : For} (h : Gst b z Y m f) (hF : Fit D z) (hz : z ≤ 1048832) {q : Nat} (hq : Y ++ X = D.take q) : (adds m f X).1 = 0 ∧ Gst b z (Y ++ X) (adds m f X).2.1 (adds m f X).2.2 := by
  have hm : ∀ x ∈ Y ++ X, x ∈ D := fun x hx => by rw [hq] at hx; exact List.mem_of_mem_take hx
  have hfz : fz (Y ++ X) ≤ z := by
    rw [hq, ← hF.sum]
    conv => rhs; rw [← List.take_append_drop q D, fz_app]
    omega
  have hl := fz_len (Y ++ X)
  obtain ⟨a1, c1⟩ := Chk.adds X Y m f h.chk (fun x hx => hF.short x (hm x (List.mem_append.2 (.inr hx)))) hfz (by omega)
  refine ⟨a1, ?_, c1⟩
  have := adds_app Y X (newS (z : Int)) ⟨b, [], [], 0⟩ (by rw [h.add])
  rw [this, h.add]
  exact Prod.ext a1 rfl
theorem cut_nat (c : Int) (M : Nat) : ∃ p : Nat, max 0 (min c (M : Int)) = (p : Int) ∧ p ≤ M := ⟨(max 0 (min c (M : Int))).toNat, by omega, by omega⟩
theorem txs_front {W : World} {a : Option Addr} {c M p : Nat} {D : List Tx} (h : Um.Txs W (.slice a M c) D) (hp : p ≤ M) (hM : D.length = M) : Um.Txs W (.slice a p c) (D.take p) := by
  obtain ⟨ao, cap, e, h1, h2, h3⟩ := h
  injection e with e1 e2 e3
  subst e1 e3
  have hl : (D.take p).length = p := by rw [List.length_take]; omega
  refine ⟨a, c, by rw [hl], by omega, h2, fun h0 => ?_⟩
  obtain ⟨g, off, e4, hg, hc⟩ := h3 (by omega)
  refine ⟨g, off, e4, hg, fun j x hj => hc j x ?_⟩
  rw [List.getElem?_take] at hj
  split at hj
  · exact hj
  · cases hj
theorem sep_peak {w wr : World} {L : List Thing} {D : Nat → Nat} {i sb : Nat} {m : Sto} {v : Value} {l : List Nat} (h : Sep w L D wr) (hi : L[i]? = some (scT sb m v l)) : Calls Tryd.prog 18 #[.pointer (some ⟨sb, 0, none⟩)] wr fun e w' => e = .returned (.int .i64 m.peak) ∧ w' = wr := by
  obtain ⟨F, h1, h2, h3, h4⟩ := sep_sc h hi
  exact peak_any h1
set_option maxRecDepth 100000 in
set_option maxHeartbeats 8000000 in
theorem pieces_law {w : World} {v : Value} {X : List Tx} {E : Nat → Addr} (V : EnvR w E w.heap.size) (hT : Um.Txs w v X) (hn : X.length ≤ 9223372036854775807) (cut : Int) (bl : Int) (hb1 : -9223372036854775808 ≤ bl) (hb2 : bl ≤ 9223372036854775807) :
    Calls Tryd.prog 4 #[v, .int .i64 cut, .int .i64 bl] w fun e w' => e = .returned (.bool true) ∧ Below w.heap.size w w' := by
  have HWK := hide (wakes_any V)
  have HV := hide V
  have HFI : Hid (∀ W, Below w.heap.size w W → Calls Tryd.prog 7 #[v] W fun e w' => ∃ u D z, e = .returned (.tuple #[u, .int .i64 (z : Nat)]) ∧ z ≤ 1048832 ∧ Fit D z ∧ Um.OwnT W.heap.size w' u D ∧ Below W.heap.size W w') := fun W hW => fit_any (by
    obtain ⟨ao, cap, e, h1, h2, h3⟩ := hT
    refine ⟨ao, cap, e, h1, h2, fun h0 => ?_⟩
    obtain ⟨g, off, e1, hg, hc⟩ := h3 h0
    exact ⟨g, off, e1, Nat.lt_of_lt_of_le hg hW.size, fun j x hx => (hW.cell (p := ⟨g, off + j, none⟩) hg).trans (hc j x hx)⟩) hn
  obtain ⟨ao, cap, rfl, hcap, hnn, hat⟩ := hT
  obtain ⟨q, hq⟩ : ∃ q : Nat, max 0 bl = (q : Int) := ⟨(max 0 bl).toNat, by omega⟩
  have hqb : q ≤ 9223372036854775807 := by omega
  have hr : (q : Int).tmod 20 = ((q % 20 : Nat) : Int) := by rw [Int.tmod_eq_emod_of_nonneg (by omega)]; omega
  obtain ⟨b, hbb⟩ : ∃ b : Nat, 1 + (q : Int) % 20 = (b : Int) := ⟨1 + q % 20, by omega⟩
  have hb3 : 1 ≤ b := by omega
  have hb4 : b ≤ 50 := by omega
  clear hat hnn V
  go_enter Tryd.func4, Tryd.ntmps4
  go_wp2_with (first
    | (go_at_call 6; refine (unhide HWK).mono ?_; rintro e w1 ⟨rfl, h1⟩; have HB1 := hide h1; clear h1)
    | (go_at_call 7; refine (unhide HFI _ (unhide HB1)).mono ?_; rintro e w2 ⟨u, D, z, rfl, hz, hF, hO, h2⟩; have HF := hide hF; have HO := hide hO; have HB2 := hide h2; clear hF hO h2))
  have HBw : Hid (Below w.heap.size w w2) := (unhide HB1).trans ((unhide HB2).mono (unhide HB1).size)
  have HV2 : Hid (EnvR w2 E w2.heap.size) := ((unhide HV).below (unhide HBw)).over (unhide HBw).size
  obtain ⟨mA, fA, mF, fF, hD⟩ := done_of hb3 hz (unhide HF)
  have hDl : D.length ≤ 524416 := by have := fz_len D; rw [(unhide HF).sum] at this; omega
  have hQl : mF.made ≤ 16777216 := hD.end_.ok.made
  have hml : fF.made.length = mF.made := by rw [hD.end_.made, upTo_len]
  have c0 := chk_new b hb3 z (by omega)
  have HNW : Hid (Calls Tryd.prog 8 #[.int .i64 z] w2 fun e w' => e = .returned (.pointer (some ⟨w2.heap.size, 0, none⟩)) ∧ Sep w2 [stoT w2.heap.size (newS (z : Int))] (fun _ => w'.heap.size) w') := sep_new (Sep.nil w2 fun _ => 0) z (by omega) (by omega)
  obtain ⟨sb, hsb⟩ : ∃ sb, w2.heap.size = sb := ⟨_, rfl⟩
  have HNX : Hid (∀ W, Sep w2 [stoT sb (newS (z : Int))] (fun _ => W.heap.size) W → Calls Tryd.prog 8 #[.int .i64 z] W fun e w' => ∃ tb, e = .returned (.pointer (some ⟨tb, 0, none⟩)) ∧ Sep w2 [stoT sb (newS (z : Int)), stoT tb (newS (z : Int))] (fun _ => w'.heap.size) w') := fun W h => (sep_new h z (by omega) (by omega)).mono fun e w' hh => ⟨_, hh.1, hh.2⟩
  have HFN : Hid (∀ W tb, Sep w2 [stoT sb (newS (z : Int)), stoT tb (newS (z : Int))] (fun _ => W.heap.size) W → Calls Tryd.prog 9 #[.pointer (some ⟨sb, 0, none⟩), .int .i64 b] W fun e w' => ∃ fb, e = .returned (.tuple #[.pointer (some ⟨fb, 0, none⟩), .nilIface]) ∧ Sep w2 [sfT E sb fb (newS (z : Int)) ⟨b, [], [], 0⟩, stoT tb (newS (z : Int))] (fun _ => w'.heap.size) w') := fun W tb h => sep_fnew (E := E) h (i := 0) rfl b hb3 (by omega)
  have HFM : Hid (∀ W tb fb, Sep w2 [sfT E sb fb (newS (z : Int)) ⟨b, [], [], 0⟩, stoT tb (newS (z : Int))] (fun _ => W.heap.size) W → Calls Tryd.prog 9 #[.pointer (some ⟨tb, 0, none⟩), .int .i64 b] W fun e w' => ∃ gb, e = .returned (.tuple #[.pointer (some ⟨gb, 0, none⟩), .nilIface]) ∧ Sep w2 [sfT E sb fb (newS (z : Int)) ⟨b, [], [], 0⟩, sfT E tb gb (newS (z : Int)) ⟨b, [], [], 0⟩] (fun _ => w'.heap.size) w') := fun W tb fb h => sep_fnew (E := E) h (i := 1) rfl b hb3 (by omega)
  have HTW : Hid (∀ (L : List Thing) (W : World), Sep w2 L (fun _ => W.heap.size) W → Calls Tryd.prog 11 #[u] W fun e w' => ∃ t, e = .returned t ∧ Um.OwnT W.heap.size w' t D ∧ Sep w2 L (fun _ => W.heap.size) w') := fun L W h => by
    refine (Um.twin_any u D W ((unhide HO).below h.old).txs (by omega)).mono ?_
    rintro e w' ⟨t, rfl, ho, hb⟩
    exact ⟨t, rfl, ho, h.below hb⟩
  have HAD : Hid (∀ (W0 W : World) tb fb gb t, Um.OwnT W0.heap.size W t D → Sep w2 [sfT E sb fb (newS (z : Int)) ⟨b, [], [], 0⟩, sfT E tb gb (newS (z : Int)) ⟨b, [], [], 0⟩] (fun _ => W0.heap.size) W → Calls Tryd.prog 10 #[.pointer (some ⟨fb, 0, none⟩), t] W fun e w' => e = .returned .nilIface ∧ Sep w2 [sfT E sb fb mA fA, sfT E tb gb (newS (z : Int)) ⟨b, [], [], 0⟩] (fun _ => w'.heap.size) w') := fun W0 W tb fb gb t ho h => by
    have q := sep_add (unhide HV2).toEnv h (i := 0) rfl (c0.for (by omega)) (by show 0 < b; omega) ho.txs (fun a n c e => .inr (own_new ho a n c e)) (by omega) (no_long (unhide HF).short)
    rw [hD.add] at q
    exact q
  have HAG : Hid (∀ (B0 : Nat) (W : World) tb fb gb t (Y Z : List Tx) (m : Sto) (f : For) (q : Nat), Y ++ Z = D.take q → Gst b z Y m f → Um.Txs W t Z → (∀ a n c, t = .slice (some a) n c → B0 ≤ a.block) → Sep w2 [sfT E sb fb mA fA, sfT E tb gb m f] (fun _ => B0) W → Calls Tryd.prog 10 #[.pointer (some ⟨gb, 0, none⟩), t] W fun e w' => e = .returned .nilIface ∧ ∃ m' f', Gst b z (Y ++ Z) m' f' ∧ Sep w2 [sfT E sb fb mA fA, sfT E tb gb m' f'] (fun _ => w'.heap.size) w') := fun B0 W tb fb gb t Y Z m f q hq hG hT hv h => by
    obtain ⟨g1, g2⟩ := gst_step hG (unhide HF) hz hq
    have hm : ∀ x ∈ Z, x.size ≤ 255 := fun x hx => (unhide HF).short x (by
      have : x ∈ Y ++ Z := List.mem_append.2 (.inr hx)
      rw [hq] at this
      exact List.mem_of_mem_take this)
    have hZl : Z.length ≤ D.length := by
      have := congrArg List.length hq
      rw [List.length_append, List.length_take] at this
      omega
    have r := sep_add (unhide HV2).toEnv h (i := 1) rfl (hG.chk.for (by omega)) (by rw [hG.chk.size]; exact hG.chk.full) hT (fun a n c e => .inr (hv a n c e)) (by omega) (no_long hm)
    rw [g1] at r
    exact r.mono fun e w' hh => ⟨hh.1, _, _, g2, hh.2⟩
  have HEND : Hid (∀ m f, Gst b z D m f → m = mA ∧ f = fA) := fun m f hG => by
    have := hG.add
    rw [hD.add] at this
    injection this with _ this
    injection this with h1 h2
    exact ⟨h1.symm, h2.symm⟩
  have HFS : Hid (∀ W tb fb gb, Sep w2 [sfT E sb fb mA fA, sfT E tb gb mA fA] (fun _ => W.heap.size) W → Calls Tryd.prog 12 #[.pointer (some ⟨fb, 0, none⟩)] W fun e w' => ∃ a c, e = .returned (.tuple #[.slice a mF.made c, .nilIface]) ∧ Sep w2 [scT sb mF (.slice a mF.made c) (upTo mF.made), sfT E tb gb mA fA] (fun _ => w'.heap.size) w') := fun W tb fb gb h => by
    have q := sep_finish (unhide HV2).toEnv h (i := 0) rfl (hD.chk.for (by omega)) (by rw [hD.chk.size]; exact hD.chk.full) hD.fin
    rw [hml, hD.end_.made] at q
    exact q
  have HFG : Hid (∀ W tb gb lv, Sep w2 [scT sb mF lv (upTo mF.made), sfT E tb gb mA fA] (fun _ => W.heap.size) W → Calls Tryd.prog 12 #[.pointer (some ⟨gb, 0, none⟩)] W fun e w' => ∃ a c, e = .returned (.tuple #[.slice a mF.made c, .nilIface]) ∧ Sep w2 [scT sb mF lv (upTo mF.made), scT tb mF (.slice a mF.made c) (upTo mF.made)] (fun _ => w'.heap.size) w') := fun W tb gb lv h => by
    have q := sep_finish (unhide HV2).toEnv h (i := 1) rfl (hD.chk.for (by omega)) (by rw [hD.chk.size]; exact hD.chk.full) hD.fin
    rw [hml, hD.end_.made] at q
    exact q
  have HIN : Hid (∀ W tb lv lu, Sep w2 [scT sb mF lv (upTo mF.made), scT tb mF lu (upTo mF.made)] (fun _ => W.heap.size) W → Calls Tryd.prog 17 #[lv, lu] W fun e w' => e = .returned (.bool true) ∧ Sep w2 [scT sb mF lv (upTo mF.made), scT tb mF lu (upTo mF.made)] (fun _ => w'.heap.size) w') := fun W tb lv lu h => by
    obtain ⟨F, h1, h2, h3, h4⟩ := sep_sc h (i := 0) rfl
    obtain ⟨F2, k1, k2, k3, k4⟩ := sep_sc h (i := 1) rfl
    refine (ints_any (nat_of h2) (nat_of k2) (by rw [upTo_len]; omega)).mono ?_
    rintro e w' ⟨rfl, hb⟩
    exact ⟨rfl, (h.below hb).reset⟩
  have HTX : Hid (∀ W tb lv lu k, k < mF.made → Sep w2 [scT sb mF lv (upTo mF.made), scT tb mF lu (upTo mF.made)] (fun _ => W.heap.size) W → Calls Tryd.prog 14 #[.pointer (some ⟨sb, 0, none⟩), .int .i64 ((k + 1 : Nat) : Int)] W fun e w' => e = .returned (.string (strB (Um.frs (Um.rl (ofS (prt b D k)))))) ∧ Sep w2 [scT sb mF lv (upTo mF.made), scT tb mF lu (upTo mF.made)] (fun _ => w'.heap.size) w') := fun W tb lv lu k hk h =>
    (sep_text (unhide HV2) h (i := 0) rfl (n := k + 1) (by omega) (look_run hD.end_.ok hD.end_.runs hk)).mono fun e w' hh => ⟨hh.1, hh.2.1⟩
  have HTY : Hid (∀ W tb lv lu k, k < mF.made → Sep w2 [scT sb mF lv (upTo mF.made), scT tb mF lu (upTo mF.made)] (fun _ => W.heap.size) W → Calls Tryd.prog 14 #[.pointer (some ⟨tb, 0, none⟩), .int .i64 ((k + 1 : Nat) : Int)] W fun e w' => e = .returned (.string (strB (Um.frs (Um.rl (ofS (prt b D k)))))) ∧ Sep w2 [scT sb mF lv (upTo mF.made), scT tb mF lu (upTo mF.made)] (fun _ => w'.heap.size) w') := fun W tb lv lu k hk h =>
    (sep_text (unhide HV2) h (i := 1) rfl (n := k + 1) (by omega) (look_run hD.end_.ok hD.end_.runs hk)).mono fun e w' hh => ⟨hh.1, hh.2.1⟩
  have HLC : Hid (∀ W tb a c lu k, k < mF.made → Sep w2 [scT sb mF (.slice a mF.made c) (upTo mF.made), scT tb mF lu (upTo mF.made)] (fun _ => W.heap.size) W → ∃ g off, a = some ⟨g, off, none⟩ ∧ W.cell? ⟨g, off + k, none⟩ = some (.int .i64 ((k + 1 : Nat) : Int))) := fun W tb a c lu k hk h => by
    obtain ⟨F, h1, h2, h3, h4⟩ := sep_sc h (i := 0) rfl
    obtain ⟨ao, c', e, hat⟩ := nat_of h2
    injection e with e _ _
    obtain ⟨g, off, e1, hg, hc⟩ := hat (by rw [upTo_len]; omega)
    refine ⟨g, off, by rw [e, e1], hc k (k + 1) ?_⟩
    unfold upTo
    rw [List.getElem?_map, List.getElem?_range hk]
    rfl
  have HPK : Hid (∀ W tb lv lu, Sep w2 [scT sb mF lv (upTo mF.made), scT tb mF lu (upTo mF.made)] (fun _ => W.heap.size) W → Calls Tryd.prog 18 #[.pointer (some ⟨sb, 0, none⟩)] W fun e w' => e = .returned (.int .i64 mF.peak) ∧ w' = W) := fun W tb lv lu h => sep_peak h (i := 0) rfl
  have HPL : Hid (∀ W tb lv lu, Sep w2 [scT sb mF lv (upTo mF.made), scT tb mF lu (upTo mF.made)] (fun _ => W.heap.size) W → Calls Tryd.prog 18 #[.pointer (some ⟨tb, 0, none⟩)] W fun e w' => e = .returned (.int .i64 mF.peak) ∧ w' = W) := fun W tb lv lu h => sep_peak h (i := 1) rfl
  have HG0 : Hid (Gst b z [] (newS (z : Int)) ⟨b, [], [], 0⟩) := ⟨rfl, c0⟩
  have HOLD : Hid (∀ (L : List Thing) Dn W, Sep w2 L Dn W → Below w.heap.size w W) := fun L Dn W h => (unhide HBw).trans (h.old.mono (unhide HBw).size)
  obtain ⟨a2, c2, rfl⟩ := own_slice (unhide HO)
  have HOT := hide (unhide HO).txs
  obtain ⟨M, hM⟩ : ∃ M, D.length = M := ⟨_, rfl⟩
  have HM := hide hM
  obtain ⟨p, hp, hpM⟩ := cut_nat cut M
  have HTP : Hid (∀ (L : List Thing) (W : World), Sep w2 L (fun _ => W.heap.size) W → Calls Tryd.prog 11 #[.slice a2 p c2] W fun e w' => ∃ t, e = .returned t ∧ Um.OwnT W.heap.size w' t (D.take p) ∧ Sep w2 L (fun _ => W.heap.size) w') := fun L W h => by
    refine (Um.twin_any _ (D.take p) W (txs_front (by rw [← hM]; exact ((unhide HO).below h.old).txs) hpM hM) (by rw [List.length_take]; omega)).mono ?_
    rintro e w' ⟨t, rfl, ho, hb⟩
    exact ⟨t, rfl, ho, h.below hb⟩
  have HCX : Hid (∀ (L : List Thing) Dn (W : World) k, k < M → Sep w2 L Dn W → ∃ g off x, a2 = some ⟨g, off, none⟩ ∧ D[k]? = some x ∧ W.cell? ⟨g, off + k, none⟩ = some (.string x)) := fun L Dn W k hk h => by
    obtain ⟨ao, cp, e, _, _, hat⟩ := ((unhide HO).below h.old).txs
    injection e with e _ _
    obtain ⟨g, off, e1, hg, hc⟩ := hat (by omega)
    obtain ⟨x, hx⟩ : ∃ x, D[k]? = some x := ⟨_, List.getElem?_eq_getElem (by omega)⟩
    exact ⟨g, off, x, by rw [e, e1], hx, hc k x hx⟩
  obtain ⟨_, cpo, e0, hMc, hno, hso⟩ := unhide HOT
  injection e0 with e01 e02 e03
  subst e01 e03
  rw [hM] at hDl HTW hMc hso ⊢
  obtain ⟨Q, hQ⟩ : ∃ Q, mF.made = Q := ⟨_, rfl⟩
  rw [hQ] at hQl HFS HFG HIN HTX HTY HLC HPK HPL
  rw [hsb] at HNW
  obtain ⟨PK, hPK⟩ : ∃ PK, mF.peak = PK := ⟨_, rfl⟩
  rw [hPK] at HPK HPL
  have hMz : p ≤ c2 := by omega
  have hMz1 : (p : Int) ≤ (c2 : Int) := by omega
  have hMz2 : (p : Int) ≤ (M : Int) := by omega
  have hMz3 : 0 ≤ (p : Int) := by omega
  have hMz4 : (M : Int) ≤ (c2 : Int) := by omega
  clear hD hml hsb HB1 HB2 HWK HFI hQ hM hq hr hbb c0 e02 HOT hPK
  rcases a2 with _ | ⟨g2, off2, sp2⟩
  · have h0 := hno rfl
    obtain rfl : c2 = 0 := by omega
    obtain rfl : M = 0 := by omega
    obtain rfl : p = 0 := by omega
    have hp9 : max 0 (min cut 0) = 0 := by omega
    clear hno hso h0
    go_wp2_with (first
      | (go_at_call 8; refine (unhide HNW).mono ?_; clear HNW; rintro e w3 ⟨rfl, h3⟩; have HS3 := hide h3; clear h3)
      | (go_at_call 8; refine (unhide HNX _ (unhide HS3)).mono ?_; clear HNX; rintro e w4 ⟨tb, rfl, h4⟩; have HS4 := hide h4; clear h4)
      | (go_at_call 9; refine (unhide HFN _ tb (unhide HS4)).mono ?_; clear HFN; rintro e w5 ⟨fb, rfl, h5⟩; have HS5 := hide h5; clear h5)
      | (go_at_call 9; refine (unhide HFM _ tb fb (unhide HS5)).mono ?_; clear HFM; rintro e w6 ⟨gb, rfl, h6⟩; have HS6 := hide h6; clear h6)
      | (go_at_call 11; refine (unhide HTW _ _ (unhide HS6)).mono ?_; clear HTW; rintro e w7 ⟨t, rfl, ho7, h7⟩; have HO7 := hide ho7; have HS7 := hide h7; clear h7 ho7)
      | (go_at_call 10; refine (unhide HAD _ _ tb fb gb t (unhide HO7) (unhide HS7)).mono ?_; clear HAD; rintro e w8 ⟨rfl, h8⟩; have HS8 := hide h8; clear h8)
      | (go_at_call 11; refine (unhide HTP _ _ (unhide HS8)).mono ?_; clear HTP; rintro e w9 ⟨t2, rfl, ho9, h9⟩; have HO9 := hide ho9; have HS9 := hide h9; clear h9 ho9)
      | (go_at_call 10; refine (unhide HAG _ _ tb fb gb t2 [] (D.take 0) _ _ 0 (by rw [List.nil_append]) (unhide HG0) (unhide HO9).txs (own_new (unhide HO9)) (unhide HS9)).mono ?_; clear HS9; rintro e w10 ⟨rfl, m5, f5, hg5, h10⟩; rw [List.nil_append] at hg5; have HG5 := hide hg5; have HS10 := hide h10; clear h10 hg5)
      | (go_at_call 10; refine (unhide HAG _ _ tb fb gb (.slice none 0 0) (D.take 0) [] m5 f5 0 (by rw [List.append_nil]) (unhide HG5) (Um.ownT_nil 0 _).txs (fun a n c e => by cases e) (unhide HS10)).mono ?_; rintro e w11 ⟨rfl, m6, f6, hg6, h11⟩; rw [List.append_nil] at hg6; have HG6 := hide hg6; have HS11 := hide h11; clear h11 hg6))
    clear HS3 HS4 HS5 HS6 HS7 HS8 HS10 HO7 HO9 HG0 HG5 HV2 HF HV HO HBw
    go_loopw [91] (fun s91 wr => ∃ (k : Nat) (m : Sto) (f : For), s91 = .int .i64 k ∧ k ≤ 0 - 0 ∧ Hid (Gst b z (D.take (0 + k)) m f) ∧ Hid (Sep w2 [sfT E sb fb mA fA, sfT E tb gb m f] (fun _ => wr.heap.size) wr)) (fun s91 _ => (0 - 0) - (intOf s91).toNat)
    case atStart => exact ⟨0, m6, f6, rfl, Nat.zero_le _, HG6, HS11⟩
    case round =>
      clear HS11 HG6
      obtain ⟨k, m7, f7, rfl, hk, HG, HS⟩ := hrel
      by_cases hlt : k < 0 - 0
      · exfalso; omega
      · have hltz : ¬ (k : Int) < (0 : Int) - (0 : Int) := by omega
        have hltn : ¬ (k : Int) < ((0 - 0 : Nat) : Int) := by omega
        obtain ⟨rfl, rfl⟩ := unhide HEND m7 f7 (by
          have q := unhide HG
          rw [show 0 + k = D.length by have := unhide HM; omega, List.take_length] at q
          exact q)
        clear HG HAG HEND
        go_wp2_with (first
          | (go_at_call 12; refine (unhide HFS _ tb fb gb (unhide HS)).mono ?_; clear HFS; rintro e v1 ⟨a, c, rfl, h1⟩; have HT1 := hide h1; clear h1)
          | (go_at_call 12; refine (unhide HFG _ tb gb _ (unhide HT1)).mono ?_; clear HFG; rintro e v2 ⟨a9, c9, rfl, h2⟩; have HT2 := hide h2; clear h2)
          | (go_at_call 17; refine (unhide HIN _ tb _ _ (unhide HT2)).mono ?_; clear HIN; rintro e v3 ⟨rfl, h3⟩; have HT3 := hide h3; clear h3))
        clear HS HT1 HT2
        go_loopw [125] (fun s125 wr => ∃ k : Nat, s125 = .int .i64 k ∧ k ≤ Q ∧ Hid (Sep w2 [scT sb mF (.slice a Q c) (upTo Q), scT tb mF (.slice a9 Q c9) (upTo Q)] (fun _ => wr.heap.size) wr)) (fun s125 _ => Q - (intOf s125).toNat)
        case atStart => exact ⟨0, rfl, Nat.zero_le _, HT3⟩
        case round =>
          clear HT3
          obtain ⟨i, rfl, hi, HS⟩ := hrel
          by_cases hlq : i < Q
          · have hlqz : (i : Int) < (Q : Int) := by omega
            have hi0 : 0 ≤ (i : Int) := by omega
            obtain ⟨g, off, rfl, hcx⟩ := unhide HLC _ tb a c _ i hlq (unhide HS)
            have HTK := hide (unhide HTX _ tb _ _ i hlq (unhide HS))
            have HUK := hide (fun W => unhide HTY W tb (.slice (some ⟨g, off, none⟩) Q c) (.slice a9 Q c9) i hlq)
            obtain ⟨T, hTe⟩ : ∃ T, strB (Um.frs (Um.rl (ofS (prt b D i)))) = T := ⟨_, rfl⟩
            rw [hTe] at HTK HUK
            rw [show ((i + 1 : Nat) : Int) = (i : Int) + 1 by omega] at HTK HUK hcx
            clear hTe HTX HTY HLC HPK HPL HOLD HCX
            go_wp2_with (first
              | (go_at_call 14; refine (unhide HTK).mono ?_; clear HTK; rintro e v5 ⟨rfl, k1⟩; have HK1 := hide k1; clear k1)
              | (go_at_call 14; refine (unhide HUK _ (unhide HK1)).mono ?_; rintro e v6 ⟨rfl, k2⟩; have HK2 := hide k2; clear k2))
            go_roundw
            case rel => exact ⟨i + 1, by go_num, by omega, HK2⟩
            case measure => simp [intOf]; omega
          · have hlqz : ¬ (i : Int) < (Q : Int) := by omega
            have HP1 := hide (unhide HPK _ tb _ _ (unhide HS))
            have HP2 := hide (unhide HPL _ tb _ _ (unhide HS))
            go_wp2_with (first
              | (go_at_call 18; refine (unhide HP1).mono ?_; clear HP1; rintro e v5 ⟨rfl, rfl⟩)
              | (go_at_call 18; refine (unhide HP2).mono ?_; clear HP2; rintro e v6 ⟨rfl, rfl⟩))
            go_ret
            exact ⟨by simp, unhide HOLD _ _ _ (unhide HS)⟩
  · obtain rfl : sp2 = none := by
      rcases (unhide HO).2 with ⟨e1, _⟩ | ⟨_, _, _, e1, _⟩
      · cases e1
      · injection e1 with e1
        injection e1 with e1
        injection e1 with _ _ e1
    by_cases hpc : c2 = p
    · obtain rfl : M = p := by omega
      subst hpc
      clear hno hso
      go_wp2_with (first
        | (go_at_call 8; refine (unhide HNW).mono ?_; clear HNW; rintro e w3 ⟨rfl, h3⟩; have HS3 := hide h3; clear h3)
        | (go_at_call 8; refine (unhide HNX _ (unhide HS3)).mono ?_; clear HNX; rintro e w4 ⟨tb, rfl, h4⟩; have HS4 := hide h4; clear h4)
        | (go_at_call 9; refine (unhide HFN _ tb (unhide HS4)).mono ?_; clear HFN; rintro e w5 ⟨fb, rfl, h5⟩; have HS5 := hide h5; clear h5)
        | (go_at_call 9; refine (unhide HFM _ tb fb (unhide HS5)).mono ?_; clear HFM; rintro e w6 ⟨gb, rfl, h6⟩; have HS6 := hide h6; clear h6)
        | (go_at_call 11; refine (unhide HTW _ _ (unhide HS6)).mono ?_; clear HTW; rintro e w7 ⟨t, rfl, ho7, h7⟩; have HO7 := hide ho7; have HS7 := hide h7; clear h7 ho7)
        | (go_at_call 10; refine (unhide HAD _ _ tb fb gb t (unhide HO7) (unhide HS7)).mono ?_; clear HAD; rintro e w8 ⟨rfl, h8⟩; have HS8 := hide h8; clear h8)
        | (go_at_call 11; refine (unhide HTP _ _ (unhide HS8)).mono ?_; clear HTP; rintro e w9 ⟨t2, rfl, ho9, h9⟩; have HO9 := hide ho9; have HS9 := hide h9; clear h9 ho9)
        | (go_at_call 10; refine (unhide HAG _ _ tb fb gb t2 [] (D.take c2) _ _ c2 (by rw [List.nil_append]) (unhide HG0) (unhide HO9).txs (own_new (unhide HO9)) (unhide HS9)).mono ?_; clear HS9; rintro e w10 ⟨rfl, m5, f5, hg5, h10⟩; rw [List.nil_append] at hg5; have HG5 := hide hg5; have HS10 := hide h10; clear h10 hg5)
        | (go_at_call 10; refine (unhide HAG _ _ tb fb gb (.slice none 0 0) (D.take c2) [] m5 f5 c2 (by rw [List.append_nil]) (unhide HG5) (Um.ownT_nil 0 _).txs (fun a n c e => by cases e) (unhide HS10)).mono ?_; rintro e w11 ⟨rfl, m6, f6, hg6, h11⟩; rw [List.append_nil] at hg6; have HG6 := hide hg6; have HS11 := hide h11; clear h11 hg6))
      clear HS3 HS4 HS5 HS6 HS7 HS8 HS10 HO7 HO9 HG0 HG5 HV2 HF HV HO HBw
      go_loopw [91] (fun s91 wr => ∃ (k : Nat) (m : Sto) (f : For), s91 = .int .i64 k ∧ k ≤ c2 - c2 ∧ Hid (Gst b z (D.take (c2 + k)) m f) ∧ Hid (Sep w2 [sfT E sb fb mA fA, sfT E tb gb m f] (fun _ => wr.heap.size) wr)) (fun s91 _ => (c2 - c2) - (intOf s91).toNat)
      case atStart => exact ⟨0, m6, f6, rfl, Nat.zero_le _, HG6, HS11⟩
      case round =>
        clear HS11 HG6
        obtain ⟨k, m7, f7, rfl, hk, HG, HS⟩ := hrel
        by_cases hlt : k < c2 - c2
        · exfalso; omega
        · have hltz : ¬ (k : Int) < (c2 : Int) - (c2 : Int) := by omega
          have hltn : ¬ (k : Int) < ((c2 - c2 : Nat) : Int) := by omega
          obtain ⟨rfl, rfl⟩ := unhide HEND m7 f7 (by
            have q := unhide HG
            rw [show c2 + k = D.length by have := unhide HM; omega, List.take_length] at q
            exact q)
          clear HG HAG HEND
          go_wp2_with (first
            | (go_at_call 12; refine (unhide HFS _ tb fb gb (unhide HS)).mono ?_; clear HFS; rintro e v1 ⟨a, c, rfl, h1⟩; have HT1 := hide h1; clear h1)
            | (go_at_call 12; refine (unhide HFG _ tb gb _ (unhide HT1)).mono ?_; clear HFG; rintro e v2 ⟨a9, c9, rfl, h2⟩; have HT2 := hide h2; clear h2)
            | (go_at_call 17; refine (unhide HIN _ tb _ _ (unhide HT2)).mono ?_; clear HIN; rintro e v3 ⟨rfl, h3⟩; have HT3 := hide h3; clear h3))
          clear HS HT1 HT2
          go_loopw [125] (fun s125 wr => ∃ k : Nat, s125 = .int .i64 k ∧ k ≤ Q ∧ Hid (Sep w2 [scT sb mF (.slice a Q c) (upTo Q), scT tb mF (.slice a9 Q c9) (upTo Q)] (fun _ => wr.heap.size) wr)) (fun s125 _ => Q - (intOf s125).toNat)
          case atStart => exact ⟨0, rfl, Nat.zero_le _, HT3⟩
          case round =>
            clear HT3
            obtain ⟨i, rfl, hi, HS⟩ := hrel
            by_cases hlq : i < Q
            · have hlqz : (i : Int) < (Q : Int) := by omega
              have hi0 : 0 ≤ (i : Int) := by omega
              obtain ⟨g, off, rfl, hcx⟩ := unhide HLC _ tb a c _ i hlq (unhide HS)
              have HTK := hide (unhide HTX _ tb _ _ i hlq (unhide HS))
              have HUK := hide (fun W => unhide HTY W tb (.slice (some ⟨g, off, none⟩) Q c) (.slice a9 Q c9) i hlq)
              obtain ⟨T, hTe⟩ : ∃ T, strB (Um.frs (Um.rl (ofS (prt b D i)))) = T := ⟨_, rfl⟩
              rw [hTe] at HTK HUK
              rw [show ((i + 1 : Nat) : Int) = (i : Int) + 1 by omega] at HTK HUK hcx
              clear hTe HTX HTY HLC HPK HPL HOLD HCX
              go_wp2_with (first
                | (go_at_call 14; refine (unhide HTK).mono ?_; clear HTK; rintro e v5 ⟨rfl, k1⟩; have HK1 := hide k1; clear k1)
                | (go_at_call 14; refine (unhide HUK _ (unhide HK1)).mono ?_; rintro e v6 ⟨rfl, k2⟩; have HK2 := hide k2; clear k2))
              go_roundw
              case rel => exact ⟨i + 1, by go_num, by omega, HK2⟩
              case measure => simp [intOf]; omega
            · have hlqz : ¬ (i : Int) < (Q : Int) := by omega
              have HP1 := hide (unhide HPK _ tb _ _ (unhide HS))
              have HP2 := hide (unhide HPL _ tb _ _ (unhide HS))
              go_wp2_with (first
                | (go_at_call 18; refine (unhide HP1).mono ?_; clear HP1; rintro e v5 ⟨rfl, rfl⟩)
                | (go_at_call 18; refine (unhide HP2).mono ?_; clear HP2; rintro e v6 ⟨rfl, rfl⟩))
              go_ret
              exact ⟨by simp, unhide HOLD _ _ _ (unhide HS)⟩
    · go_wp2_with (first
        | (go_at_call 8; refine (unhide HNW).mono ?_; clear HNW; rintro e w3 ⟨rfl, h3⟩; have HS3 := hide h3; clear h3)
        | (go_at_call 8; refine (unhide HNX _ (unhide HS3)).mono ?_; clear HNX; rintro e w4 ⟨tb, rfl, h4⟩; have HS4 := hide h4; clear h4)
        | (go_at_call 9; refine (unhide HFN _ tb (unhide HS4)).mono ?_; clear HFN; rintro e w5 ⟨fb, rfl, h5⟩; have HS5 := hide h5; clear h5)
        | (go_at_call 9; refine (unhide HFM _ tb fb (unhide HS5)).mono ?_; clear HFM; rintro e w6 ⟨gb, rfl, h6⟩; have HS6 := hide h6; clear h6)
        | (go_at_call 11; refine (unhide HTW _ _ (unhide HS6)).mono ?_; clear HTW; rintro e w7 ⟨t, rfl, ho7, h7⟩; have HO7 := hide ho7; have HS7 := hide h7; clear h7 ho7)
        | (go_at_call 10; refine (unhide HAD _ _ tb fb gb t (unhide HO7) (unhide HS7)).mono ?_; clear HAD; rintro e w8 ⟨rfl, h8⟩; have HS8 := hide h8; clear h8)
        | (go_at_call 11; refine (unhide HTP _ _ (unhide HS8)).mono ?_; clear HTP; rintro e w9 ⟨t2, rfl, ho9, h9⟩; have HO9 := hide ho9; have HS9 := hide h9; clear h9 ho9)
        | (go_at_call 10; refine (unhide HAG _ _ tb fb gb t2 [] (D.take p) _ _ p (by rw [List.nil_append]) (unhide HG0) (unhide HO9).txs (own_new (unhide HO9)) (unhide HS9)).mono ?_; clear HS9; rintro e w10 ⟨rfl, m5, f5, hg5, h10⟩; rw [List.nil_append] at hg5; have HG5 := hide hg5; have HS10 := hide h10; clear h10 hg5)
        | (go_at_call 10; refine (unhide HAG _ _ tb fb gb (.slice none 0 0) (D.take p) [] m5 f5 p (by rw [List.append_nil]) (unhide HG5) (Um.ownT_nil 0 _).txs (fun a n c e => by cases e) (unhide HS10)).mono ?_; rintro e w11 ⟨rfl, m6, f6, hg6, h11⟩; rw [List.append_nil] at hg6; have HG6 := hide hg6; have HS11 := hide h11; clear h11 hg6))
      clear HS3 HS4 HS5 HS6 HS7 HS8 HS10 HO7 HO9 HG0 HG5 HV2 HF HV HO HBw
      go_loopw [91] (fun s91 wr => ∃ (k : Nat) (m : Sto) (f : For), s91 = .int .i64 k ∧ k ≤ M - p ∧ Hid (Gst b z (D.take (p + k)) m f) ∧ Hid (Sep w2 [sfT E sb fb mA fA, sfT E tb gb m f] (fun _ => wr.heap.size) wr)) (fun s91 _ => (M - p) - (intOf s91).toNat)
      case atStart => exact ⟨0, m6, f6, rfl, Nat.zero_le _, HG6, HS11⟩
      case round =>
        clear HS11 HG6
        obtain ⟨k, m7, f7, rfl, hk, HG, HS⟩ := hrel
        by_cases hlt : k < M - p
        · have hltz : (k : Int) < (M : Int) - (p : Int) := by omega
          have hltn : (k : Int) < ((M - p : Nat) : Int) := by omega
          have hk0 : 0 ≤ (k : Int) := by omega
          obtain ⟨g9, off9, x, ea, hx, hcx⟩ := unhide HCX _ _ wr (p + k) (by omega) (unhide HS)
          injection ea with ea
          injection ea with ea1 ea2
          subst ea1 ea2
          rw [← Nat.add_assoc] at hcx
          have HTK : D.take (p + k) ++ [x] = D.take (p + k + 1) := by rw [List.take_add_one, hx]; rfl
          have HTKh := hide HTK
          have HAK : Hid (Calls Tryd.prog 10 #[.pointer (some ⟨gb, 0, none⟩), .slice (some ⟨wr.heap.size, 0, none⟩) 1 1] (wr.alloc (.cells #[.string x] 9)) fun e w' => e = .returned .nilIface ∧ ∃ m' f', Gst b z (D.take (p + k) ++ [x]) m' f' ∧ Sep w2 [sfT E sb fb mA fA, sfT E tb gb m' f'] (fun _ => w'.heap.size) w') :=
            unhide HAG wr.heap.size _ tb fb gb _ (D.take (p + k)) [x] m7 f7 (p + k + 1) HTK (unhide HG) (txs_lit1 wr x) (fun a n c e => by injection e with e; injection e with e; subst e; exact Nat.le_refl _) ((unhide HS).below ((Below.refl _ wr).alloc (Nat.le_refl _) _))
          clear HTK HCX HAG HEND HFS HFG HIN HTX HTY HLC HPK HPL HOLD hx
          go_wp2_with (go_at_call 10; refine (unhide HAK).mono ?_; clear HAK; rintro e v1 ⟨rfl, m8, f8, g8, k1⟩; rw [unhide HTKh] at g8; have HG8 := hide g8; have HK1 := hide k1; clear k1 g8)
          go_roundw
          case rel => exact ⟨k + 1, m8, f8, by go_num, by omega, HG8, HK1⟩
          case measure => simp [intOf]; omega
        · have hltz : ¬ (k : Int) < (M : Int) - (p : Int) := by omega
          have hltn : ¬ (k : Int) < ((M - p : Nat) : Int) := by omega
          obtain ⟨rfl, rfl⟩ := unhide HEND m7 f7 (by
            have q := unhide HG
            rw [show p + k = D.length by have := unhide HM; omega, List.take_length] at q
            exact q)
          clear HG HAG HEND
          go_wp2_with (first
            | (go_at_call 12; refine (unhide HFS _ tb fb gb (unhide HS)).mono ?_; clear HFS; rintro e v1 ⟨a, c, rfl, h1⟩; have HT1 := hide h1; clear h1)
            | (go_at_call 12; refine (unhide HFG _ tb gb _ (unhide HT1)).mono ?_; clear HFG; rintro e v2 ⟨a9, c9, rfl, h2⟩; have HT2 := hide h2; clear h2)
            | (go_at_call 17; refine (unhide HIN _ tb _ _ (unhide HT2)).mono ?_; clear HIN; rintro e v3 ⟨rfl, h3⟩; have HT3 := hide h3; clear h3))
          clear HS HT1 HT2
          go_loopw [125] (fun s125 wr => ∃ k : Nat, s125 = .int .i64 k ∧ k ≤ Q ∧ Hid (Sep w2 [scT sb mF (.slice a Q c) (upTo Q), scT tb mF (.slice a9 Q c9) (upTo Q)] (fun _ => wr.heap.size) wr)) (fun s125 _ => Q - (intOf s125).toNat)
          case atStart => exact ⟨0, rfl, Nat.zero_le _, HT3⟩
          case round =>
            clear HT3
            obtain ⟨i, rfl, hi, HS⟩ := hrel
            by_cases hlq : i < Q
            · have hlqz : (i : Int) < (Q : Int) := by omega
              have hi0 : 0 ≤ (i : Int) := by omega
              obtain ⟨g, off, rfl, hcx⟩ := unhide HLC _ tb a c _ i hlq (unhide HS)
              have HTK := hide (unhide HTX _ tb _ _ i hlq (unhide HS))
              have HUK := hide (fun W => unhide HTY W tb (.slice (some ⟨g, off, none⟩) Q c) (.slice a9 Q c9) i hlq)
              obtain ⟨T, hTe⟩ : ∃ T, strB (Um.frs (Um.rl (ofS (prt b D i)))) = T := ⟨_, rfl⟩
              rw [hTe] at HTK HUK
              rw [show ((i + 1 : Nat) : Int) = (i : Int) + 1 by omega] at HTK HUK hcx
              clear hTe HTX HTY HLC HPK HPL HOLD HCX
              go_wp2_with (first
                | (go_at_call 14; refine (unhide HTK).mono ?_; clear HTK; rintro e v5 ⟨rfl, k1⟩; have HK1 := hide k1; clear k1)
                | (go_at_call 14; refine (unhide HUK _ (unhide HK1)).mono ?_; rintro e v6 ⟨rfl, k2⟩; have HK2 := hide k2; clear k2))
              go_roundw
              case rel => exact ⟨i + 1, by go_num, by omega, HK2⟩
              case measure => simp [intOf]; omega
            · have hlqz : ¬ (i : Int) < (Q : Int) := by omega
              have HP1 := hide (unhide HPK _ tb _ _ (unhide HS))
              have HP2 := hide (unhide HPL _ tb _ _ (unhide HS))
              go_wp2_with (first
                | (go_at_call 18; refine (unhide HP1).mono ?_; clear HP1; rintro e v5 ⟨rfl, rfl⟩)
                | (go_at_call 18; refine (unhide HP2).mono ?_; clear HP2; rintro e v6 ⟨rfl, rfl⟩))
              go_ret
              exact ⟨by simp, unhide HOLD _ _ _ (unhide HS)⟩
end Rs
end Go.Proofs.YtigffjbefbndnaaDoor
