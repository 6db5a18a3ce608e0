/- Layer 9: removeRuns; what write defers. -/
import Derived.Test.YtigffjbefbndnaaDoorFb
import Derived.Defers
import Derived.Deep.RegionHeld3
namespace Go.Proofs.YtigffjbefbndnaaDoor
open Go.RowKit
namespace Rs
open Sm (Tx ofS)
theorem remAll_take {m : Sto} {l : List Nat} {k n : Nat} (h : l[k]? = some n) : remAll m (l.take (k + 1)) = (rem (remAll m (l.take k)) n).2 := by
  have hk := (List.getElem?_eq_some_iff.1 h).1
  rw [List.take_succ_eq_append_getElem hk, (List.getElem?_eq_some_iff.1 h).2]
  simp [remAll]
theorem res_refl {w : World} {sb : Nat} {m : Sto} {F : Nat → Prop} (h : At w sb m F) : Res F w sb m w := h.res (Chg.refl _ _)
set_option maxRecDepth 100000 in
set_option maxHeartbeats 2000000 in
theorem remove_runs {w : World} {E : Nat → Addr} {B sb fb : Nat} {m : Sto} {F : Nat → Prop} {mv : Value} {l : List Nat} (V : Env w E B) (hF : ∀ b, F b → B ≤ b) (h : At w sb m F) (c0 : w.cell? ⟨fb, 0, none⟩ = some (.pointer (some ⟨sb, 0, none⟩))) (c3 : w.cell? ⟨fb, 3, none⟩ = some mv) (hl : w.ownsRow 0 3 1 mv l.length (nts l)) (n1 : ¬ F fb) (n2 : ∀ g, mv.ownBlock = some g → ¬ F g) (hn : ∀ n ∈ l, n ≤ 16777216) (hll : l.length ≤ 16777216) (hfb : fb < w.heap.size) :
    Calls Tryd.prog 35 #[.pointer (some ⟨fb, 0, none⟩)] w fun e w' => e = .returned (.tuple #[]) ∧ Res F w sb (remAll m l) w' := by
  have HB : Hid (B ≤ w.heap.size) := Nat.le_trans (hF sb h.own) (Nat.le_of_lt (h.lt sb h.own))
  have HRM : Hid (∀ (k n : Nat) (wr : World), l[k]? = some n → Res F w sb (remAll m (l.take k)) wr → Calls Tryd.prog 45 #[.pointer (some ⟨sb, 0, none⟩), .int .i64 n] wr fun e w' => e = .returned (errV E (rem (remAll m (l.take k)) n).1) ∧ Res F w sb (remAll m (l.take (k + 1))) w') := fun k n wr hk r => by
    have hb := unhide HB
    have q := remove_any (k := (n : Int)) r.1 (((V.below (r.2.below hb hF)).gs fun b hb2 => hb2.elim (hF b) fun y => by omega)) (by omega) (by have := hn n (List.mem_of_getElem? hk); omega)
    rw [remAll_take hk]
    exact q.mono fun e w' hh => ⟨hh.1, r.trans hh.2⟩
  obtain ⟨ao, cap, rfl⟩ := own_nums hl
  have HLC : Hid (∀ (k n : Nat) (wr : World), l[k]? = some n → Chg F w wr → ∃ g, ao = some ⟨g, 0, none⟩ ∧ wr.cell? ⟨g, k, none⟩ = some (.int .i64 n)) := fun k n wr hk c => by
    have hkl := (List.getElem?_eq_some_iff.1 hk).1
    obtain ⟨g, rfl⟩ : ∃ g, ao = some ⟨g, 0, none⟩ := by
      rcases hl.2 with ⟨_, e⟩ | ⟨g, cap, cur, e, _⟩
      · omega
      · injection e with e _ _; exact ⟨g, e⟩
    exact ⟨g, rfl, (World.cell?_of_block (a := ⟨g, k, none⟩) (c.block g (own_lt hl rfl).2 (n2 g rfl))).trans (nums_cell hl hk)⟩
  have HC0 : Hid (∀ wr : World, Chg F w wr → wr.cell? ⟨fb, 0, none⟩ = some (.pointer (some ⟨sb, 0, none⟩))) := fun wr c => (World.cell?_of_block (a := ⟨fb, 0, none⟩) (c.block fb hfb n1)).trans c0
  have H0 := hide (res_refl h)
  generalize hN : l.length = N at *
  have HN := hide hN
  clear V hF h hl n1 n2 hn hN
  go_enter Tryd.func35, Tryd.ntmps35
  go_wp2
  go_loopw [9] (fun s9 wr => ∃ k : Nat, s9 = .int .i64 k ∧ k ≤ N ∧ Hid (Res F w sb (remAll m (l.take k)) wr)) (fun s9 _ => N - (intOf s9).toNat)
  case atStart => exact ⟨0, rfl, Nat.zero_le _, by simpa [remAll] using H0⟩
  case round =>
    obtain ⟨k, rfl, hk, HR⟩ := hrel
    by_cases hlt : k < N
    · have hltz : (k : Int) < (N : Int) := by omega
      have hk0 : 0 ≤ (k : Int) := by omega
      obtain ⟨n, hx⟩ : ∃ n, l[k]? = some n := ⟨_, List.getElem?_eq_getElem (by rw [unhide HN]; exact hlt)⟩
      obtain ⟨g, rfl, hcx⟩ := unhide HLC k n wr hx (unhide HR).2
      have hc0 := unhide HC0 wr (unhide HR).2
      have HRK := hide (unhide HRM k n wr hx (unhide HR))
      clear hx
      go_wp2_with (go_at_call 45; refine (unhide HRK).mono ?_; rintro e w3 ⟨rfl, h3⟩; have HR3 := hide h3; clear h3)
      go_roundw
      case rel => exact ⟨k + 1, by go_num, by omega, HR3⟩
      case measure => simp [intOf]; omega
    · obtain rfl : k = N := by omega
      have hltz : ¬ (k : Int) < (k : Int) := by omega
      have HF : Hid (Res F w sb (remAll m l) wr) := by
        have := unhide HR
        rw [← unhide HN, List.take_length] at this
        exact this
      clear HR
      go_wp2
      go_end0
      exact ⟨rfl, unhide HF⟩
/-- nothing is deferred to a write that went well -/
theorem clos_nil {w : World} {eb : Nat} (u : FrameMode) (h1 : w.cell? ⟨eb + 1, 0, none⟩ = some .nilIface) :
    CallsD Tryd.prog 33 #[.pointer (some ⟨eb + 1, 0, none⟩), .pointer (some ⟨eb + 2, 0, none⟩), .pointer (some ⟨eb, 0, none⟩)] u w fun e u' w' => u' = u ∧ (e = .returned (.tuple #[]) ∧ w' = w) := by
  go_enter_d Tryd.func33, Tryd.ntmps33
  go_wp2
  go_end0
  exact ⟨rfl, rfl⟩
theorem FRes.drew {F G : Nat → Prop} {w : World} {E : Nat → Addr} {sb fb : Nat} {m : Sto} {f : For} {w' : World} (h : FRes F G w E sb fb m f w') : FRes F G w E sb fb m f w'.drew := by
  obtain ⟨F', G', q1, q2, q3, q4, q5, q6⟩ := h
  exact ⟨F', G', q1.kept (fun _ _ => rfl) (fun _ x => x) q1.lt, q2.kept (fun _ _ => rfl) (fun _ x => x) q2.lt, q3, q4, q5, q6.drew⟩
/-- the former died -/
theorem Bw.dead {w wr : World} {E : Nat → Addr} {F G : Nat → Prop} {sb fb eb c : Nat} {f : For} {A : List Tx} {bv mv ev wv : Value} {m : Sto} {F' : Nat → Prop} (h : Bw w wr F G sb fb eb f A bv mv ev wv m F') (hc : c ≠ 0) (hc2 : c ≠ 13) :
    (((((wr.setCell ⟨fb, 0, none⟩ (.pointer (some ⟨sb, 0, none⟩))).setCell ⟨fb, 1, none⟩ (.int .i64 0)).setCell ⟨fb, 2, none⟩ (.slice none 0 0)).setCell ⟨fb, 3, none⟩ (.slice none 0 0)).setCell ⟨fb, 4, none⟩ (er E c)).cell? ⟨eb + 1, 0, none⟩ = some ev ∧
    FRes F G w E sb fb m (f.die c) (((((wr.setCell ⟨fb, 0, none⟩ (.pointer (some ⟨sb, 0, none⟩))).setCell ⟨fb, 1, none⟩ (.int .i64 0)).setCell ⟨fb, 2, none⟩ (.slice none 0 0)).setCell ⟨fb, 3, none⟩ (.slice none 0 0)).setCell ⟨fb, 4, none⟩ (er E c)) := by
  obtain ⟨W, hW⟩ : ∃ W, (((((wr.setCell ⟨fb, 0, none⟩ (.pointer (some ⟨sb, 0, none⟩))).setCell ⟨fb, 1, none⟩ (.int .i64 0)).setCell ⟨fb, 2, none⟩ (.slice none 0 0)).setCell ⟨fb, 3, none⟩ (.slice none 0 0)).setCell ⟨fb, 4, none⟩ (er E c)) = W := ⟨_, rfl⟩
  have hlfb := h.lfb
  have l3 := h.lt3
  have hne : ∀ b, b ≠ fb → W.heap[b]? = wr.heap[b]? := fun b hb => by
    rw [← hW, Below.heap_setCell _ _ _ _ hb, Below.heap_setCell _ _ _ _ hb, Below.heap_setCell _ _ _ _ hb, Below.heap_setCell _ _ _ _ hb, Below.heap_setCell _ _ _ _ hb]
  have hz : W.heap.size = wr.heap.size := by rw [← hW]; simp
  have hfbW : W.heap[fb]? = some (.cells #[.pointer (some ⟨sb, 0, none⟩), .int .i64 0, .slice none 0 0, .slice none 0 0, er E c] 54 (0, 0)) := by
    rw [← hW, set_heap1 (set_heap1 (set_heap1 (set_heap1 (set_heap1 h.sto _) _) _) _) _]
    simp [forC]
  have hch : Chg (fun b => F b ∨ G b) w W := by
    rw [← hW]
    exact ((((h.chg.setCell (p := ⟨fb, 0, none⟩) (.inl (.inr hlfb.1)) _).setCell (p := ⟨fb, 1, none⟩) (.inl (.inr hlfb.1)) _).setCell (p := ⟨fb, 2, none⟩) (.inl (.inr hlfb.1)) _).setCell (p := ⟨fb, 3, none⟩) (.inl (.inr hlfb.1)) _).setCell (p := ⟨fb, 4, none⟩) (.inl (.inr hlfb.1)) _
  rw [hW]
  refine ⟨(World.cell?_of_block (a := ⟨eb + 1, 0, none⟩) (hne (eb + 1) (by omega))).trans h.cells.2.1, F', fun b => b = fb, h.at_.kept (fun b hF => hne b fun e => h.nfb (e ▸ hF)) (fun _ x => x) (fun b hF => by rw [hz]; exact h.at_.lt b hF), ⟨fun b hb => by rw [hb, hz]; omega, rfl, .inr (.inr ⟨hc, hc2, hfbW⟩)⟩, fun b hb e => h.nfb (e ▸ hb), fun b hb => (h.sub b hb).imp id fun y => ⟨y.1, by rw [hz]; exact y.2⟩, fun b hb => .inl (hb ▸ hlfb.1), hch⟩
theorem Bw.dead9 {w wr : World} {E : Nat → Addr} {F G : Nat → Prop} {sb fb eb c : Nat} {f : For} {A : List Tx} {bv mv ev wv : Value} {m : Sto} {F' : Nat → Prop} (h : Bw w wr F G sb fb eb f A bv mv ev wv m F') (hc : c ≠ 0) (hc2 : c ≠ 13) :
    (((((wr.setCell ⟨fb, 0, none⟩ (.pointer (some ⟨sb, 0, none⟩))).setCell ⟨fb, 1, none⟩ (.int .i64 0)).setCell ⟨fb, 2, none⟩ (.slice none 0 0)).setCell ⟨fb, 3, none⟩ (.slice none 0 0)).setCell ⟨fb, 4, none⟩ (er E c)).drew.cell? ⟨eb + 1, 0, none⟩ = some ev ∧
    FRes F G w E sb fb m (f.die c) (((((wr.setCell ⟨fb, 0, none⟩ (.pointer (some ⟨sb, 0, none⟩))).setCell ⟨fb, 1, none⟩ (.int .i64 0)).setCell ⟨fb, 2, none⟩ (.slice none 0 0)).setCell ⟨fb, 3, none⟩ (.slice none 0 0)).setCell ⟨fb, 4, none⟩ (er E c)).drew := by
  have q := h.dead (E := E) hc hc2
  generalize (((((wr.setCell ⟨fb, 0, none⟩ (.pointer (some ⟨sb, 0, none⟩))).setCell ⟨fb, 1, none⟩ (.int .i64 0)).setCell ⟨fb, 2, none⟩ (.slice none 0 0)).setCell ⟨fb, 3, none⟩ (.slice none 0 0)).setCell ⟨fb, 4, none⟩ (er E c)) = W at q ⊢
  exact ⟨q.1, q.2.drew⟩
set_option maxRecDepth 100000 in
set_option maxHeartbeats 2000000 in
/-- what is deferred to a write that failed -/
theorem clos_err {w wr : World} {E : Nat → Addr} {B : Nat} {F G : Nat → Prop} {sb fb eb c : Nat} {f : For} {A : List Tx} {bv mv : Value} {p : Option Addr} {m m2 : Sto} {F' : Nat → Prop} (V : Env w E B) (hF : ∀ b, F b → B ≤ b) (hG : ∀ b, G b → B ≤ b) (hB : B ≤ w.heap.size) (h : Bw w wr F G sb fb eb f A bv mv (er E c) (.pointer p) m F')
    (hdr : Calls Tryd.prog 34 #[.pointer p] wr fun e w' => e = .returned (.tuple #[]) ∧ ∃ F2, Bw w w' F G sb fb eb f A bv mv (er E c) (.pointer p) m2 F2) (hn : ∀ n ∈ f.made, n ≤ 16777216) (hll : f.made.length ≤ 16777216) (hc : c ≠ 0) (hc2 : c ≠ 13) (u : FrameMode) :
    CallsD Tryd.prog 33 #[.pointer (some ⟨eb + 1, 0, none⟩), .pointer (some ⟨eb + 2, 0, none⟩), .pointer (some ⟨eb, 0, none⟩)] u wr fun e u' w' => u' = u ∧ (e = .returned (.tuple #[]) ∧ w'.cell? ⟨eb + 1, 0, none⟩ = some (er E c) ∧ FRes F G w E sb fb (remAll m2 f.made) (f.die c) w') := by
  have HDR := hide hdr
  have HRR : Hid (∀ W, (∃ F2, Bw w W F G sb fb eb f A bv mv (er E c) (.pointer p) m2 F2) → Calls Tryd.prog 35 #[.pointer (some ⟨fb, 0, none⟩)] W fun e w' => e = .returned (.tuple #[]) ∧ ∃ F3, Bw w w' F G sb fb eb f A bv mv (er E c) (.pointer p) (remAll m2 f.made) F3) := fun W hW => by
    obtain ⟨F2, h2⟩ := hW
    obtain ⟨c0, c1, c2, c3, c4, cf⟩ := fcells h2.sto
    refine (remove_runs (h2.env V hF hG hB) (h2.lo hF hB) h2.at_ c0 c3 h2.int h2.nfb h2.nint hn hll (by have := h2.lfb.2; have := h2.lt3; omega)).mono ?_
    rintro e w' ⟨rfl, r⟩
    exact ⟨rfl, _, h2.res r⟩
  have HFI : Hid (∀ W, (∃ F3, Bw w W F G sb fb eb f A bv mv (er E c) (.pointer p) (remAll m2 f.made) F3) → _ ∧ _) := fun W hW => by
    obtain ⟨F3, h3⟩ := hW
    exact h3.dead9 (E := E) hc hc2
  obtain ⟨d0, d1, d2, -, -⟩ := h.cells
  clear V hF hG h hdr hn
  unfold er at *
  go_enter_d Tryd.func33, Tryd.ntmps33
  go_wp2_with (first
    | (go_at_call 34; refine (unhide HDR).mono ?_; rintro e w1 ⟨rfl, h1⟩; have HB1 := hide h1; obtain ⟨F1, h1⟩ := h1; obtain ⟨z0, z1, z2, -, -⟩ := h1.cells; clear h1)
    | (go_at_call 35; refine (unhide HRR _ (unhide HB1)).mono ?_; rintro e w2 ⟨rfl, h2⟩; have HB2 := hide h2; obtain ⟨F2, h2⟩ := h2; obtain ⟨y0, y1, y2, -, -⟩ := h2.cells; obtain ⟨x0, x1, x2, x3, x4, xf⟩ := fcells h2.sto; have hlf := h2.lfb.2; have hl3 := h2.lt3; clear h2))
  go_region
  have HD := hide (unhide HFI _ (unhide HB2))
  revert HD
  generalize World.drew _ = W9
  intro HD
  go_end0
  exact ⟨rfl, unhide HD⟩
end Rs
end Go.Proofs.YtigffjbefbndnaaDoor
