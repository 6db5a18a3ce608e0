/- Layer 9: Finish of a living former. -/
import Derived.Test.YtigffjbefbndnaaDoorFh
namespace Go.Proofs.YtigffjbefbndnaaDoor
open Go.RowKit
namespace Rs
open Sm (Tx ofS)
/-- behind Finish: the store, the closed former, and the list of the runs -/
def FinR (F G : Nat → Prop) (w : World) (sb fb : Nat) (m : Sto) (l : List Nat) (v : Value) (w' : World) : Prop :=
  ∃ F', At w' sb m F' ∧ FCl w' fb ∧ w'.ownsRow 0 3 1 v l.length (nts l) ∧ ¬ F' fb ∧ (∀ g, v.ownBlock = some g → ¬ F' g ∧ g ≠ fb ∧ Up G w w' g) ∧ (∀ b, F' b → Up F w w' b) ∧ Up G w w' fb ∧ Chg (fun b => F b ∨ G b) w w'
theorem fin_close {w wr : World} {E : Nat → Addr} {F G : Nat → Prop} {sb fb : Nat} {m : Sto} {f : For} (h : FRes F G w E sb fb m f wr) (hd : f.dead = 0) :
    ∃ a c, wr.cell? ⟨fb, 3, none⟩ = some (.slice a f.made.length c) ∧ fb < wr.heap.size ∧ (∃ x0 x1 x2 x4, wr.cell? ⟨fb, 0, none⟩ = some x0 ∧ wr.cell? ⟨fb, 1, none⟩ = some x1 ∧ wr.cell? ⟨fb, 2, none⟩ = some x2 ∧ wr.cell? ⟨fb, 4, none⟩ = some x4) ∧ (∀ k, wr.frozen? ⟨fb, k, none⟩ = false) ∧ FinR F G w sb fb m f.made (.slice a f.made.length c) (((((wr.setCell ⟨fb, 0, none⟩ (.pointer none)).setCell ⟨fb, 1, none⟩ (.int .i64 0)).setCell ⟨fb, 2, none⟩ (.slice none 0 0)).setCell ⟨fb, 3, none⟩ (.slice none 0 0)).setCell ⟨fb, 4, none⟩ .nilIface) := by
  obtain ⟨F', G', q1, q2, q3, q4, q5, q6⟩ := h
  obtain ⟨bv, mv, hf⟩ := q2.live hd
  obtain ⟨a, c, rfl⟩ := own_nums hf.int
  obtain ⟨x0, x1, x2, x3, x4, xf⟩ := fcells hf.sto
  obtain ⟨ap1, ap2, ap3⟩ := hf.apart
  have hfb := hf.lt fb hf.own
  refine ⟨a, c, x3, hfb, ⟨_, _, _, _, x0, x1, x2, x4⟩, xf, ?_⟩
  obtain ⟨W, hW⟩ : ∃ W, (((((wr.setCell ⟨fb, 0, none⟩ (.pointer none)).setCell ⟨fb, 1, none⟩ (.int .i64 0)).setCell ⟨fb, 2, none⟩ (.slice none 0 0)).setCell ⟨fb, 3, none⟩ (.slice none 0 0)).setCell ⟨fb, 4, none⟩ .nilIface) = W := ⟨_, rfl⟩
  have hne : ∀ b, b ≠ fb → W.heap[b]? = wr.heap[b]? := fun b hb => by
    rw [← hW, Below.heap_setCell _ _ _ _ hb, Below.heap_setCell _ _ _ _ hb, Below.heap_setCell _ _ _ _ hb, Below.heap_setCell _ _ _ _ hb, Below.heap_setCell _ _ _ _ hb]
  have hz : W.heap.size = wr.heap.size := by rw [← hW]; simp
  have hfbW : FCl W fb := by
    unfold FCl
    rw [← hW, set_heap1 (set_heap1 (set_heap1 (set_heap1 (set_heap1 hf.sto _) _) _) _) _]
    simp [forC]
  have hu : ∀ b, G' b → Up G w W b := fun b hb => (q5 b hb).imp id fun z => ⟨z.1, by rw [hz]; exact z.2⟩
  have hfu : (fun b => F b ∨ G b) fb ∨ w.heap.size ≤ fb := (q5 fb hf.own).elim (fun y => .inl (.inr y)) fun y => .inr y.1
  have hch : Chg (fun b => F b ∨ G b) w W := by
    rw [← hW]
    exact ((((q6.setCell (p := ⟨fb, 0, none⟩) hfu _).setCell (p := ⟨fb, 1, none⟩) hfu _).setCell (p := ⟨fb, 2, none⟩) hfu _).setCell (p := ⟨fb, 3, none⟩) hfu _).setCell (p := ⟨fb, 4, none⟩) hfu _
  rw [hW]
  exact ⟨F', q1.kept (fun b hF => hne b fun e => q3 b hF (e ▸ hf.own)) (fun _ y => y) (fun b hF => by rw [hz]; exact q1.lt b hF), hfbW, own_kept hf.int fun g hg => hne g fun e => ap2 (e ▸ hg), fun hF => q3 fb hF hf.own, fun g hg => ⟨fun hF => q3 g hF (hf.intG g hg), fun e => ap2 (e ▸ hg), hu g (hf.intG g hg)⟩, fun b hF => (q4 b hF).imp id fun z => ⟨z.1, by rw [hz]; exact z.2⟩, hu fb hf.own, hch⟩
theorem zero_former (w : World) : (zeroValue 54).run Tryd.prog w = .ok (.agg #[.pointer none, .int .i64 0, .slice none 0 0, .slice none 0 0, .nilIface]) w := by kernel_rfl
section
variable {w : World} {E : Nat → Addr} {B : Nat} {F G : Nat → Prop} {sb fb : Nat} {m : Sto} {f : For} {bv mv : Value}
set_option maxRecDepth 100000 in
set_option maxHeartbeats 4000000 in
theorem finish_ok (K : Bg w E B F G) (h : At w sb m F) (hf : FIn w sb fb f G bv mv) (hd : ∀ b, F b → ¬ G b) (ok : f.Ok m) (hful : f.buf.length < f.size) {m' : Sto} {f' : For} (hR : fins m f = (0, m', f')) :
    Calls Tryd.prog 12 #[.pointer (some ⟨fb, 0, none⟩)] w fun e w' => ∃ a c, e = .returned (.tuple #[.slice a f'.made.length c, .nilIface]) ∧ FinR F G w sb fb m' f'.made (.slice a f'.made.length c) w' := by
  have HCK := hide (fcheck_live hf)
  have hzw := zero_former
  obtain ⟨x0, x1, x2, x3, x4, xf⟩ := fcells hf.sto
  obtain ⟨a2, c2, rfl⟩ := hf.row.slice
  have hs2 := ok.s2
  by_cases hb : f.buf = []
  · have e : fins m f = (0, m, f) := by unfold fins; rw [if_pos hb]
    rw [e] at hR
    injection hR with _ hR
    injection hR with r1 r2
    subst r1 r2
    obtain ⟨a, c, d3, d4, ⟨y0, y1, y2, y4, z0, z1, z2, z4⟩, zf, hfin⟩ := fin_close (FRes.start h (hf.at (E := E) ok.live) hd) ok.live
    have HF := hide hfin
    have hl0 : f.buf.length = 0 := by rw [hb]; rfl
    rw [hl0] at x2
    clear K h hf hd ok hful hb e hfin x0 x1 x3 x4 xf z2 hl0
    go_enter Tryd.func12, Tryd.ntmps12
    go_wp2_with (go_at_call 21; refine (unhide HCK).mono ?_; rintro e w1 ⟨rfl, hw1⟩; have hw2 := hw1.symm; subst hw2; clear hw1)
    go_ret2
    exact ⟨a, c, rfl, unhide HF⟩
  · have e : fins m f = fwr m f := by unfold fins; rw [if_neg hb]
    rw [e] at hR
    have hp : 0 < f.buf.length := List.length_pos_iff.2 hb
    have hpz : 0 < (f.buf.length : Int) := by omega
    have hdl : f'.dead = 0 := by have := (ok.wrote (by rw [hR])).1.live; rw [hR] at this; exact this
    have HWR : Hid (Calls Tryd.prog 24 #[.pointer (some ⟨fb, 0, none⟩)] w fun e w' => e = .returned .nilIface ∧ FRes F G w E sb fb m' f' w') := by
      have r := fres_write K (FRes.start h (hf.at ok.live) hd) ok hp (by omega)
      rw [hR] at r
      exact r
    have HDL := hide hdl
    clear K h hf hd ok hful hb e hR x0 x1 x3 x4 xf hdl
    go_enter Tryd.func12, Tryd.ntmps12
    go_wp2_with (first
      | (go_at_call 21; refine (unhide HCK).mono ?_; rintro e w1 ⟨rfl, hw1⟩; have hw2 := hw1.symm; subst hw2; clear hw1)
      | (go_at_call 24; refine (unhide HWR).mono ?_; rintro e w5 ⟨rfl, h5⟩; obtain ⟨a, c, d3, d4, ⟨y0, y1, y2, y4, z0, z1, z2, z4⟩, zf, hfin⟩ := fin_close h5 (unhide HDL); have HF := hide hfin; clear h5 hfin))
    go_ret2
    exact ⟨a, c, rfl, unhide HF⟩
set_option maxRecDepth 100000 in
set_option maxHeartbeats 4000000 in
theorem finish_fail (K : Bg w E B F G) (h : At w sb m F) (hf : FIn w sb fb f G bv mv) (hd : ∀ b, F b → ¬ G b) (ok : f.Ok m) (hful : f.buf.length < f.size) {c : Nat} {m' : Sto} {f' : For} (hR : fins m f = (c, m', f')) (hc : c ≠ 0) :
    Calls Tryd.prog 12 #[.pointer (some ⟨fb, 0, none⟩)] w fun e w' => e = .returned (.tuple #[.slice none 0 0, er E c]) ∧ FRes F G w E sb fb m' f' w' := by
  have HCK := hide (fcheck_live hf)
  obtain ⟨x0, x1, x2, x3, x4, xf⟩ := fcells hf.sto
  obtain ⟨a2, c2, rfl⟩ := hf.row.slice
  have hs2 := ok.s2
  have hb : f.buf ≠ [] := fun hb => by
    have e : fins m f = (0, m, f) := by unfold fins; rw [if_pos hb]
    rw [e] at hR
    injection hR with hR _
    exact hc hR.symm
  have e : fins m f = fwr m f := by unfold fins; rw [if_neg hb]
  rw [e] at hR
  have hp : 0 < f.buf.length := List.length_pos_iff.2 hb
  have hpz : 0 < (f.buf.length : Int) := by omega
  have HWR : Hid (Calls Tryd.prog 24 #[.pointer (some ⟨fb, 0, none⟩)] w fun e w' => e = .returned (er E c) ∧ FRes F G w E sb fb m' f' w') := by
    have r := fres_write K (FRes.start h (hf.at ok.live) hd) ok hp (by omega)
    rw [hR] at r
    rw [← errV_er hc]
    exact r
  unfold er at *
  clear K h hf hd ok hful hb e hR x0 x1 x3 x4 xf
  go_enter Tryd.func12, Tryd.ntmps12
  go_wp2_with (first
    | (go_at_call 21; refine (unhide HCK).mono ?_; rintro e w1 ⟨rfl, hw1⟩; have hw2 := hw1.symm; subst hw2; clear hw1)
    | (go_at_call 24; refine (unhide HWR).mono ?_; rintro e w5 ⟨rfl, h5⟩; have HF := hide h5; clear h5))
  go_ret2
  exact ⟨rfl, unhide HF⟩
end
end Rs
end Go.Proofs.YtigffjbefbndnaaDoor
