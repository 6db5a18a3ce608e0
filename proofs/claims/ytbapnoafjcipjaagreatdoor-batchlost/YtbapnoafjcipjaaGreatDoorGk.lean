/- Layer 9: a former that died or is closed; Break beside a former. -/
import Derived.Test.YtbapnoafjcipjaaGreatDoorFn
import Derived.Test.YtbapnoafjcipjaaGreatDoorRxb
import Derived.Test.YtbapnoafjcipjaaGreatDoorRgu
import Derived.Test.YtbapnoafjcipjaaGreatDoorGj
namespace Go.Proofs.YtbapnoafjcipjaaGreatDoor
open Go.RowKit
namespace Rs
open Sm (Tx ofS)
set_option maxRecDepth 100000 in
theorem stop_add {w : World} {E : Nat → Addr} {fb c : Nat} {v : Value} (h : Calls Tryz.prog 32 #[.pointer (some ⟨fb, 0, none⟩)] w fun e w' => e = .returned (er E c) ∧ w' = w) :
    Calls Tryz.prog 15 #[.pointer (some ⟨fb, 0, none⟩), v] w fun e w' => e = .returned (er E c) ∧ w' = w := by
  have HC := hide h
  clear h
  unfold er at *
  go_enter Tryz.func15, Tryz.ntmps15
  go_wp2_with (go_at_call 32; refine (unhide HC).mono ?_; rintro e w1 ⟨rfl, hw1⟩; have hw2 := hw1.symm; subst hw2; clear hw1)
  go_ret
  exact ⟨rfl, rfl⟩
set_option maxRecDepth 100000 in
theorem stop_finish {w : World} {E : Nat → Addr} {fb c : Nat} (h : Calls Tryz.prog 32 #[.pointer (some ⟨fb, 0, none⟩)] w fun e w' => e = .returned (er E c) ∧ w' = w) :
    Calls Tryz.prog 19 #[.pointer (some ⟨fb, 0, none⟩)] w fun e w' => e = .returned (.tuple #[.slice none 0 0, er E c]) ∧ w' = w := by
  have HC := hide h
  clear h
  unfold er at *
  go_enter Tryz.func19, Tryz.ntmps19
  go_wp2_with (go_at_call 32; refine (unhide HC).mono ?_; rintro e w1 ⟨rfl, hw1⟩; have hw2 := hw1.symm; subst hw2; clear hw1)
  go_ret2
  exact ⟨rfl, rfl⟩
/-- a store, a closed former of it, and a list of numbers -/
def sdT (sb fb : Nat) (m : Sto) (v : Value) (l : List Nat) : Thing :=
  ⟨fun w H => (∀ b, H b → b < w.heap.size) ∧ ∃ F, At w sb m F ∧ FCl w fb ∧ w.ownsRow 0 3 1 v l.length (nts l) ∧ ¬ F fb ∧ H fb ∧ (∀ b, F b → H b) ∧ (∀ g, v.ownBlock = some g → H g ∧ g ≠ fb), fun h => h.1, fun {w w' F G} h a b c => by
    obtain ⟨h0, F1, h1, h2, h3, h4, h5, h6, h7⟩ := h
    exact ⟨c, F1, h1.kept (fun k hk => a k (h6 k hk)) (fun _ x => x) (fun k hk => c k (b k (h6 k hk))), (a fb h5).trans h2, own_kept h3 fun g hg => a g (h7 g hg).1, h4, b fb h5, fun k hk => b k (h6 k hk), fun g hg => ⟨b g (h7 g hg).1, (h7 g hg).2⟩⟩⟩
section
variable {w wr W : World} {E : Nat → Addr} {L : List Thing} {D : Nat → Nat} {i sb fb : Nat} {m : Sto} {f : For}
/-- Break of a store that has a former -/
theorem sep_brk (h : Sep w L D wr) (hi : L[i]? = some (sfT E sb fb m f)) (n : Int) (hn : n ≤ 9223372036854775807) :
    Calls Tryz.prog 13 #[.pointer (some ⟨sb, 0, none⟩), .int .i64 n] wr fun e w' => e = .returned (.tuple #[]) ∧ Sep w (L.set i (sfT E sb fb (m.brk n) f)) (fun _ => w'.heap.size) w' := by
  obtain ⟨H, h1, h2, h3, h4⟩ := h.call (Below.refl _ _) hi
  obtain ⟨h0, F, G, k1, k2, k3, k4⟩ := h1
  refine (break_any k1 n hn).mono ?_
  rintro e w' ⟨rfl, hr⟩
  obtain ⟨q1, q2⟩ := hr
  refine ⟨rfl, ?_⟩
  have hc : Chg H wr w' := q2.mono fun b hb => k4 b (.inl hb)
  have hT : (sfT E sb fb (m.brk n) f).P w' (Up H wr w') := ⟨fun b hb => hb.elim (fun y => Nat.lt_of_lt_of_le (h0 b y) hc.size) fun y => y.2, _, G, q1, k2.kept (fun b hb => q2.block b (k2.lt b hb) fun hF => k3 b hF hb) (fun _ x => x) (fun b hb => Nat.lt_of_lt_of_le (k2.lt b hb) hc.size), fun b hb hg => ?_, fun b hb => ?_⟩
  · exact (h4 _ w' hT hc w' (Chg.refl _ _)).reset
  · rcases hb with hb | hb
    · exact k3 b hb hg
    · have := k2.lt b hg; omega
  · rcases hb with hb | hb
    · exact hb.imp (fun y => k4 b (.inl y)) id
    · exact .inl (k4 b (.inr hb))
/-- Finish, where it goes well -/
theorem sep_done (V : Env w E w.heap.size) (h : Sep w L D wr) (hi : L[i]? = some (sfT E sb fb m f)) (ok : f.Ok m) (hful : f.buf.length < f.size) {m' : Sto} {f' : For} (hR : fins m f = (0, m', f')) :
    Calls Tryz.prog 19 #[.pointer (some ⟨fb, 0, none⟩)] wr fun e w' => ∃ a c, e = .returned (.tuple #[.slice a f'.made.length c, .nilIface]) ∧ Sep w (L.set i (sdT sb fb m' (.slice a f'.made.length c) f'.made)) (fun _ => w'.heap.size) w' := by
  obtain ⟨H, h1, h2, h3, h4⟩ := h.call (Below.refl _ _) hi
  obtain ⟨F, G, k1, k2, k3, k4, K⟩ := sf_parts V h3 h1 fun b hb => (h2 b hb).1
  obtain ⟨bv, mv, hf⟩ := k2.live ok.live
  refine (finish_ok K k1 hf k3 ok hful hR).mono ?_
  rintro e w' ⟨a, c, rfl, F', q1, q2, q3, q4, q5, q6, q7, q8⟩
  refine ⟨a, c, rfl, ?_⟩
  have hc : Chg H wr w' := q8.mono k4
  have hlt : ∀ b, Up H wr w' b → b < w'.heap.size := fun b hb => hb.elim (fun y => Nat.lt_of_lt_of_le (h2 b y).2.1 hc.size) fun y => y.2
  have hT : (sdT sb fb m' (.slice a f'.made.length c) f'.made).P w' (Up H wr w') := ⟨hlt, F', q1, q2, q3, q4, q7.imp (fun y => k4 fb (.inr y)) id, fun b hb => (q6 b hb).imp (fun y => k4 b (.inl y)) id, fun g hg => ⟨((q5 g hg).2.2).imp (fun y => k4 g (.inr y)) id, (q5 g hg).2.1⟩⟩
  exact (h4 _ w' hT hc w' (Chg.refl _ _)).reset
/-- Finish, where it fails -/
theorem sep_fail (V : Env w E w.heap.size) (h : Sep w L D wr) (hi : L[i]? = some (sfT E sb fb m f)) (ok : f.Ok m) (hful : f.buf.length < f.size) {c : Nat} {m' : Sto} {f' : For} (hR : fins m f = (c, m', f')) (hc : c ≠ 0) :
    Calls Tryz.prog 19 #[.pointer (some ⟨fb, 0, none⟩)] wr fun e w' => e = .returned (.tuple #[.slice none 0 0, er E c]) ∧ Sep w (L.set i (sfT E sb fb m' f')) (fun _ => w'.heap.size) w' := by
  obtain ⟨H, h1, h2, h3, h4⟩ := h.call (Below.refl _ _) hi
  obtain ⟨F, G, k1, k2, k3, k4, K⟩ := sf_parts V h3 h1 fun b hb => (h2 b hb).1
  obtain ⟨bv, mv, hf⟩ := k2.live ok.live
  refine (finish_fail K k1 hf k3 ok hful hR hc).mono ?_
  rintro e w' ⟨rfl, r⟩
  obtain ⟨H', r1, r2, r3⟩ := sf_of h1.1 k4 r
  refine ⟨rfl, ?_⟩
  have q := h4 (sfT E sb fb m' f') w' ((sfT E sb fb m' f').kept r1 (fun _ _ => rfl) r2 (fun b hb => hb.elim (fun y => Nat.lt_of_lt_of_le (h2 b y).2.1 r3.size) fun y => y.2)) r3 w' (Chg.refl _ _)
  exact q.reset
/-- a dead former: Add and Finish -/
theorem sep_dead (h : Sep w L D wr) (hi : L[i]? = some (sfT E sb fb m f)) (hd : f.dead ≠ 0) (h13 : f.dead ≠ 13) : FDe wr E sb fb f.dead := by
  obtain ⟨H, h1, h2, h3, h4⟩ := h.call (Below.refl _ _) hi
  obtain ⟨h0, F, G, k1, k2, k3, k4⟩ := h1
  rcases k2.st with ⟨e, _⟩ | ⟨e, _⟩ | ⟨_, _, k⟩
  · exact absurd e hd
  · exact absurd e h13
  · exact k
theorem sep_sf (h : Sep w L D wr) (hi : L[i]? = some (sfT E sb fb m f)) : ∃ F, At wr sb m F := by
  obtain ⟨H, h1, h2, h3, h4⟩ := h.call (Below.refl _ _) hi
  obtain ⟨h0, F, G, k1, k2, k3, k4⟩ := h1
  exact ⟨F, k1⟩
theorem sep_sd (h : Sep w L D wr) {v : Value} {l : List Nat} (hi : L[i]? = some (sdT sb fb m v l)) : (∃ F, At wr sb m F) ∧ FCl wr fb := by
  obtain ⟨H, h1, h2, h3, h4⟩ := h.call (Below.refl _ _) hi
  obtain ⟨h0, F, k1, k2, _⟩ := h1
  exact ⟨⟨F, k1⟩, k2⟩
/-- the former is let go -/
theorem sep_loose (h : Sep w L D wr) (hi : L[i]? = some (sfT E sb fb m f)) : Sep w (L.set i (stoT sb m)) (fun _ => wr.heap.size) wr :=
  h.turn hi fun H hH _ => by
    obtain ⟨h0, F, G, k1, k2, k3, k4⟩ := hH
    exact ⟨F, k1, fun b hb => .inl (k4 b (.inl hb)), Chg.refl _ _⟩
end
end Rs
end Go.Proofs.YtbapnoafjcipjaaGreatDoor
/- Layer 9: Drop of a closed former. -/
namespace Go.Proofs.YtbapnoafjcipjaaGreatDoor
open Go.RowKit
namespace Rs
theorem clcells {w : World} {fb : Nat} (h : FCl w fb) : w.cell? ⟨fb, 0, none⟩ = some (.pointer none) ∧ w.cell? ⟨fb, 1, none⟩ = some (.int .i64 0) ∧ w.cell? ⟨fb, 2, none⟩ = some (.slice none 0 0) ∧ w.cell? ⟨fb, 3, none⟩ = some (.slice none 0 0) ∧ w.cell? ⟨fb, 4, none⟩ = some .nilIface ∧ (∀ k, w.frozen? ⟨fb, k, none⟩ = false) ∧ fb < w.heap.size := by
  unfold FCl at h
  refine ⟨?_, ?_, ?_, ?_, ?_, fun k => ?_, (Array.getElem?_eq_some_iff.1 h).1⟩ <;> simp [World.cell?, World.frozen?, h]
set_option maxRecDepth 100000 in
theorem remove_none {w : World} {fb : Nat} (h : FCl w fb) :
    Calls Tryz.prog 37 #[.pointer (some ⟨fb, 0, none⟩)] w fun e w' => e = .returned (.tuple #[]) ∧ w' = w := by
  obtain ⟨c0, c1, c2, c3, c4, cf, hl⟩ := clcells h
  clear h
  go_enter Tryz.func37, Tryz.ntmps37
  go_wp2
  go_loop [9] (fun i => i = .int .i64 0) (fun _ => 0)
  case atStart => rfl
  case round =>
    subst hrel
    go_wp2
    go_end0
    exact ⟨rfl, rfl⟩
set_option maxRecDepth 100000 in
set_option maxHeartbeats 1000000 in
theorem drop_closed9 {w : World} {fb : Nat} (h : FCl w fb) :
    Calls Tryz.prog 21 #[.pointer (some ⟨fb, 0, none⟩)] w fun e w' => e = .returned (.tuple #[]) ∧ FCl w' fb ∧ Chg (fun b => b = fb) w w' ∧ w'.heap.size = w.heap.size := by
  obtain ⟨c0, c1, c2, c3, c4, cf, hl⟩ := clcells h
  have HR := hide (remove_none h)
  have hzw := zero_former
  have HF : Hid (FCl (((((w.setCell ⟨fb, 0, none⟩ (.pointer none)).setCell ⟨fb, 1, none⟩ (.int .i64 0)).setCell ⟨fb, 2, none⟩ (.slice none 0 0)).setCell ⟨fb, 3, none⟩ (.slice none 0 0)).setCell ⟨fb, 4, none⟩ .nilIface) fb ∧ Chg (fun b => b = fb) w (((((w.setCell ⟨fb, 0, none⟩ (.pointer none)).setCell ⟨fb, 1, none⟩ (.int .i64 0)).setCell ⟨fb, 2, none⟩ (.slice none 0 0)).setCell ⟨fb, 3, none⟩ (.slice none 0 0)).setCell ⟨fb, 4, none⟩ .nilIface) ∧ (((((w.setCell ⟨fb, 0, none⟩ (.pointer none)).setCell ⟨fb, 1, none⟩ (.int .i64 0)).setCell ⟨fb, 2, none⟩ (.slice none 0 0)).setCell ⟨fb, 3, none⟩ (.slice none 0 0)).setCell ⟨fb, 4, none⟩ .nilIface).heap.size = w.heap.size) := by
    refine ⟨?_, ?_, by simp⟩
    · unfold FCl at h ⊢
      rw [set_heap1 (set_heap1 (set_heap1 (set_heap1 (set_heap1 h _) _) _) _) _]
      simp
    · exact (((((Chg.refl (fun b => b = fb) w).setCell (p := ⟨fb, 0, none⟩) (.inl rfl) _).setCell (p := ⟨fb, 1, none⟩) (.inl rfl) _).setCell (p := ⟨fb, 2, none⟩) (.inl rfl) _).setCell (p := ⟨fb, 3, none⟩) (.inl rfl) _).setCell (p := ⟨fb, 4, none⟩) (.inl rfl) _
  clear h
  go_enter Tryz.func21, Tryz.ntmps21
  go_wp2_with (go_at_call 37; refine (unhide HR).mono ?_; rintro e w1 ⟨rfl, hw1⟩; have hw2 := hw1.symm; subst hw2; clear hw1)
  go_end0
  exact ⟨rfl, unhide HF⟩
section
variable {w wr W : World} {E : Nat → Addr} {L : List Thing} {D : Nat → Nat} {i sb fb : Nat} {m : Sto}
theorem sep_drop (h : Sep w L D wr) {v : Value} {l : List Nat} (hi : L[i]? = some (sdT sb fb m v l)) :
    Calls Tryz.prog 21 #[.pointer (some ⟨fb, 0, none⟩)] wr fun e w' => e = .returned (.tuple #[]) ∧ Sep w (L.set i (sdT sb fb m v l)) (fun _ => w'.heap.size) w' := by
  refine (drop_closed9 (sep_sd h hi).2).mono ?_
  rintro e w' ⟨rfl, q1, q2, q3⟩
  refine ⟨rfl, h.turn hi fun H hH _ => ?_⟩
  obtain ⟨h0, F, k1, k2, k4, k5, k6, k7, k8⟩ := hH
  have hb : ∀ b, H b → b ≠ fb → w'.heap[b]? = wr.heap[b]? := fun b hb hn => q2.block b (h0 b hb) hn
  exact ⟨H, ⟨fun b hb => by rw [q3]; exact h0 b hb, F, k1.kept (fun b hF => hb b (k7 b hF) fun e => k5 (e ▸ hF)) (fun _ x => x) (fun b hF => by rw [q3]; exact h0 b (k7 b hF)), q1, own_kept k4 fun g hg => hb g (k8 g hg).1 (k8 g hg).2, k5, k6, k7, k8⟩, fun _ x => .inl x, q2.mono fun b e => e ▸ k6⟩
end
end Rs
end Go.Proofs.YtbapnoafjcipjaaGreatDoor
/- Layer 9: the document's store and former among other things in memory. -/
namespace Go.Proofs.YtbapnoafjcipjaaGreatDoor
open Go.RowKit
namespace Rs
open Sm (Tx ofS)
/-- the end of a region whose slots are settled -/
def OneS (A : Act) (S : World → Prop) (e : Exit) (a : Act) (w : World) : Prop := e = .normal ∧ a = A ∧ S w
theorem ones_intro {A : Act} {S : World → Prop} {W : World} (h : S W) : NoPanic (OneS A S) .normal A W := ⟨rfl, rfl, h⟩
theorem wp_ones {P : Program} {c : Code} {Q : Exit → Act → World → Prop} {a A : Act} {w : World} {S : World → Prop} (h : c.wp P (NoPanic (OneS A S)) a w) (hQ : ∀ W, S W → Q .normal A W) : c.wp P Q a w :=
  Code.wp_mono (fun e a w hh => by
    have h2 := NoPanic.imp e a w hh
    obtain ⟨rfl, rfl, h3⟩ := h2
    exact hQ _ h3) h
/-- blocks that nobody asks for -/
def anyT : Thing := ⟨fun w H => ∀ b, H b → b < w.heap.size, fun h => h, fun _ _ _ c => c⟩
/-- the document's store -/
def ddT (sb : Nat) (m : Sto) : Thing := ⟨fun w H => ∃ rv sl, DIn w sb m H rv sl, fun ⟨_, _, h⟩ => h.lt, fun ⟨rv, sl, h⟩ a b c => ⟨rv, sl, h.kept a b c⟩⟩
/-- the document's store and a former of it, that lives or died of c -/
def dgT (sb gb c : Nat) (m : Sto) (f : For) : Thing :=
  ⟨fun w H => (∀ b, H b → b < w.heap.size) ∧ ((c = 0 ∧ ∃ S hv mv, GIn w sb gb m f H S hv mv) ∨ (c ≠ 0 ∧ GDd w sb gb m c H)), fun h => h.1, fun {w w' F G} h a b c' => by
    refine ⟨c', ?_⟩
    rcases h.2 with ⟨e, S, hv, mv, k⟩ | ⟨e, ⟨S, rv, sl, d1, d2, d3⟩, ⟨hv, mv, s, k2⟩, k3⟩
    · obtain ⟨rv, sl, hd⟩ := k.sto
      exact .inl ⟨e, S, hv, mv, ⟨⟨rv, sl, hd.kept (fun x hx => a x (k.sub x hx)) (fun _ y => y) fun x hx => c' x (b x (k.sub x hx))⟩, k.blk.kept (a gb k.own), k.hel.kept fun g hg => a g (k.hF g hg).1, own_kept k.mad fun g hg => a g (k.mF g hg).1, fun x hx => b x (k.sub x hx), b gb k.own, k.ngb, fun g hg => ⟨b g (k.hF g hg).1, (k.hF g hg).2⟩, fun g hg => ⟨b g (k.mF g hg).1, (k.mF g hg).2⟩, c'⟩⟩
    · exact .inr ⟨e, ⟨S, rv, sl, d1.kept (fun x hx => a x (d2 x hx)) (fun _ y => y) fun x hx => c' x (b x (d2 x hx)), fun x hx => b x (d2 x hx), d3⟩, ⟨hv, mv, s, k2.kept (a gb k3)⟩, b gb k3⟩⟩
section
variable {w wr W : World} {L : List Thing} {D : Nat → Nat} {i sb gb : Nat} {m : Sto} {f : For}
theorem sep_dnew (h : Sep w L D wr) (c : Int) (h1 : -9223372036854775808 ≤ c) (h2 : c ≤ 9223372036854775807) :
    Calls Tryz.prog 6 #[.int .i64 c] wr fun e w' => e = .returned (.pointer (some ⟨wr.heap.size, 0, none⟩)) ∧ Sep w (L ++ [ddT wr.heap.size (newS c)]) (fun _ => w'.heap.size) w' ∧ w'.heap.size = wr.heap.size + 1 := by
  refine (dnew_any c wr h1 h2).mono ?_
  rintro e w' ⟨rfl, h3, h4, h5⟩
  exact ⟨rfl, h.add (T := ddT wr.heap.size (newS c)) ⟨_, _, h3⟩ (fun b hb => by rw [hb]; exact Nat.le_refl _) h4, h5⟩
/-- the document's former -/
theorem sep_gnew (h : Sep w L D wr) (hi : L[i]? = some (ddT sb m)) (b : Nat) (h1 : 1 ≤ b) (h2 : b ≤ 65536) :
    Calls Tryz.prog 12 #[.int .i64 b] wr fun e w' => ∃ gb, e = .returned (.tuple #[.pointer (some ⟨gb, 0, none⟩), .int .i64 0]) ∧ Sep w (L.set i (dgT sb gb 0 m ⟨b, [], [], 0⟩)) (fun _ => w'.heap.size) w' := by
  refine (gnew b wr h1 h2).mono ?_
  rintro e w' ⟨rfl, hg, hb, hlt⟩
  refine ⟨_, rfl, h.turn hi fun H hH _ => ?_⟩
  obtain ⟨rv, sl, hd⟩ := hH
  have hl : ∀ b, Up H wr w' b → b < w'.heap.size := fun k hk => hk.elim (fun y => Nat.lt_of_lt_of_le (hd.lt k y) hb.size) fun y => y.2
  refine ⟨Up H wr w', ⟨hl, .inl ⟨rfl, H, _, _, ⟨⟨rv, sl, hd.kept (fun k hk => hb.block k (hd.lt k hk)) (fun _ x => x) (fun k hk => Nat.lt_of_lt_of_le (hd.lt k hk) hb.size)⟩, hg, World.ownsRow_nil _ _ _ _, World.ownsRow_nil _ _ _ _, fun k hk => .inl hk, .inr ⟨Nat.le_refl _, hlt⟩, fun hk => by have := hd.lt _ hk; omega, (fun g hg => by cases hg), (fun g hg => by cases hg), hl⟩⟩⟩, fun _ x => x, Chg.of_below hb⟩
theorem sep_dbrk (h : Sep w L D wr) (hi : L[i]? = some (dgT sb gb 0 m f)) (n : Int) (hn : n ≤ 9223372036854775807) :
    Calls Tryz.prog 14 #[.pointer (some ⟨sb, 0, none⟩), .int .i64 n] wr fun e w' => e = .returned (.tuple #[]) ∧ Sep w (L.set i (dgT sb gb 0 (m.brk n) f)) (fun _ => w'.heap.size) w' := by
  obtain ⟨H, h1, h2, h3, h4⟩ := h.call (Below.refl _ _) hi
  rcases h1.2 with ⟨_, S, hv, mv, k⟩ | ⟨e, _⟩
  · obtain ⟨rv, sl, hd⟩ := k.sto
    refine (break_doc hd n hn).mono ?_
    rintro e w' ⟨rfl, q1, q2, q3⟩
    refine ⟨rfl, ?_⟩
    have g := k.next (m' := m.brk n) ⟨⟨rv, sl, q1.up⟩, q2⟩
    have hc : Chg H wr w' := q2.mono k.sub
    exact (h4 (dgT sb gb 0 (m.brk n) f) w' ⟨g.lt, .inl ⟨rfl, _, _, _, g⟩⟩ hc w' (Chg.refl _ _)).reset
  · exact absurd rfl e
theorem sep_dadd (h : Sep w L D wr) (hi : L[i]? = some (dgT sb gb 0 m f)) {v : Value} {X : List Tx} (ok : f.Ok m) (hful : f.buf.length < f.size) (hT : Um.Txs wr v X) (hv : ∀ a n c, v = .slice (some a) n c → a.block < w.heap.size ∨ D i ≤ a.block) (hm : X.length ≤ 16777216) (hs : ∀ x ∈ X, x.size ≤ 255) :
    Calls Tryz.prog 17 #[.pointer (some ⟨sb, 0, none⟩), .pointer (some ⟨gb, 0, none⟩), v] wr fun e w' => e = .returned (.int .i64 (adds m f X).1) ∧ Sep w (L.set i (dgT sb gb (adds m f X).1 (adds m f X).2.1 (adds m f X).2.2)) (fun _ => w'.heap.size) w' := by
  obtain ⟨H, h1, h2, h3, h4⟩ := h.call (Below.refl _ _) hi
  rcases h1.2 with ⟨_, S, hv1, mv1, k⟩ | ⟨e, _⟩
  · refine (add_doc k ok hful (fun W2 hc => ?_) hm hs _ _ _ rfl).mono ?_
    · obtain ⟨ao, cap, e, t1, t2, t3⟩ := hT
      refine ⟨ao, cap, e, t1, t2, fun h0 => ?_⟩
      obtain ⟨g, off, e1, hg, hcc⟩ := t3 h0
      refine ⟨g, off, e1, Nat.lt_of_lt_of_le hg hc.size, fun j x hj => (World.cell?_of_block (w := wr) (a := ⟨g, off + j, none⟩) (hc.block g hg fun hH => ?_)).trans (hcc j x hj)⟩
      have hb := h2 g hH
      rcases hv ⟨g, off, none⟩ _ _ (by rw [e, e1]) with y | y
      · have y : g < w.heap.size := y
        omega
      · have y : D i ≤ g := y
        omega
    · rintro e w' ⟨rfl, hc, r⟩
      refine ⟨rfl, ?_⟩
      exact (h4 (dgT sb gb (adds m f X).1 (adds m f X).2.1 (adds m f X).2.2) w' ⟨fun b hb => hb.elim (fun y => Nat.lt_of_lt_of_le (h2 b y).2.1 hc.size) fun y => y.2, r⟩ hc w' (Chg.refl _ _)).reset
  · exact absurd rfl e
theorem sep_dfin (h : Sep w L D wr) (hi : L[i]? = some (dgT sb gb 0 m f)) (ok : f.Ok m) (hful : f.buf.length < f.size) :
    Calls Tryz.prog 20 #[.pointer (some ⟨sb, 0, none⟩), .pointer (some ⟨gb, 0, none⟩)] wr fun e w' => ∃ l, e = .returned (.tuple #[l, .int .i64 (fins m f).1]) ∧ Sep w (L.set i anyT) (fun _ => w'.heap.size) w' := by
  obtain ⟨H, h1, h2, h3, h4⟩ := h.call (Below.refl _ _) hi
  rcases h1.2 with ⟨_, S, hv1, mv1, k⟩ | ⟨e, _⟩
  · refine (finish_doc k ok hful _ _ _ rfl).mono ?_
    rintro e w' ⟨l, rfl, hc⟩
    exact ⟨l, rfl, (h4 anyT w' (fun b hb => hb.elim (fun y => Nat.lt_of_lt_of_le (h2 b y).2.1 hc.size) fun y => y.2) hc w' (Chg.refl _ _)).reset⟩
  · exact absurd rfl e
theorem sep_dfin_dead {c : Nat} (h : Sep w L D wr) (hi : L[i]? = some (dgT sb gb c m f)) (hc : c ≠ 0) (s : Value) :
    Calls Tryz.prog 20 #[s, .pointer (some ⟨gb, 0, none⟩)] wr fun e w' => ∃ l, e = .returned (.tuple #[l, .int .i64 c]) ∧ Sep w L (fun _ => w'.heap.size) w' := by
  obtain ⟨H, h1, h2, h3, h4⟩ := h.call (Below.refl _ _) hi
  rcases h1.2 with ⟨e, _⟩ | ⟨_, _, ⟨hv1, mv1, sz, k⟩, _⟩
  · exact absurd e hc
  · refine (finish_dead k hc).mono ?_
    rintro e w' ⟨rfl, hb⟩
    exact ⟨_, rfl, (h.below hb).reset⟩
end
end Rs
end Go.Proofs.YtbapnoafjcipjaaGreatDoor
/- Layer 9: words in a thing of their own. -/
namespace Go.Proofs.YtbapnoafjcipjaaGreatDoor
open Go.RowKit
namespace Rs
open Sm (Tx ofS)
theorem Sep.call2 {w wr W : World} {L : List Thing} {D : Nat → Nat} (h : Sep w L D wr) (hb : Below wr.heap.size wr W) {i : Nat} {T : Thing} (hi : L[i]? = some T) :
    ∃ F, T.P W F ∧ (∀ b, F b → w.heap.size ≤ b ∧ b < wr.heap.size ∧ b < D i) ∧ Below w.heap.size w W ∧ (∀ j U, j ≠ i → L[j]? = some U → ∃ G, U.P W G ∧ ∀ b, F b → ¬ G b) ∧
      ∀ (T' : Thing) (w' : World), T'.P w' (Up F W w') → Chg F W w' → ∀ W5, Chg (fun b => wr.heap.size ≤ b ∧ b < W.heap.size) w' W5 → Sep w (L.set i T') (updN D i w'.heap.size) W5 := by
  have hW := h.below hb
  obtain ⟨Fs, h1, h2, h3, h4⟩ := h
  refine ⟨Fs i, T.kept (h1 i T hi) (fun b hb' => hb.block b (h3 i b hb').2.1) (fun _ x => x) (fun b hb' => Nat.lt_of_lt_of_le (h3 i b hb').2.1 hb.size), h3 i, hW.old, fun j U hj hU => ⟨Fs j, U.kept (h1 j U hU) (fun b hb' => hb.block b (h3 j b hb').2.1) (fun _ x => x) (fun b hb' => Nat.lt_of_lt_of_le (h3 j b hb').2.1 hb.size), fun b hb' hx => h2 i j b (fun e => hj e.symm) hb' hx⟩, fun T' w' hT hc W5 c => ?_⟩
  have l1 := hb.size
  have l2 := hc.size
  have l3 := c.size
  have l4 := h4.size
  refine ⟨fun j => if j = i then Up (Fs i) W w' else Fs j, fun j U hj => ?_, fun j k b hjk hx hy => ?_, fun j b hx => ?_, hW.old.trans ((hc.below hW.old.size (fun k hk => (h3 i k hk).1)).trans (c.below (by omega) (fun k hk => by omega)))⟩
  · by_cases e : j = i
    · subst e
      rw [List.getElem?_set_self (List.getElem?_eq_some_iff.1 hi).1] at hj
      injection hj with hj
      subst hj
      simp only [if_true]
      refine T'.kept hT (fun b hx => c.block b (T'.lt hT b hx) fun e => ?_) (fun _ x => x) (fun b hx => Nat.lt_of_lt_of_le (T'.lt hT b hx) l3)
      rcases hx with hx | hx
      · have := (h3 j b hx).2.1; omega
      · omega
    · rw [List.getElem?_set_ne (fun x => e x.symm)] at hj
      simp only [if_neg e]
      refine U.kept (h1 j U hj) (fun b hx => ?_) (fun _ x => x) (fun b hx => by have := (h3 j b hx).2.1; omega)
      have hbl := (h3 j b hx).2.1
      rw [c.block b (by omega) (fun e2 => by omega), hc.block b (by omega) (fun hF => h2 j i b e hx hF), hb.block b hbl]
  · by_cases e : j = i
    · by_cases e2 : k = i
      · exact hjk (e.trans e2.symm)
      · simp only [if_pos e, if_neg e2] at hx hy
        rcases hx with hx | hx
        · exact h2 i k b (fun x => e2 x.symm) hx hy
        · have := (h3 k b hy).2.1; omega
    · by_cases e2 : k = i
      · simp only [if_neg e, if_pos e2] at hx hy
        rcases hy with hy | hy
        · exact h2 j i b e hx hy
        · have := (h3 j b hx).2.1; omega
      · simp only [if_neg e, if_neg e2] at hx hy
        exact h2 j k b hjk hx hy
  · by_cases e : j = i
    · simp only [if_pos e] at hx
      subst e
      rw [updN_same]
      rcases hx with hx | hx
      · have := h3 j b hx; exact ⟨this.1, by omega, by omega⟩
      · exact ⟨by omega, by omega, hx.2⟩
    · simp only [if_neg e] at hx
      rw [updN_ne _ _ e]
      have := h3 j b hx
      exact ⟨this.1, by omega, this.2.2⟩
/-- a row of texts of one's own -/
def rowT (v : Value) (X : List Tx) : Thing :=
  ⟨fun w H => (∀ b, H b → b < w.heap.size) ∧ Own w v X ∧ (∀ g, v.ownBlock = some g → H g), fun h => h.1, fun h a b c => ⟨c, h.2.1.kept fun g hg => a g (h.2.2 g hg), fun g hg => b g (h.2.2 g hg)⟩⟩
section
variable {w wr W : World} {L : List Thing} {D : Nat → Nat} {i sb gb : Nat} {m : Sto} {f : For}
theorem sep_row (h : Sep w L D wr) {w' : World} {v : Value} {X : List Tx} (ho : Um.OwnT wr.heap.size w' v X) (hb : Below wr.heap.size wr w') : Sep w (L ++ [rowT v X]) (fun _ => w'.heap.size) w' := by
  have hO : Own w' v X := by
    refine ⟨ho.1, ?_⟩
    rcases ho.2 with h | ⟨g, cap, cur, e, _, r⟩
    · exact .inl h
    · exact .inr ⟨g, cap, cur, e, Nat.zero_le _, r⟩
  exact h.add (T := rowT v X) (G := fun b => v.ownBlock = some b) ⟨fun b hb => (own_lt hO hb).2, hO, fun _ hg => hg⟩ (fun b hb => (World.ownsRow.lt ho b hb).1) hb
theorem sep_txs (h : Sep w L D wr) {v : Value} {X : List Tx} (hi : L[i]? = some (rowT v X)) : Um.Txs wr v X := by
  obtain ⟨H, h1, _⟩ := h.call (Below.refl _ _) hi
  exact own_tx2 h1.2.1
/-- words that lie in a thing of their own -/
theorem sep_dadd2 (h : Sep w L D wr) (hi : L[i]? = some (dgT sb gb 0 m f)) {v : Value} {X : List Tx} {j : Nat} (hj : L[j]? = some (rowT v X)) (hij : j ≠ i) (ok : f.Ok m) (hful : f.buf.length < f.size) (hm : X.length ≤ 16777216) (hs : ∀ x ∈ X, x.size ≤ 255) :
    Calls Tryz.prog 17 #[.pointer (some ⟨sb, 0, none⟩), .pointer (some ⟨gb, 0, none⟩), v] wr fun e w' => e = .returned (.int .i64 (adds m f X).1) ∧ Sep w (L.set i (dgT sb gb (adds m f X).1 (adds m f X).2.1 (adds m f X).2.2)) (fun _ => w'.heap.size) w' := by
  obtain ⟨H, h1, h2, h3, h5, h4⟩ := h.call2 (Below.refl _ _) hi
  obtain ⟨G, ⟨g0, hO, hg1⟩, hG⟩ := h5 j _ hij hj
  rcases h1.2 with ⟨_, S, hv1, mv1, k⟩ | ⟨e, _⟩
  · refine (add_doc k ok hful (fun W2 hc => ?_) hm hs _ _ _ rfl).mono ?_
    · exact own_tx2 (hO.kept fun g hg => hc.block g (own_lt hO hg).2 fun hH => hG g hH (hg1 g hg))
    · rintro e w' ⟨rfl, hc, r⟩
      refine ⟨rfl, ?_⟩
      exact (h4 (dgT sb gb (adds m f X).1 (adds m f X).2.1 (adds m f X).2.2) w' ⟨fun b hb => hb.elim (fun y => Nat.lt_of_lt_of_le (h2 b y).2.1 hc.size) fun y => y.2, r⟩ hc w' (Chg.refl _ _)).reset
  · exact absurd rfl e
end
end Rs
end Go.Proofs.YtbapnoafjcipjaaGreatDoor
