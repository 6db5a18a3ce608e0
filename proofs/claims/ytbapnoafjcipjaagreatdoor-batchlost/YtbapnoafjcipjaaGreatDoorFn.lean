/- Layer 9: a store with its former among other things in memory: New, Add, Finish. -/
import Derived.Test.YtbapnoafjcipjaaGreatDoorGi
import Derived.Test.YtbapnoafjcipjaaGreatDoorFr
import Derived.Test.YtbapnoafjcipjaaGreatDoorSq
namespace Go.Proofs.YtbapnoafjcipjaaGreatDoor
open Go.RowKit
namespace Rs
open Sm (Tx ofS)
theorem Env.over {w : World} {E : Nat → Addr} {B C : Nat} (h : Env w E B) (hC : B ≤ C) : Env w E C := { h with g := h.g.sub fun _ hb => Nat.le_trans h.nb (Nat.le_trans hC hb), lt := fun i hi => Nat.lt_of_lt_of_le (h.lt i hi) hC, nb := Nat.le_trans h.nb hC }
theorem EnvR.over {w : World} {E : Nat → Addr} {B C : Nat} (h : EnvR w E B) (hC : B ≤ C) : EnvR w E C := ⟨h.toEnv.over hC, h.rn⟩
/-- a store and a former of it -/
def sfT (E : Nat → Addr) (sb fb : Nat) (m : Sto) (f : For) : Thing :=
  ⟨fun w H => (∀ b, H b → b < w.heap.size) ∧ ∃ F G, At w sb m F ∧ FAt w E sb fb f G ∧ (∀ b, F b → ¬ G b) ∧ (∀ b, F b ∨ G b → H b), fun h => h.1, fun {w w' F G} h a b c => by
    obtain ⟨h0, F1, G1, h1, h2, h3, h4⟩ := h
    refine ⟨c, F1, G1, h1.kept (fun k hk => a k (h4 k (.inl hk))) (fun _ x => x) (fun k hk => c k (b k (h4 k (.inl hk)))), h2.kept (fun k hk => a k (h4 k (.inr hk))) (fun _ x => x) (fun k hk => c k (b k (h4 k (.inr hk)))), h3, fun k hk => b k (h4 k hk)⟩⟩
/-- a store, and a list of numbers -/
def scT (sb : Nat) (m : Sto) (v : Value) (l : List Nat) : Thing :=
  ⟨fun w H => (∀ b, H b → b < w.heap.size) ∧ ∃ F, At w sb m F ∧ w.ownsRow 0 3 1 v l.length (nts l) ∧ (∀ b, F b → H b) ∧ (∀ g, v.ownBlock = some g → H g), fun h => h.1, fun {w w' F G} h a b c => by
    obtain ⟨h0, F1, h1, h2, h3, h4⟩ := h
    exact ⟨c, F1, h1.kept (fun k hk => a k (h3 k hk)) (fun _ x => x) (fun k hk => c k (b k (h3 k hk))), own_kept h2 fun g hg => a g (h4 g hg), fun k hk => b k (h3 k hk), fun g hg => b g (h4 g hg)⟩⟩
section
variable {w wr W : World} {E : Nat → Addr} {L : List Thing} {D : Nat → Nat} {i sb fb : Nat} {m : Sto} {f : For}
theorem sep_new (h : Sep w L D wr) (c : Int) (h1 : -9223372036854775808 ≤ c) (h2 : c ≤ 9223372036854775807) :
    Calls Tryz.prog 5 #[.int .i64 c] wr fun e w' => e = .returned (.pointer (some ⟨wr.heap.size, 0, none⟩)) ∧ Sep w (L ++ [stoT wr.heap.size (newS c)]) (fun _ => w'.heap.size) w' := by
  refine (new_any c wr h1 h2).mono ?_
  rintro e w' ⟨rfl, h3, h4, h5⟩
  exact ⟨rfl, h.add (T := stoT wr.heap.size (newS c)) h3 (fun b hb => by rw [hb]; exact Nat.le_refl _) h4⟩
theorem Sep.turn {wr w' : World} {T T' : Thing} (h : Sep w L D wr) (hi : L[i]? = some T) (hT : ∀ H, T.P wr H → (∀ b, H b → w.heap.size ≤ b ∧ b < D i) → ∃ H', T'.P w' H' ∧ (∀ b, H' b → Up H wr w' b) ∧ Chg H wr w') : Sep w (L.set i T') (fun _ => w'.heap.size) w' := by
  obtain ⟨H, h1, h2, h3, h4⟩ := h.call (Below.refl _ _) hi
  obtain ⟨H', q1, q2, q3⟩ := hT H h1 fun b hb => ⟨(h2 b hb).1, (h2 b hb).2.2⟩
  have q := h4 T' w' (T'.kept q1 (fun _ _ => rfl) q2 (fun b hb => hb.elim (fun y => Nat.lt_of_lt_of_le (h2 b y).2.1 q3.size) fun y => y.2)) q3 w' (Chg.refl _ _)
  exact q.reset
/-- a former of the store -/
theorem sep_fnew (h : Sep w L D wr) (hi : L[i]? = some (stoT sb m)) (b : Nat) (h1 : 1 ≤ b) (h2 : b ≤ 65536) :
    Calls Tryz.prog 11 #[.pointer (some ⟨sb, 0, none⟩), .int .i64 b] wr fun e w' => ∃ fb, e = .returned (.tuple #[.pointer (some ⟨fb, 0, none⟩), .nilIface]) ∧ Sep w (L.set i (sfT E sb fb m ⟨b, [], [], 0⟩)) (fun _ => w'.heap.size) w' := by
  refine (fnew_go wr sb b h1 h2).mono ?_
  rintro e w' ⟨rfl, hf, hb⟩
  refine ⟨_, rfl, h.turn hi fun H hH _ => ?_⟩
  have hA : At wr sb m H := hH
  have hs : wr.heap.size < w'.heap.size := hf.lt _ hf.own
  refine ⟨Up H wr w', ⟨fun k hk => hk.elim (fun y => Nat.lt_of_lt_of_le (hA.lt k y) hb.size) fun y => y.2, H, _, hA.kept (fun k hk => hb.block k (hA.lt k hk)) (fun _ x => x) (fun k hk => Nat.lt_of_lt_of_le (hA.lt k hk) hb.size), hf.at rfl, fun k hk e => by have := hA.lt k hk; omega, fun k hk => hk.elim .inl fun e => .inr ⟨by omega, by rw [e]; exact hs⟩⟩, fun _ x => x, Chg.of_below hb⟩
theorem sf_parts {H : Nat → Prop} (V : Env w E w.heap.size) (hold : Below w.heap.size w wr) (h : (sfT E sb fb m f).P wr H) (hH : ∀ b, H b → w.heap.size ≤ b) : ∃ F G, At wr sb m F ∧ FAt wr E sb fb f G ∧ (∀ b, F b → ¬ G b) ∧ (∀ b, F b ∨ G b → H b) ∧ Bg wr E w.heap.size F G := by
  obtain ⟨h0, F, G, h1, h2, h3, h4⟩ := h
  exact ⟨F, G, h1, h2, h3, h4, V.below hold, fun b hb => hH b (h4 b (.inl hb)), fun b hb => hH b (h4 b (.inr hb)), hold.size⟩
theorem sf_of {w' : World} {F G H : Nat → Prop} {m' : Sto} {f' : For} (h0 : ∀ b, H b → b < wr.heap.size) (h4 : ∀ b, F b ∨ G b → H b) (r : FRes F G wr E sb fb m' f' w') : ∃ H', (sfT E sb fb m' f').P w' H' ∧ (∀ b, H' b → Up H wr w' b) ∧ Chg H wr w' := by
  obtain ⟨F', G', q1, q2, q3, q4, q5, q6⟩ := r
  have c : Chg H wr w' := q6.mono h4
  refine ⟨Up H wr w', ⟨fun b hb => hb.elim (fun y => Nat.lt_of_lt_of_le (h0 b y) c.size) fun y => y.2, F', G', q1, q2, q3, fun b hb => ?_⟩, fun _ x => x, c⟩
  rcases hb with hb | hb
  · exact (q4 b hb).imp (fun y => h4 b (.inl y)) id
  · exact (q5 b hb).imp (fun y => h4 b (.inr y)) id
/-- words too -/
theorem sep_add (V : Env w E w.heap.size) (h : Sep w L D wr) (hi : L[i]? = some (sfT E sb fb m f)) {v : Value} {X : List Tx} (ok : f.Ok m) (hful : f.buf.length < f.size) (hT : Um.Txs wr v X) (hv : ∀ a n c, v = .slice (some a) n c → a.block < w.heap.size ∨ D i ≤ a.block) (hm : X.length ≤ 9223372036854775806) (hs : X.any long = false) :
    Calls Tryz.prog 15 #[.pointer (some ⟨fb, 0, none⟩), v] wr fun e w' => e = .returned (errV E (adds m f X).1) ∧ Sep w (L.set i (sfT E sb fb (adds m f X).2.1 (adds m f X).2.2)) (fun _ => w'.heap.size) w' := by
  obtain ⟨H, h1, h2, h3, h4⟩ := h.call (Below.refl _ _) hi
  obtain ⟨F, G, k1, k2, k3, k4, K⟩ := sf_parts V h3 h1 fun b hb => (h2 b hb).1
  obtain ⟨bv, mv, hf⟩ := k2.live ok.live
  refine (add_go K k1 hf k3 ok hful (Wds.of hT fun b hb a n c e => ?_) hm hs).mono ?_
  · have hH := h2 b (k4 b hb)
    rcases hv a n c e with y | y
    · have := hH.1; omega
    · have := hH.2.2; omega
  · rintro e w' ⟨rfl, r⟩
    obtain ⟨H', r1, r2, r3⟩ := sf_of h1.1 k4 r
    refine ⟨rfl, ?_⟩
    have q := h4 (sfT E sb fb (adds m f X).2.1 (adds m f X).2.2) w' ((sfT E sb fb (adds m f X).2.1 (adds m f X).2.2).kept r1 (fun _ _ => rfl) r2 (fun b hb => hb.elim (fun y => Nat.lt_of_lt_of_le (h2 b y).2.1 r3.size) fun y => y.2)) r3 w' (Chg.refl _ _)
    exact q.reset
theorem sep_finish (V : Env w E w.heap.size) (h : Sep w L D wr) (hi : L[i]? = some (sfT E sb fb m f)) (ok : f.Ok m) (hful : f.buf.length < f.size) {m' : Sto} {f' : For} (hR : fins m f = (0, m', f')) :
    Calls Tryz.prog 19 #[.pointer (some ⟨fb, 0, none⟩)] wr fun e w' => ∃ a c, e = .returned (.tuple #[.slice a f'.made.length c, .nilIface]) ∧ Sep w (L.set i (scT sb m' (.slice a f'.made.length c) f'.made)) (fun _ => w'.heap.size) w' := by
  obtain ⟨H, h1, h2, h3, h4⟩ := h.call (Below.refl _ _) hi
  obtain ⟨F, G, k1, k2, k3, k4, K⟩ := sf_parts V h3 h1 fun b hb => (h2 b hb).1
  obtain ⟨bv, mv, hf⟩ := k2.live ok.live
  refine (finish_ok K k1 hf k3 ok hful hR).mono ?_
  rintro e w' ⟨a, c, rfl, F', q1, q2, q3, q4, q5, q6, q7, q8⟩
  refine ⟨a, c, rfl, ?_⟩
  have hc : Chg H wr w' := q8.mono k4
  have hlt : ∀ b, Up H wr w' b → b < w'.heap.size := fun b hb => hb.elim (fun y => Nat.lt_of_lt_of_le (h2 b y).2.1 hc.size) fun y => y.2
  have hT : (scT sb m' (.slice a f'.made.length c) f'.made).P w' (Up H wr w') := ⟨hlt, F', q1, q3, fun b hb => (q6 b hb).imp (fun y => k4 b (.inl y)) id, fun g hg => ((q5 g hg).2.2).imp (fun y => k4 g (.inr y)) id⟩
  exact (h4 _ w' hT hc w' (Chg.refl _ _)).reset
theorem sep_sc (h : Sep w L D wr) {v : Value} {l : List Nat} (hi : L[i]? = some (scT sb m v l)) : ∃ F, At wr sb m F ∧ wr.ownsRow 0 3 1 v l.length (nts l) ∧ (∀ b, F b → w.heap.size ≤ b) ∧ Below w.heap.size w wr := by
  obtain ⟨H, h1, h2, h3, h4⟩ := h.call (Below.refl _ _) hi
  obtain ⟨_, F, k1, k2, k3, k4⟩ := h1
  exact ⟨F, k1, k2, fun b hb => (h2 b (k3 b hb)).1, h3⟩
end
end Rs
end Go.Proofs.YtbapnoafjcipjaaGreatDoor
