/- Layer 7: Replace, New, Items. -/
import Derived.Test.YtddfljlecnllaaaHv
namespace Go.Proofs.Ytddfljlecnllaaa
open Go.RowKit
namespace Hp
theorem push_nil (w : World) (v : Value) : Calls Try.prog 21 #[.pointer none, v] w fun e w' => e = .returned (.tuple #[]) ∧ w' = w := by
  go_enter Try.func21, Try.ntmps21
  go_wp2
  (try simp only [Exit.inBlock, Exit.then]); refine bodyPost_ret (results_none rfl _ _ _) rfl ?_
  exact ⟨rfl, rfl⟩
theorem cells2 {W : World} {b : Nat} {x y : Value} {t : TypeId} (h : W.heap[b]? = some (.cells #[x, y] t (0, 0))) : W.cell? ⟨b, 0, none⟩ = some x ∧ W.cell? ⟨b, 1, none⟩ = some y ∧ (∀ k, W.frozen? ⟨b, k, none⟩ = false) ∧ b < W.heap.size := by
  refine ⟨?_, ?_, fun k => ?_, (Array.getElem?_eq_some_iff.1 h).1⟩ <;> simp [World.cell?, World.frozen?, h]
theorem new2 (w : World) (A B : Array Value) (s t : TypeId) : ((w.alloc (.cells A s)).alloc (.cells B t)).heap[w.heap.size]? = some (.cells A s (0, 0)) ∧ ((w.alloc (.cells A s)).alloc (.cells B t)).heap[w.heap.size + 1]? = some (.cells B t (0, 0)) := by
  constructor
  · rw [Below.heap_alloc _ _ _ (by simp)]; exact (MapKept.heap_alloc w _).1
  · have := (MapKept.heap_alloc (w.alloc (.cells A s)) (.cells B t)).1
    simpa using this
/-- where nothing can be taken out: what is behind Push of the one item -/
theorem replace_zero {w : World} {pv : Value} {x : It} {R : World → Prop} (HP : ∀ W, Below w.heap.size w W → Calls Try.prog 32 #[pv] W fun e w' => e = .returned (.tuple #[.agg #[.int .i64 0, .int .i64 0], .bool false]) ∧ Below W.heap.size W w')
    (HQ : ∀ W v, Below w.heap.size w W → w.heap.size + 2 ≤ W.heap.size → Its W v [x] (fun b => b < w.heap.size) → Calls Try.prog 21 #[pv, v] W fun e w' => e = .returned (.tuple #[]) ∧ R w' ∧ Chg (fun b => b < w.heap.size) W w') (HR : ∀ W W', R W → Chg (fun b => w.heap.size ≤ b ∧ b < w.heap.size + 2) W W' → R W') :
    Calls Try.prog 34 #[pv, .agg #[.int .i64 x.1, .int .i64 x.2]] w fun e w' => e = .returned (.tuple #[.agg #[.int .i64 0, .int .i64 0], .bool false]) ∧ R w' := by
  have HPP : Hid (∀ o1 o2 : Obj, Calls Try.prog 32 #[pv] ((w.alloc o1).alloc o2) fun e w' => e = .returned (.tuple #[.agg #[.int .i64 0, .int .i64 0], .bool false]) ∧ Below ((w.alloc o1).alloc o2).heap.size ((w.alloc o1).alloc o2) w') := fun o1 o2 => HP _ (((Below.refl _ _).alloc (Nat.le_refl _) o1).alloc (by simp) o2)
  have HQQ := hide HQ
  have HRR := hide HR
  clear HP HQ HR
  go_enter Try.func34, Try.ntmps34
  go_wp2_with fail
  refine (unhide HPP _ _).mono ?_
  rintro e w1 ⟨rfl, hb1⟩
  obtain ⟨n1, n2⟩ := new2 w #[.int .i64 x.1, .int .i64 x.2] #[.int .i64 0, .int .i64 0] 39 39
  have g1 := (hb1.block _ (by simp; omega)).trans n1
  have g2 := (hb1.block _ (by simp)).trans n2
  have HB1 : Hid (Below w.heap.size w w1) := (((Below.refl _ w).alloc (Nat.le_refl _) _).alloc (by simp) _).trans (hb1.mono (by simp; omega))
  obtain ⟨i0, i1, jf, il⟩ := cells2 g1
  obtain ⟨r0, r1, rf, rl⟩ := cells2 g2
  have G2 := hide g2
  clear hb1 n1 n2 g1 g2 HPP
  go_wp2_with fail
  have HIT : Hid (Its ((w1.alloc (.cells #[.int .i64 0, .int .i64 0] 39)).alloc (.cells #[.int .i64 x.1, .int .i64 x.2] 39)) (.slice (some ⟨w1.heap.size + 1, 0, none⟩) 1 1) [x] (fun b => b < w.heap.size)) := by
    obtain ⟨_, _, _, q4⟩ := cells2 (new2 w1 #[.int .i64 0, .int .i64 0] #[.int .i64 x.1, .int .i64 x.2] 39 39).2
    refine ⟨_, _, rfl, fun _ => ⟨_, _, rfl, q4, fun e => by omega, fun j y hj => ?_⟩⟩
    rcases j with _ | j
    · simp at hj; subst hj; exact ⟨by simp, by simp⟩
    · simp at hj
  have HPU := hide (unhide HQQ _ _ (((unhide HB1).alloc (unhide HB1).size _).alloc (by have := (unhide HB1).size; simp; omega) _) (by simp; omega) (unhide HIT))
  refine (unhide HPU).mono ?_
  rintro e w2 ⟨rfl, hR2, c2⟩
  have g1 := (c2.block w1.heap.size (by simp; omega) (by omega)).trans (new2 w1 #[.int .i64 0, .int .i64 0] #[.int .i64 x.1, .int .i64 x.2] 39 39).1
  have g2 := (c2.block (w.heap.size + 1) (by simp; omega) (by omega)).trans ((Below.heap_alloc _ _ _ (by simp; omega)).trans ((Below.heap_alloc _ _ _ (by omega)).trans (unhide G2)))
  obtain ⟨l0, l1, lf, ll⟩ := cells2 g1
  obtain ⟨z0, z1, zf, zl⟩ := cells2 g2
  have HR2 := hide hR2
  clear hR2 c2 g1 g2 HPU HIT
  go_wp2
  refine gen_post ?_
  intro V hV
  have v0 : V.cell? ⟨w.heap.size + 1, 0, none⟩ = some (.int .i64 0) := by rw [hV]; go_simp
  have v1 : V.cell? ⟨w.heap.size + 1, 1, none⟩ = some (.int .i64 0) := by rw [hV]; go_simp
  have HE : Hid (R V) := by
    rw [hV]
    exact unhide HRR _ _ (unhide HR2) (((Chg.refl _ _).setCell (.inl ⟨by show w.heap.size ≤ w.heap.size + 1; omega, by show w.heap.size + 1 < w.heap.size + 2; omega⟩) _).setCell (.inl ⟨by show w.heap.size ≤ w.heap.size + 1; omega, by show w.heap.size + 1 < w.heap.size + 2; omega⟩) _)
  clear hV
  exact bodyPost_ret (v := .tuple #[.agg #[.int .i64 0, .int .i64 0], .bool false]) (by simp [results, Try.results34, go_sem, v0, v1]) rfl ⟨rfl, unhide HE⟩
/-- a heap that stands behind a call that made blocks of its own, which may still be written into -/
def ResB (F : Nat → Prop) (w : World) (n : Nat) (hb : Nat) (fv : Value) (lt : It → It → Bool) (I : List It) (p : Nat) (w' : World) : Prop := ∃ G, HAt w' hb fv lt I p G ∧ (∀ b, G b → F b ∨ n ≤ b) ∧ Chg F w w'
theorem ResB.res {F : Nat → Prop} {w w' : World} {n hb : Nat} {fv : Value} {lt : It → It → Bool} {I : List It} {p : Nat} (h : ResB F w n hb fv lt I p w') (hn : w.heap.size ≤ n) (hF : ∀ b, F b → b < w.heap.size) : Res F w hb fv lt I p w' := by
  obtain ⟨G, h1, h2, h3⟩ := h
  refine ⟨h1.kept (fun _ _ => rfl) (fun b hb => ?_) (fun b hb => ?_), h3⟩
  · rcases h2 b hb with x | x
    · exact .inl x
    · exact .inr ⟨by omega, h1.lt b hb⟩
  · rcases hb with x | x
    · exact Nat.lt_of_lt_of_le (hF b x) h3.size
    · exact x.2
theorem ResB.chg {F : Nat → Prop} {w W W' : World} {n hb : Nat} {fv : Value} {lt : It → It → Bool} {I : List It} {p : Nat} (h : ResB F w n hb fv lt I p W) (hF : ∀ b, F b → b < w.heap.size) (c : Chg (fun b => w.heap.size ≤ b ∧ b < n) W W') : ResB F w n hb fv lt I p W' := by
  obtain ⟨G, h1, h2, h3⟩ := h
  refine ⟨G, h1.kept (fun b hb => c.block b (h1.lt b hb) fun e => ?_) (fun _ x => x) (fun b hb => Nat.lt_of_lt_of_le (h1.lt b hb) c.size), h2, ?_⟩
  · rcases h2 b hb with x | x
    · have := hF b x; omega
    · omega
  · refine ⟨c.os.trans h3.os, c.tape.trans h3.tape, c.output.trans h3.output, Nat.le_trans h3.size c.size, fun k hk hn => ?_⟩
    rw [c.block k (Nat.lt_of_lt_of_le hk h3.size) (fun e => by omega)]
    exact h3.block k hk hn
theorem replace_none {fv : Value} {lt : It → It → Bool} (L : LessV fv lt) {w : World} {hb : Nat} {p : Nat} {F : Nat → Prop} (h : HAt w hb fv lt [] p F) (hp : p + 1 ≤ 4611686018427387904) (x : It) :
    Calls Try.prog 34 #[.pointer (some ⟨hb, 0, none⟩), .agg #[.int .i64 x.1, .int .i64 x.2]] w fun e w' => e = .returned (.tuple #[.agg #[.int .i64 0, .int .i64 0], .bool false]) ∧ Res F w hb fv lt [x] (p + 1) w' := by
  have hlt := h.lt
  have hpk : ∀ W, Below w.heap.size w W → Calls Try.prog 32 #[.pointer (some ⟨hb, 0, none⟩)] W fun e w' => e = .returned (.tuple #[.agg #[.int .i64 0, .int .i64 0], .bool false]) ∧ Below W.heap.size W w' := fun W hW => by
    obtain ⟨A, nv, h1, h2, _⟩ := h
    have : A = [] := List.eq_nil_of_length_eq_zero (by rw [h2.len]; rfl)
    subst this
    exact peek_none (h1.below hW)
  refine (replace_zero (R := ResB F w (w.heap.size + 2) hb fv lt [x] (p + 1)) hpk (fun W v hW hs hI => ?_) (fun W W' hR c => hR.chg hlt c)).mono ?_
  · refine (push_any L (h.below hW) (hI.mono fun b _ hF => hlt b hF) (by simp) (by simpa using hp)).mono ?_
    rintro e w' ⟨rfl, h1, h2⟩
    refine ⟨rfl, ⟨_, h1, fun b hb => hb.imp id fun y => ?_, (Chg.of_below hW).then h2⟩, h2.mono fun b hF => hlt b hF⟩
    omega
  · rintro e w' ⟨rfl, hR⟩
    exact ⟨rfl, hR.res (by omega) hlt⟩
theorem replace_nil (w : World) (x : It) :
    Calls Try.prog 34 #[.pointer none, .agg #[.int .i64 x.1, .int .i64 x.2]] w fun e w' => e = .returned (.tuple #[.agg #[.int .i64 0, .int .i64 0], .bool false]) ∧ Below w.heap.size w w' := by
  refine replace_zero (R := Below w.heap.size w) (fun W _ => peek_nil W) (fun W v hW _ _ => ?_) (fun W W' hR c => ⟨c.os.trans hR.os, c.tape.trans hR.tape, c.output.trans hR.output, Nat.le_trans hR.size c.size, fun k hk => ?_⟩)
  · refine (push_nil W v).mono ?_
    rintro e w' ⟨rfl, rfl⟩
    exact ⟨rfl, hW, Chg.refl _ _⟩
  · rw [c.block k (Nat.lt_of_lt_of_le hk hR.size) (fun e => by omega)]
    exact hR.block k hk
end Hp
end Go.Proofs.Ytddfljlecnllaaa
