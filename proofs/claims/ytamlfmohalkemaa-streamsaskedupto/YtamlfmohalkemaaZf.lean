/- Layer 8: Count of a stream. -/
import Derived.Test.YtamlfmohalkemaaZe
namespace Go.Proofs.Ytamlfmohalkemaa
open Go.RowKit Go.Shelf
namespace Sm
attribute [local go_sem] Oper.semAt_some

/-- a number in a box of one's own -/
def CtI (n : Nat) (pre : List Tx) (T : Nat → Prop) (W : World) : Prop := (∀ b, T b ↔ b = n) ∧ Boxed W n 3 (.int .i64 (pre.length : Int))
theorem CtI.fit {n B : Nat} (hB : B ≤ n) : Fit B (CtI n) :=
  ⟨fun {s T W b} h hb => by have := (h.1 b).1 hb; subst this; exact ⟨hB, h.2.lt⟩, fun {s T W W'} h c => ⟨h.1, (c.block _ h.2.lt (fun q => q ((h.1 _).2 rfl))).trans h.2⟩⟩
theorem no_fit {B : Nat} : Fit B (fun _ _ _ => False) := ⟨fun h => h.elim, fun h => h.elim⟩
/-- behind the loop's end: the block for deferred calls is taken -/
theorem back_below {w V W : World} {T₀ : Nat → Prop} {D : Nat} (hVw : Below w.heap.size w V) (hT : ∀ b, T₀ b → w.heap.size ≤ b) (hch : Chg T₀ V W) (hD : V.heap.size ≤ D) : Below w.heap.size w (W.putObj D (.deferred none)) :=
  (hVw.trans (hch.below hVw.size hT)).trans ((Chg.refl (fun b => w.heap.size ≤ b) W).putObj (.inl (Nat.le_trans hVw.size hD)) _ |>.below (Nat.le_trans hVw.size hch.size) (fun _ h => h))

set_option maxRecDepth 100000 in
set_option maxHeartbeats 2000000 in
theorem count_any {v : Value} {L : List Tx} {B : Nat} {w₀ w : World} (h : Gives Try.prog v L B w₀) (hb : Below B w₀ w) (hB : B ≤ w.heap.size) (hz : L.length ≤ 8796093022208) :
    Calls Try.prog 20 #[.agg #[v]] w fun e w' => e = .returned (.int .i64 (L.length : Int)) ∧ Below w.heap.size w w' := by
  have H := hide h
  have HB := hide hb
  clear h hb
  refine (callsIn_wide (n := 8)).1 ?_
  refine callsIn_of_wp_marks Try.func20 rfl trivial ?_ rfl
  simp only [Try.ntmps20, List.size_toArray, List.length_cons, List.length_nil, Nat.reduceAdd, Nat.reduceSub, Array.replicate_succ, Array.replicate_zero, List.push_toArray, List.append_toArray, List.nil_append, List.cons_append]
  gi_wp2_with (refine ⟨trivial, ?_⟩; gi_at_call 19; refine (callsIn_wide.2 (all_any (unhide H) _)).mono ?_; rintro e w' ⟨gf, lb, rfl, hwk, rfl⟩)
  have HW := hide hwk
  clear hwk
  refine gen_in ?_
  intro V hV
  have bM : Boxed V (w.heap.size + 1) 3 (.int .i64 (([] : List Tx).length : Int)) := by
    have := (Boxed.new (w.alloc (.cells #[v] 27)) 3 (.int .i64 0)).alloc (.cells #[v] 27)
    rw [World.size_alloc] at this
    rw [hV]; exact this
  have hVw : Below w.heap.size w V := by rw [hV]; (repeat (first | exact Below.refl _ _ | refine Below.drew ?_ | refine Below.alloc ?_ (by first | (simp; done) | (simp; omega)) _ | refine Below.setCell ?_ (by first | (simp; done) | (simp; omega)) _))
  have hVs : w.heap.size + 3 ≤ V.heap.size := by rw [hV]; simp
  clear hV
  have hVB : Below B w₀ V := (unhide HB).trans (hVw.mono hB)
  refine range_law (unhide HW) rfl hVB (by omega) rfl (CtI (w.heap.size + 1)) (fun _ _ _ _ => False) (CtI.fit (by omega)) (fun c => no_fit)
    (fun b => b = w.heap.size + 1) ⟨fun b => Iff.rfl, bM⟩
    (fun x => { tmps := #[.agg #[v], .pointer (some ⟨w.heap.size, 0, none⟩), .int .i64 0, .pointer (some ⟨w.heap.size + 1, 0, none⟩), .agg #[v], .func (.func gf) #[] lb, .string x, undef, undef, undef], defers := [] }) ?assign ?body ?done ?stop
  case assign =>
    intro l x W K hK
    gi_wp2
    simp
    exact hK
  case body =>
    rintro l pre x T W ⟨eT, b1⟩ hpre hch
    have hlz : pre.length + 1 ≤ 8796093022208 := by have := hpre.length_le; simp at this; omega
    have hc := b1.cell
    have hf := b1.frozen
    have q1 := b1.set (.int .i64 ((pre ++ [x]).length : Int))
    have HF : Hid (∃ T', Chg T W (W.setCell ⟨w.heap.size + 1, 0, none⟩ (.int .i64 ((pre ++ [x]).length : Int))) ∧ (∀ b, T' b → Up T W (W.setCell ⟨w.heap.size + 1, 0, none⟩ (.int .i64 ((pre ++ [x]).length : Int))) b) ∧ CtI (w.heap.size + 1) (pre ++ [x]) T' (W.setCell ⟨w.heap.size + 1, 0, none⟩ (.int .i64 ((pre ++ [x]).length : Int)))) :=
      ⟨T, (Chg.refl T W).setCell (.inl ((eT _).2 rfl)) _, fun b hb => .inl hb, eT, q1⟩
    rw [List.length_append, List.length_singleton, show ((pre.length + 1 : Nat) : Int) = (pre.length : Int) + 1 by omega] at HF
    clear q1 eT b1 hpre
    gi_wp2
    exact unhide HF
  case done =>
    rintro D T W hD hTD ⟨eT, b1⟩ hch hup hK
    have hc := b1.cell
    have HF := hide (back_below hVw (fun b hb => by have : b = w.heap.size + 1 := hb; omega) hch hD)
    clear eT b1
    gi_wp2
    refine ⟨by simp, .inl ⟨_, _, rfl, run_takeDeferred hK, ?_⟩⟩
    exact ⟨_, results_tmp rfl _ _ _, rfl, unhide HF⟩
  case stop =>
    rintro D c pre T W _ _ _ h
    exact h.elim

theorem tx_beq {x y : Tx} : (x.toList == y.toList) = true ↔ x = y := by
  rw [beq_iff_eq, Lib.toList_data, Lib.toList_data]
  exact ⟨tx_ext, fun e => by rw [e]⟩
end Sm
end Go.Proofs.Ytamlfmohalkemaa
