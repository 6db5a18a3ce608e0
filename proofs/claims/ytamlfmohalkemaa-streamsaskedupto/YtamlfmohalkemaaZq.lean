/- Layer 8: Has of a stream. -/
import Derived.Laws.Cover1
import Derived.Test.YtamlfmohalkemaaZf
namespace Go.Proofs.Ytamlfmohalkemaa
open Go.RowKit Go.Shelf
namespace Sm
attribute [local go_sem] Oper.semAt_some

theorem results_bool {fn : Func} {p : Tmp} (h : fn.results = #[.cell p 4]) {tmps : Array Value} {w : World} {g : Nat} {b : Bool} (hp : tmps.getD p undef = .pointer (some ⟨g, 0, none⟩)) (hc : w.cell? ⟨g, 0, none⟩ = some (.bool b)) :
    (results fn tmps).run Try.prog w = .ok (.bool b) w := by
  have hp' : tmps[p]?.getD undef = .pointer (some ⟨g, 0, none⟩) := by simpa using hp
  have u4 := Try.underlying4
  simp [results, h, hp', asAddr, go_sem, hc]
/-- what Has has: the text that is asked for, and the answer -/
structure HsI (n : Nat) (x : Tx) (b : List Tx → Bool → Prop) (pre : List Tx) (T : Nat → Prop) (W : World) : Prop where
  own : ∀ b, T b ↔ b = n + 1 ∨ b = n + 1 + 1
  ask : Boxed W (n + 1) 9 (.string x)
  ans : ∃ a, Boxed W (n + 1 + 1) 4 (.bool a) ∧ b pre a
theorem HsI.fit {n B : Nat} {x : Tx} {b : List Tx → Bool → Prop} (hB : B ≤ n) : Fit B (HsI n x b) := by
  refine ⟨fun {s T W k} h hb => ?_, fun {s T W W'} h c => ?_⟩
  · obtain ⟨a, h3, _⟩ := h.ans
    rcases (h.own k).1 hb with e | e
    · subst e; exact ⟨by omega, h.ask.lt⟩
    · subst e; exact ⟨by omega, h3.lt⟩
  · obtain ⟨a, h3, h4⟩ := h.ans
    exact ⟨h.own, (c.block _ h.ask.lt (fun q => q ((h.own _).2 (.inl rfl)))).trans h.ask, a, (c.block _ h3.lt (fun q => q ((h.own _).2 (.inr rfl)))).trans h3, h4⟩
theorem rs_mem_stop {L p : List Tx} {x y : Tx} (hR : Rs L) (hpre : p ++ [x] <+: L) (hp : ∀ z ∈ p, lt z y = true) (hx : lt x y = false) : y ∈ L ↔ x = y := by
  obtain ⟨r, rfl⟩ := hpre
  constructor
  · intro h
    rcases List.mem_append.1 h with h | h
    · rcases List.mem_append.1 h with h | h
      · have := hp y h; rw [lt_irr] at this; cases this
      · simp at h; exact h.symm
    · have := (rs_app.1 hR).2.2 x (by simp) y h
      rw [this] at hx; cases hx
  · rintro rfl; simp

set_option maxRecDepth 100000 in
set_option maxHeartbeats 2000000 in
theorem has_any {v : Value} {L : List Tx} {B : Nat} {w₀ w : World} (h : Gives Try.prog v L B w₀) (hR : Rs L) (hb : Below B w₀ w) (hB : B ≤ w.heap.size) (y : Tx) :
    Calls Try.prog 15 #[.agg #[v], .string y] w fun e w' => ∃ b, e = .returned (.bool b) ∧ (b = true ↔ y ∈ L) ∧ Below w.heap.size w w' := by
  have H := hide h
  have HB := hide hb
  have HR := hide hR
  clear h hb hR
  refine (callsIn_wide (n := 8)).1 ?_
  refine callsIn_of_wp_marks Try.func15 rfl trivial ?_ rfl
  simp only [Try.ntmps15, List.size_toArray, List.length_cons, List.length_nil, Nat.reduceAdd, Nat.reduceSub, Array.replicate_succ, Array.replicate_zero, List.push_toArray, List.append_toArray, List.nil_append, List.cons_append]
  gi_wp2_with (refine ⟨trivial, ?_⟩; gi_at_call 19; refine (callsIn_wide.2 (all_any (unhide H) _)).mono ?_; rintro e w' ⟨gf, lb, rfl, hwk, rfl⟩)
  have HW := hide hwk
  clear hwk
  refine gen_in ?_
  intro V hV
  have bM : Boxed V (w.heap.size + 1) 9 (.string y) := by
    have := ((Boxed.new (w.alloc (.cells #[v] 27)) 9 (.string y)).alloc (.cells #[.bool false] 4)).alloc (.cells #[v] 27)
    rw [World.size_alloc] at this
    rw [hV]; exact this
  have bL : Boxed V (w.heap.size + 1 + 1) 4 (.bool false) := by
    have := (Boxed.new ((w.alloc (.cells #[v] 27)).alloc (.cells #[.string y] 9)) 4 (.bool false)).alloc (.cells #[v] 27)
    rw [World.size_alloc, World.size_alloc] at this
    rw [hV]; exact this
  have hVw : Below w.heap.size w V := by rw [hV]; (repeat (first | exact Below.refl _ _ | refine Below.drew ?_ | refine Below.alloc ?_ (by first | (simp; done) | (simp; omega)) _ | refine Below.setCell ?_ (by first | (simp; done) | (simp; omega)) _))
  have hVs : w.heap.size + 4 ≤ V.heap.size := by rw [hV]; simp
  clear hV
  have hVB : Below B w₀ V := (unhide HB).trans (hVw.mono hB)
  refine range_law (unhide HW) rfl hVB (by omega) rfl (HsI w.heap.size y fun pre a => a = false ∧ ∀ z ∈ pre, lt z y = true) (fun c pre T W => c = .ret ∧ HsI w.heap.size y (fun pre a => ∃ p x, pre = p ++ [x] ∧ (∀ z ∈ p, lt z y = true) ∧ lt x y = false ∧ a = (x.toList == y.toList)) pre T W) (HsI.fit hB) (fun c => ⟨fun h hb => (HsI.fit hB).foot h.2 hb, fun h k => ⟨h.1, (HsI.fit hB).abide h.2 k⟩⟩)
    (fun b => b = w.heap.size + 1 ∨ b = w.heap.size + 1 + 1) ⟨fun b => Iff.rfl, bM, _, bL, rfl, by simp⟩
    (fun x => { tmps := #[.agg #[v], .string y, .pointer (some ⟨w.heap.size, 0, none⟩), .pointer (some ⟨w.heap.size + 1, 0, none⟩), .pointer (some ⟨w.heap.size + 1 + 1, 0, none⟩), .string x, .agg #[v], .func (.func gf) #[] lb, .string x, undef, undef, undef, undef, undef, undef], defers := [] }) ?assign ?body ?done ?stop
  case assign =>
    intro l x W K hK
    gi_wp2
    exact hK
  case body =>
    rintro l pre x T W ⟨eT, b1, a0, b2, rfl, hall⟩ hpre hch
    have hc := b1.cell
    have hc2 := b2.cell
    have hf2 := b2.frozen
    have q1 := b1.other (B' := w.heap.size + 1 + 1) (by omega) (.bool ((x.toList == y.toList)))
    have q2 := b2.set (.bool ((x.toList == y.toList)))
    have e1 := lt_def x y
    cases hx : lt x y with
    | true =>
      have HF : Hid (∃ T', Chg T W W ∧ (∀ b, T' b → Up T W W b) ∧ HsI w.heap.size y (fun pre a => a = false ∧ ∀ z ∈ pre, lt z y = true) (pre ++ [x]) T' W) :=
        ⟨T, Chg.refl _ _, fun b hb => .inl hb, eT, b1, _, b2, rfl, fun z hz => by
          rcases List.mem_append.1 hz with hz | hz
          · exact hall z hz
          · simp at hz; subst hz; exact hx⟩
      rw [hx] at e1
      clear q1 q2 eT b1 b2 hall hpre hx
      gi_wp2
      exact unhide HF
    | false =>
      have HF : Hid (∃ T', Chg T W (W.setCell ⟨w.heap.size + 1 + 1, 0, none⟩ (.bool ((x.toList == y.toList)))) ∧ (∀ b, T' b → Up T W (W.setCell ⟨w.heap.size + 1 + 1, 0, none⟩ (.bool ((x.toList == y.toList)))) b) ∧ HsI w.heap.size y (fun pre a => ∃ p x, pre = p ++ [x] ∧ (∀ z ∈ p, lt z y = true) ∧ lt x y = false ∧ a = (x.toList == y.toList)) (pre ++ [x]) T' (W.setCell ⟨w.heap.size + 1 + 1, 0, none⟩ (.bool ((x.toList == y.toList))))) :=
        ⟨T, (Chg.refl T W).setCell (.inl ((eT _).2 (.inr rfl))) _, fun b hb => .inl (by simpa using hb), eT, q1, _, q2, pre, x, rfl, hall, hx, rfl⟩
      rw [hx] at e1
      clear q1 q2 eT b1 b2 hall hpre hx
      gi_wp2
      exact ⟨_, (unhide HF).choose_spec.1, (unhide HF).choose_spec.2.1, rfl, (unhide HF).choose_spec.2.2⟩
  case done =>
    rintro D T W hD hTD ⟨eT, b1, a0, b2, rfl, hall⟩ hch hup hK
    have hc := b2.cell
    have hf := b2.frozen
    have e : Hid ((false = true) ↔ y ∈ L) := ⟨(fun h => by cases h), (fun h => by have := hall y h; rw [lt_irr] at this; cases this)⟩
    have q2 := (b2.set (.bool false)).cell
    have hK2 : (W.setCell ⟨w.heap.size + 1 + 1, 0, none⟩ (.bool false)).heap[D]? = some (.deferred (some [])) := (Below.heap_setCell _ _ _ _ (fun e => hTD ((eT _).2 (.inr e)))).trans hK
    have HF := hide (back_below hVw (fun b hb => by rcases hb with e | e <;> omega) (hch.setCell (p := ⟨w.heap.size + 1 + 1, 0, none⟩) (.inl (.inr rfl)) (.bool false)) hD)
    clear eT b1 b2 hall
    gi_wp2
    refine ⟨by simp, .inl ⟨_, _, rfl, run_takeDeferred hK2, ?_⟩⟩
    refine ⟨_, results_bool rfl (g := w.heap.size + 1 + 1) (b := false) rfl ?_, false, rfl, unhide e, unhide HF⟩
    exact cell_kept q2 (grownBy_putObj' _ D (.deferred none)) (fun r e => by cases e; exact ⟨_, hK2, rfl⟩)
  case stop =>
    rintro D c pre T W hD hTD hpre ⟨rfl, eT, b1, a0, b2, p, x, rfl, hall, hx, rfl⟩ hch hup hK
    have hc := b2.cell
    have e : Hid (((x.toList == y.toList) = true) ↔ y ∈ L) := tx_beq.trans (rs_mem_stop (unhide HR) hpre hall hx).symm
    have HF := hide (back_below hVw (fun b hb => by rcases hb with e | e <;> omega) hch hD)
    clear eT b1 b2 hall hx
    gi_wp2
    refine ⟨by simp, .inl ⟨_, _, rfl, run_takeDeferred hK, ?_⟩⟩
    refine ⟨_, results_bool rfl (g := w.heap.size + 1 + 1) (b := (x.toList == y.toList)) rfl ?_, _, rfl, unhide e, unhide HF⟩
    exact cell_kept hc (grownBy_putObj' _ D (.deferred none)) (fun r e => by cases e; exact ⟨_, hK, rfl⟩)
end Sm
end Go.Proofs.Ytamlfmohalkemaa
