/- Layer 8: the walk of StreamsHalves. -/
import Derived.Deep.Quiet
import Derived.BigQuiet
import Derived.Test.YtamlfmohalkemaaZq
import Derived.Test.YtamlfmohalkemaaZh
import Derived.Test.YtamlfmohalkemaaZl
namespace Go.Proofs.Ytamlfmohalkemaa
open Go.RowKit Go.Shelf
namespace Sm

theorem frm_mem {y x : Tx} {L : List Tx} : x ∈ frm y L ↔ x ∈ L ∧ lt x y = false := by
  unfold frm
  rw [List.mem_filter]
  simp
theorem agn_mem {R L : List Tx} {both : Bool} {x : Tx} : x ∈ agn R both L ↔ x ∈ L ∧ mem R x = both := by
  unfold agn
  rw [List.mem_filter, beq_iff_eq]
theorem frm_rs {y : Tx} {L : List Tx} (h : Rs L) : Rs (frm y L) := rs_filter h _
theorem agn_rs {R L : List Tx} {both : Bool} (h : Rs L) : Rs (agn R both L) := rs_filter h _
theorem frm_len (y : Tx) (L : List Tx) : (frm y L).length ≤ L.length := List.length_filter_le _ _
theorem agn_len (R L : List Tx) (both : Bool) : (agn R both L).length ≤ L.length := List.length_filter_le _ _
theorem halves_len {y : Tx} {L : List Tx} : (frm y L).length + (agn (frm y L) false L).length = L.length := by
  have e : agn (frm y L) false L = L.filter fun x => lt x y := by
    unfold agn
    refine List.filter_congr fun x hx => ?_
    rw [Bool.eq_iff_iff, beq_iff_eq]
    cases h : lt x y with
    | true =>
      simp only [iff_true]
      cases k : mem (frm y L) x with
      | false => rfl
      | true => have := (frm_mem.1 (mem_iff.1 k)).2; rw [h] at this; cases this
    | false =>
      have : mem (frm y L) x = true := mem_iff.2 (frm_mem.2 ⟨hx, h⟩)
      rw [this]
      simp
  rw [e]
  unfold frm
  clear e
  induction L with
  | nil => rfl
  | cons a t ih =>
    cases h : lt a y <;> simp [h] <;> omega
theorem least_of {y : Tx} {L : List Tx} (h : Rs L) : y ∈ L ↔ (frm y L).head? = some y := by
  have hr := frm_rs (y := y) h
  constructor
  · intro hy
    have hm : y ∈ frm y L := frm_mem.2 ⟨hy, lt_irr y⟩
    cases e : frm y L with
    | nil => rw [e] at hm; cases hm
    | cons z S =>
      rw [e] at hm hr
      have hz : lt z y = false := (frm_mem.1 (by rw [e]; simp : z ∈ frm y L)).2
      rcases List.mem_cons.1 hm with q | q
      · rw [q]; rfl
      · have := (rs_cons.1 hr).1 y q
        rw [this] at hz; cases hz
  · intro e
    exact (frm_mem.1 (List.mem_of_mem_head? (by rw [e]; exact rfl))).1

theorem wp_region_below {P : Program} {id : Nat} {Q : Exit → Act → World → Prop} {a : Act} {w : World} {l : List Oper} (hm : P.follows .mixedOrders = true) (hB : Region.lexB .any l.toArray = true)
    (h : wpQuiet P l.toArray (fun W' => Below w.heap.size w W') (fun a' => ∀ w', Below w.heap.size w w' → Q .normal a' w') l a) : (Code.region id l.toArray true).wp P Q a w :=
  wp_region_quiet (C := fun W' => Below w.heap.size w W') hm hB ((Below.refl _ w).drew) (by simpa using h)
theorem quiet_ld {o : Oper} {a : Act} {C : World → Prop} {K : Act → Prop} (x : Operand) (ho : o.op = .load 27 x) (g : Nat) (hx : a.eval x = .pointer (some ⟨g, 0, none⟩)) (v : Value) (hC : ∀ W, C W → Boxed W g 27 v) (hk : K (a.put o.dst (.agg #[v]))) : o.quiet Try.prog a C K := by
  refine ⟨.agg #[v], fun W hW => ?_, hk⟩
  have hl := run_loadVar_row (P := Try.prog) W g 27 27 #[v] (0, 0) _ (hC W hW) Try.underlying27 rfl (by kernel_rfl)
  unfold Oper.quietAt execOp
  simp only [ho, hx, Instr.loadAt, Instr.sureAddr, Sem.run_bind, Sem.run_pure, Result.andThen_ok, hl]
  exact ⟨rfl, rfl⟩
theorem quiet_ldS {o : Oper} {a : Act} {C : World → Prop} {K : Act → Prop} (x : Operand) (ho : o.op = .load 9 x) (g off : Nat) (hx : a.eval x = .pointer (some ⟨g, off, none⟩)) (z : Tx) (hC : ∀ W, C W → W.cell? ⟨g, off, none⟩ = some (.string z)) (hk : K (a.put o.dst (.string z))) : o.quiet Try.prog a C K := by
  refine ⟨.string z, fun W hW => ?_, hk⟩
  have hc := hC W hW
  unfold Oper.quietAt execOp
  simp only [ho, hx, Instr.loadAt, Instr.sureAddr, Sem.run_bind, Sem.run_pure, Result.andThen_ok]
  simp [go_sem, hc]
theorem calls_keep {f : FuncId} {args : Array Value} {w0 W : World} {v : Value} (h : Calls Try.prog f args W fun e w' => e = .returned v ∧ Below W.heap.size W w') (hW : Below w0.heap.size w0 W) : Calls Try.prog f args W fun e w'' => e = .returned v ∧ Below w0.heap.size w0 w'' :=
  h.mono fun _ _ ⟨he, hb⟩ => ⟨he, hW.trans (hb.mono hW.size)⟩
/-- a stream in a box of one's own, whatever is made beside -/
structure StB (w : World) (b : Nat) (v : Value) (L : List Tx) : Prop where
  box : Boxed w b 27 v
  giv : ∃ B, B ≤ w.heap.size ∧ Gives Try.prog v L B w
  rs : Rs L
  len : L.length ≤ 8796093022208
theorem StB.below {w w' : World} {b : Nat} {v : Value} {L : List Tx} (h : StB w b v L) (hb : Below w.heap.size w w') : StB w' b v L := by
  obtain ⟨h1, ⟨B, h2, h3⟩, h4, h5⟩ := h
  exact ⟨bx_below h1 hb h1.lt, ⟨B, Nat.le_trans h2 hb.size, h3.later (hb.mono h2) (Nat.le_refl _)⟩, h4, h5⟩
theorem StB.new {w : World} {gf : FuncId} {lb : Array Value} {L : List Tx} (h : Walks Try.prog gf lb L w.heap.size w) (hr : Rs L) (hz : L.length ≤ 8796093022208) : StB (w.alloc (.cells #[.func (.func gf) #[] lb] 27)) w.heap.size (.func (.func gf) #[] lb) L :=
  ⟨Boxed.new _ _ _, ⟨w.heap.size, by simp, (h.gives).later ((Below.refl _ w).alloc (Nat.le_refl _) _) (Nat.le_refl _)⟩, hr, hz⟩
theorem StB.count {w : World} {b : Nat} {v : Value} {L : List Tx} (h : StB w b v L) : Calls Try.prog 20 #[.agg #[v]] w fun e w' => e = .returned (.int .i64 (L.length : Int)) ∧ Below w.heap.size w w' := by
  obtain ⟨h1, ⟨B, h2, h3⟩, h4, h5⟩ := h
  exact count_any h3 (Below.refl _ _) h2 h5
theorem StB.list {w : World} {b : Nat} {v : Value} {L : List Tx} (h : StB w b v L) (most : Int) : Calls Try.prog 17 #[.agg #[v], .int .i64 most] w fun e w' => ∃ a c, e = .returned (.slice a (L.take most.toNat).length c) ∧ Own w' (.slice a (L.take most.toNat).length c) (L.take most.toNat) ∧ Below w.heap.size w w' := by
  obtain ⟨h1, ⟨B, h2, h3⟩, h4, h5⟩ := h
  refine (list_any h3 (Below.refl _ _) h2 h5 most).mono ?_
  rintro e w' ⟨sl, rfl, ho, hn, hb⟩
  obtain ⟨a, c, rfl⟩ := ho.slice
  exact ⟨a, c, rfl, ho, hb⟩
theorem StB.has {w : World} {b : Nat} {v : Value} {L : List Tx} (h : StB w b v L) (y : Tx) : Calls Try.prog 15 #[.agg #[v], .string y] w fun e w' => e = .returned (.bool (mem L y)) ∧ Below w.heap.size w w' := by
  obtain ⟨h1, ⟨B, h2, h3⟩, h4, h5⟩ := h
  refine (has_any h3 h4 (Below.refl _ _) h2 y).mono ?_
  rintro e w' ⟨b, rfl, hb, hw⟩
  refine ⟨?_, hw⟩
  rw [show b = mem L y by rw [Bool.eq_iff_iff, hb, mem_iff]]
theorem StB.from {w : World} {b : Nat} {v : Value} {L : List Tx} (h : StB w b v L) (y : Tx) : Calls Try.prog 23 #[.agg #[v], .string y] w fun e w' => ∃ gf lb, e = .returned (.agg #[.func (.func gf) #[] lb]) ∧ Walks Try.prog gf lb (frm y L) w'.heap.size w' ∧ Below w.heap.size w w' := by
  obtain ⟨h1, ⟨B, h2, h3⟩, h4, h5⟩ := h
  exact from_any h3 (Below.refl _ _) h2
theorem StB.minus {w : World} {b b' : Nat} {v v' : Value} {L R : List Tx} (h : StB w b v L) (k : StB w b' v' R) : Calls Try.prog 21 #[.agg #[v], .agg #[v']] w fun e w' => ∃ gf lb, e = .returned (.agg #[.func (.func gf) #[] lb]) ∧ Walks Try.prog gf lb (agn R false L) w'.heap.size w' ∧ Below w.heap.size w w' := by
  obtain ⟨h1, ⟨B, h2, h3⟩, h4, h5⟩ := h
  obtain ⟨k1, ⟨B', k2, k3⟩, k4, k5⟩ := k
  exact minus_any (h3.later (Below.refl _ _) h2) (k3.later (Below.refl _ _) k2) h4 k4 k5 (Below.refl _ _) (Nat.le_refl _)
end Sm
end Go.Proofs.Ytamlfmohalkemaa
