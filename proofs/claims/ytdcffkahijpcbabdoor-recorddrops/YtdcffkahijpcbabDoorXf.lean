/- Layer 6: RecordDrops: both stores beside each other; Break; Open of both sides. -/
import Derived.Test.YtdcffkahijpcbabDoorXe
namespace Go.Proofs.YtdcffkahijpcbabDoor
open Go.RowKit
namespace Rs
/-- both stores -/
def P2 (w wr : World) (sb tb : Nat) (m md : Sto) : Prop := ∃ F F2 rv sl, At wr sb m F ∧ DIn wr tb md F2 rv sl ∧ (∀ b, F b → ¬ F2 b) ∧ (∀ b, F b ∨ F2 b → w.heap.size ≤ b) ∧ Below w.heap.size w wr
/-- both stores, and the program's writer -/
def P3 (w wr : World) (E : Nat → Addr) (sb wb tb : Nat) (m : Sto) (x : Wri) (md : Sto) : Prop := ∃ F G F2 bv rv sl, At wr sb m F ∧ WIn wr E sb wb x G bv ∧ DIn wr tb md F2 rv sl ∧ (∀ b, F b → ¬ G b) ∧ (∀ b, F b ∨ G b → ¬ F2 b) ∧ (∀ b, F b ∨ G b ∨ F2 b → w.heap.size ≤ b) ∧ Below w.heap.size w wr
section
variable {w wr : World} {E : Nat → Addr} {sb wb tb : Nat} {m : Sto} {x : Wri} {md : Sto}
theorem P2.old (h : P2 w wr sb tb m md) : Below w.heap.size w wr := by obtain ⟨F, F2, rv, sl, h1, h2, h3, h4, h5⟩ := h; exact h5
theorem P2.below {W : World} (h : P2 w wr sb tb m md) (hb : Below wr.heap.size wr W) : P2 w W sb tb m md := by
  obtain ⟨F, F2, rv, sl, h1, h2, h3, h4, h5⟩ := h
  exact ⟨F, F2, rv, sl, h1.kept (fun b hF => hb.block b (h1.lt b hF)) (fun _ x => x) (fun b hF => Nat.lt_of_lt_of_le (h1.lt b hF) hb.size), h2.below hb, h3, h4, h5.trans (hb.mono h5.size)⟩
/-- behind a call that turned the program's store -/
theorem P2.res {W : World} {m' : Sto} {F F2 : Nat → Prop} {rv : Value} {sl : Nat → Value} (h2 : DIn wr tb md F2 rv sl) (h3 : ∀ b, F b → ¬ F2 b) (h4 : ∀ b, F b ∨ F2 b → w.heap.size ≤ b) (h5 : Below w.heap.size w wr) (r : Res F wr sb m' W) : P2 w W sb tb m' md := by
  have hz := r.2.size
  refine ⟨_, F2, rv, sl, r.1, h2.kept (fun b hb => r.2.block b (h2.lt b hb) fun e => h3 b e hb) (fun _ y => y) (fun b hb => Nat.lt_of_lt_of_le (h2.lt b hb) hz), fun b hb e => ?_, fun b hb => ?_, h5.trans (r.2.below h5.size fun k hk => h4 k (.inl hk))⟩
  · rcases hb with hb | hb
    · exact h3 b hb e
    · have := h2.lt b e; omega
  · rcases hb with (hb | hb) | hb
    · exact h4 b (.inl hb)
    · exact Nat.le_trans h5.size hb.1
    · exact h4 b (.inr hb)
/-- behind a call that turned the document's store -/
theorem P2.dres {W : World} {md' : Sto} {F F2 : Nat → Prop} (h1 : At wr sb m F) (h3 : ∀ b, F b → ¬ F2 b) (h4 : ∀ b, F b ∨ F2 b → w.heap.size ≤ b) (h5 : Below w.heap.size w wr) (r : DRes F2 wr tb md' W) : P2 w W sb tb m md' := by
  obtain ⟨⟨rv', sl', q1⟩, c⟩ := r
  have hz := c.size
  refine ⟨F, _, rv', sl', h1.kept (fun b hb => c.block b (h1.lt b hb) (h3 b hb)) (fun _ y => y) (fun b hb => Nat.lt_of_lt_of_le (h1.lt b hb) hz), q1, fun b hb e => ?_, fun b hb => ?_, h5.trans (c.below h5.size fun k hk => h4 k (.inr hk))⟩
  · rcases e with e | e
    · exact h3 b hb e
    · have := h1.lt b hb; omega
  · rcases hb with hb | hb | hb
    · exact h4 b (.inl hb)
    · exact h4 b (.inr hb)
    · exact Nat.le_trans h5.size hb.1
theorem p2_break (h : P2 w wr sb tb m md) (n : Int) (hn : n ≤ 9223372036854775807) :
    Calls Tryd.prog 19 #[.pointer (some ⟨sb, 0, none⟩), .int .i64 n] wr fun e w' => e = .returned (.tuple #[]) ∧ P2 w w' sb tb (m.brk n) md := by
  obtain ⟨F, F2, rv, sl, h1, h2, h3, h4, h5⟩ := h
  refine (break_any h1 n hn).mono ?_
  rintro e w' ⟨rfl, r⟩
  exact ⟨rfl, P2.res h2 h3 h4 h5 r⟩
theorem p2_dbreak (h : P2 w wr sb tb m md) (n : Int) (hn : n ≤ 9223372036854775807) :
    Calls Tryd.prog 20 #[.pointer (some ⟨tb, 0, none⟩), .int .i64 n] wr fun e w' => e = .returned (.tuple #[]) ∧ P2 w w' sb tb m (md.brk n) := by
  obtain ⟨F, F2, rv, sl, h1, h2, h3, h4, h5⟩ := h
  refine (break_doc h2 n hn).mono ?_
  rintro e w' ⟨rfl, r1, r2, r3⟩
  exact ⟨rfl, P2.dres h1 h3 h4 h5 ⟨⟨rv, sl, r1.kept (fun _ _ => rfl) (fun b hb => .inl hb) (fun b hb => hb.elim (r1.lt b) fun y => y.2)⟩, r2⟩⟩
theorem p2_open_fail (V : Env w E w.heap.size) (h : P2 w wr sb tb m md) {b c : Nat} {m2 : Sto} (h1 : 1 ≤ b) (h2 : b ≤ 4096) (hc : crt m = ((0, c), m2)) (hc0 : c ≠ 0) :
    Calls Tryd.prog 11 #[.pointer (some ⟨sb, 0, none⟩), .int .i64 b] wr fun e w' => e = .returned (.tuple #[.pointer none, er E c]) ∧ P2 w w' sb tb m2 md := by
  obtain ⟨F, F2, rv, sl, k1, k2, k3, k4, k5⟩ := h
  refine (open_fail (V.below k5) (fun b hb => k4 b (.inl hb)) k1 h1 h2 hc hc0).mono ?_
  rintro e w' ⟨rfl, r⟩
  exact ⟨rfl, P2.res k2 k3 k4 k5 r⟩
theorem p2_dopen_fail (h : P2 w wr sb tb m md) {b c : Nat} {m2 : Sto} (h1 : 1 ≤ b) (h2 : b ≤ 4096) (hc : crt md = ((0, c), m2)) (hc0 : c ≠ 0) :
    Calls Tryd.prog 21 #[.pointer (some ⟨tb, 0, none⟩), .int .i64 b] wr fun e w' => e = .returned (.tuple #[.pointer none, .int .i64 c]) ∧ P2 w w' sb tb m m2 := by
  obtain ⟨F, F2, rv, sl, k1, k2, k3, k4, k5⟩ := h
  refine (dopen_fail k2 h1 h2 hc hc0).mono ?_
  rintro e w' ⟨rfl, r⟩
  exact ⟨rfl, P2.dres k1 k3 k4 k5 r⟩
theorem p2_open_go (V : Env w E w.heap.size) (h : P2 w wr sb tb m md) {b n : Nat} {m2 : Sto} (h1 : 1 ≤ b) (h2 : b ≤ 4096) (hc : crt m = (((n : Int), 0), m2)) :
    Calls Tryd.prog 11 #[.pointer (some ⟨sb, 0, none⟩), .int .i64 b] wr fun e w' => ∃ wb, e = .returned (.tuple #[.pointer (some ⟨wb, 0, none⟩), .nilIface]) ∧ P3 w w' E sb wb tb m2 ⟨n, b, [], 0⟩ md := by
  obtain ⟨F, F2, rv, sl, k1, k2, k3, k4, k5⟩ := h
  refine (open_go (V.below k5) (fun b hb => k4 b (.inl hb)) k1 h1 h2 hc).mono ?_
  rintro e w' ⟨wb, rfl, F', G', bv, q1, q2, q3, q4, q5, q6⟩
  have hz := q6.size
  have key : ∀ y, F' y ∨ G' y → F y ∨ wr.heap.size ≤ y := fun y hy => by
    rcases hy with hy | hy
    · exact (q4 y hy).imp id fun z => z.1
    · exact .inr (q5 y hy)
  refine ⟨wb, rfl, F', G', F2, bv, rv, sl, q1, q2, k2.kept (fun y hy => q6.block y (k2.lt y hy) fun e => k3 y e hy) (fun _ z => z) (fun y hy => Nat.lt_of_lt_of_le (k2.lt y hy) hz), q3, fun y hy e => ?_, fun y hy => ?_, k5.trans (q6.below k5.size fun k hk => k4 k (.inl hk))⟩
  · rcases key y hy with z | z
    · exact k3 y z e
    · have := k2.lt y e; omega
  · have := k5.size
    rcases hy with hy | hy | hy
    · rcases key y (.inl hy) with z | z
      · exact k4 y (.inl z)
      · omega
    · rcases key y (.inr hy) with z | z
      · exact k4 y (.inl z)
      · omega
    · exact k4 y (.inr hy)
theorem p3_dopen_go (h : P3 w wr E sb wb tb m x md) {b n : Nat} {m2 : Sto} (h1 : 1 ≤ b) (h2 : b ≤ 4096) (hc : crt md = (((n : Int), 0), m2)) :
    Calls Tryd.prog 21 #[.pointer (some ⟨tb, 0, none⟩), .int .i64 b] wr fun e w' => ∃ vb, e = .returned (.tuple #[.pointer (some ⟨vb, 0, none⟩), .int .i64 0]) ∧ Ps w w' E sb wb tb vb m x m2 ⟨n, b, 0, ByteArray.empty⟩ := by
  obtain ⟨F, G, F2, bv, rv, sl, k1, k2, k3, k4, k5, k6, k7⟩ := h
  refine (dopen_go k3 h1 h2 hc).mono ?_
  rintro e w' ⟨vb, rfl, q1, q2, ⟨F', rv', sl', q3, q4, q5⟩, q6⟩
  have hz := q6.size
  have h0 := k7.size
  refine ⟨vb, rfl, F, G, F', bv, rv', sl', k1.kept (fun y hy => q6.block y (k1.lt y hy) (k5 y (.inl hy))) (fun _ z => z) (fun y hy => Nat.lt_of_lt_of_le (k1.lt y hy) hz), k2.kept (fun y hy => q6.block y (k2.lt y hy) (k5 y (.inr hy))) (fun _ z => z) (fun y hy => Nat.lt_of_lt_of_le (k2.lt y hy) hz), q3, q1, k4, fun y hy e => ?_, fun y hy e => ?_, q5, fun y hy => ?_, k7.trans (q6.below h0 fun k hk => k6 k (.inr (.inr hk)))⟩
  · have hlt : y < wr.heap.size := hy.elim (k1.lt y) (k2.lt y)
    rcases q4 y e with z | z
    · exact k5 y hy z
    · omega
  · have hlt : y < wr.heap.size := hy.elim (k1.lt y) (k2.lt y)
    omega
  · rcases hy with hy | hy | hy | hy
    · exact k6 y (.inl hy)
    · exact k6 y (.inr (.inl hy))
    · rcases q4 y hy with z | z
      · exact k6 y (.inr (.inr z))
      · omega
    · omega
end
end Rs
end Go.Proofs.YtdcffkahijpcbabDoor
