/- Layer 6: RecordDrops: Close of both sides; then the program's writer alone: dead or closed, dropped. -/
import Derived.Test.YtdcffkahijpcbabDoorXd
namespace Go.Proofs.YtdcffkahijpcbabDoor
open Go.RowKit
namespace Rs
/-- as Pw, the program's writer being closed -/
structure Pz (w wr : World) (sb wb tb vb : Nat) (m md : Sto) (d : Doc) (F F2 : Nat → Prop) (rv : Value) (sl : Nat → Value) : Prop where
  sto : At wr sb m F
  wri : WCl wr wb
  doc : DIn wr tb md F2 rv sl
  dwr : VIn wr vb d
  fg : ¬ F wb
  f2 : ∀ b, F b ∨ b = wb → ¬ F2 b
  fv : ∀ b, F b ∨ b = wb → b ≠ vb
  nv : ¬ F2 vb
  lo : ∀ b, F b ∨ b = wb ∨ F2 b ∨ b = vb → w.heap.size ≤ b
  old : Below w.heap.size w wr
def Pzs (w wr : World) (sb wb tb vb : Nat) (m md : Sto) (d : Doc) : Prop := ∃ F F2 rv sl, Pz w wr sb wb tb vb m md d F F2 rv sl
/-- the program's store and its writer, living or dead -/
def Pp (w wr : World) (E : Nat → Addr) (sb wb : Nat) (m : Sto) (x : Wri) : Prop := ∃ F G bv, At wr sb m F ∧ WIn wr E sb wb x G bv ∧ (∀ b, F b → ¬ G b) ∧ (∀ b, F b ∨ G b → w.heap.size ≤ b) ∧ Below w.heap.size w wr
/-- the program's store and its closed writer -/
def Pk (w wr : World) (sb wb : Nat) (m : Sto) : Prop := ∃ F, At wr sb m F ∧ WCl wr wb ∧ (∀ b, F b → w.heap.size ≤ b) ∧ Below w.heap.size w wr
section
variable {w wr : World} {E : Nat → Addr} {sb wb tb vb : Nat} {m : Sto} {x : Wri} {md : Sto} {d : Doc} {F G F2 : Nat → Prop} {bv rv : Value} {sl : Nat → Value}
theorem Pw.cres {W : World} {m' : Sto} (h : Pw w wr E sb wb tb vb m x md d F G F2 bv rv sl) (r : CRes F G wr sb wb m' W) : Pzs w W sb wb tb vb m' md d := by
  obtain ⟨F', q1, q2, q3, q4, q6⟩ := r
  have hvb : vb < wr.heap.size := (Array.getElem?_eq_some_iff.1 h.dwr).1
  have hz := q6.size
  have hzo := h.old.size
  have key : ∀ b, F' b ∨ b = wb → (F b ∨ G b) ∨ wr.heap.size ≤ b := fun b hb => by
    rcases hb with hb | hb
    · exact (q2 b hb).elim (fun y => .inl (.inl y)) fun y => .inr y.1
    · exact .inl (.inr (hb ▸ h.wri.own))
  refine ⟨F', F2, rv, sl, q1, q4, h.doc.kept (fun b hb => q6.block b (h.doc.lt b hb) fun e => h.f2 b e hb) (fun _ y => y) (fun b hb => Nat.lt_of_lt_of_le (h.doc.lt b hb) hz), (q6.block vb hvb fun e => h.fv vb e rfl).trans h.dwr, q3, fun b hb h2 => ?_, fun b hb e => ?_, h.nv, fun b hb => ?_, h.old.trans (q6.below hzo fun k hk => h.lo k (hk.elim .inl fun y => .inr (.inl y)))⟩
  · rcases key b hb with y | y
    · exact h.f2 b y h2
    · have := h.doc.lt b h2; omega
  · rcases key b hb with y | y
    · exact h.fv b y e
    · omega
  · rcases hb with hb | hb | hb | hb
    · rcases key b (.inl hb) with y | y
      · exact h.lo b (y.elim .inl fun z => .inr (.inl z))
      · omega
    · exact h.lo b (.inr (.inl (hb ▸ h.wri.own)))
    · exact h.lo b (.inr (.inr (.inl hb)))
    · exact h.lo b (.inr (.inr (.inr hb)))
theorem Pzs.dres {W : World} {md' : Sto} {d' : Doc} (h : Pz w wr sb wb tb vb m md d F F2 rv sl) (r : DocW wr W F2 tb vb md' d') : Pk w W sb wb m := by
  obtain ⟨_, _, q6⟩ := r
  have hno : ∀ b, F b ∨ b = wb → ¬ (F2 b ∨ b = vb) := fun b hb e => e.elim (h.f2 b hb) (h.fv b hb)
  exact ⟨F, h.sto.kept (fun b hb => q6.block b (h.sto.lt b hb) (hno b (.inl hb))) (fun _ y => y) (fun b hb => Nat.lt_of_lt_of_le (h.sto.lt b hb) q6.size), (q6.block wb (Array.getElem?_eq_some_iff.1 h.wri).1 (hno wb (.inr rfl))).trans h.wri, fun b hb => h.lo b (.inl hb), h.old.trans (q6.below h.old.size fun k hk => h.lo k (.inr (.inr hk)))⟩
theorem Ps.pp (h : Ps w wr E sb wb tb vb m x md d) : Pp w wr E sb wb m x := by
  obtain ⟨F, G, F2, bv, rv, sl, h⟩ := h
  exact ⟨F, G, bv, h.sto, h.wri, h.fg, fun b hb => h.lo b (hb.elim .inl fun y => .inr (.inl y)), h.old⟩
theorem Pp.below {W : World} (h : Pp w wr E sb wb m x) (hb : Below wr.heap.size wr W) : Pp w W E sb wb m x := by
  obtain ⟨F, G, bv, h1, h2, h3, h4, h5⟩ := h
  exact ⟨F, G, bv, h1.kept (fun b hF => hb.block b (h1.lt b hF)) (fun _ x => x) (fun b hF => Nat.lt_of_lt_of_le (h1.lt b hF) hb.size), h2.below hb, h3, h4, h5.trans (hb.mono h5.size)⟩
theorem Pk.below {W : World} (h : Pk w wr sb wb m) (hb : Below wr.heap.size wr W) : Pk w W sb wb m := by
  obtain ⟨F, h1, h2, h3, h4⟩ := h
  exact ⟨F, h1.kept (fun b hF => hb.block b (h1.lt b hF)) (fun _ x => x) (fun b hF => Nat.lt_of_lt_of_le (h1.lt b hF) hb.size), h2.below hb, h3, h4.trans (hb.mono h4.size)⟩
theorem Pk.old (h : Pk w wr sb wb m) : Below w.heap.size w wr := by obtain ⟨F, h1, h2, h3, h4⟩ := h; exact h4
theorem Pp.old (h : Pp w wr E sb wb m x) : Below w.heap.size w wr := by obtain ⟨F, G, bv, h1, h2, h3, h4, h5⟩ := h; exact h5
/-- Close of the program's, by what it comes to -/
theorem ps_close_dead (h : Ps w wr E sb wb tb vb m x md d) (hd : x.dead ≠ 0) :
    Calls Tryd.prog 13 #[.pointer (some ⟨wb, 0, none⟩)] wr fun e w' => e = .returned (.tuple #[.int .i64 0, er E x.dead]) ∧ Ps w w' E sb wb tb vb m x md d := by
  have h0 := h
  obtain ⟨F, G, F2, bv, rv, sl, h⟩ := h
  refine (close_dead h.wri hd).mono ?_
  rintro e w' ⟨rfl, rfl⟩
  exact ⟨rfl, h0⟩
theorem ps_close_fail (V : Env w E w.heap.size) (h : Ps w wr E sb wb tb vb m x md d) (hd : x.dead = 0) (hrun : x.run ≤ 16777216) {c : Nat} {m2 : Sto} (hP : wclo x.run m x.buf = (c, m2)) (hc : c ≠ 0) :
    Calls Tryd.prog 13 #[.pointer (some ⟨wb, 0, none⟩)] wr fun e w' => e = .returned (.tuple #[.int .i64 0, er E c]) ∧ Ps w w' E sb wb tb vb m2 { x with buf := [], dead := c } md d := by
  obtain ⟨F, G, F2, bv, rv, sl, h⟩ := h
  refine (close_fail (V.below h.old) (fun b hb => h.lo b (.inl hb)) (fun b hb => h.lo b (.inr (.inl hb))) h.old.size h.sto h.wri h.fg hd hrun c m2 hP hc).mono ?_
  rintro e w' ⟨rfl, r⟩
  exact ⟨rfl, h.wres r⟩
theorem ps_close_go (V : Env w E w.heap.size) (h : Ps w wr E sb wb tb vb m x md d) (hd : x.dead = 0) (hrun : x.run ≤ 16777216) {m2 : Sto} (hP : wclo x.run m x.buf = (0, m2)) :
    Calls Tryd.prog 13 #[.pointer (some ⟨wb, 0, none⟩)] wr fun e w' => e = .returned (.tuple #[.int .i64 x.run, .nilIface]) ∧ Pzs w w' sb wb tb vb m2 md d := by
  obtain ⟨F, G, F2, bv, rv, sl, h⟩ := h
  have key : ∃ m1, (x.buf = [] → m1 = m) ∧ (x.buf ≠ [] → app m x.run [strB x.buf] = (0, m1)) ∧ sel m1 x.run = (0, m2) := by
    unfold wclo at hP
    by_cases hb : x.buf = []
    · rw [if_pos hb] at hP
      exact ⟨m, fun _ => rfl, fun e => absurd hb e, hP⟩
    · rw [if_neg hb] at hP
      by_cases h0 : (app m x.run [strB x.buf]).1 = 0
      · rw [if_pos h0] at hP
        exact ⟨_, fun e => absurd e hb, fun _ => Prod.ext h0 rfl, hP⟩
      · rw [if_neg h0] at hP
        exact absurd (by rw [hP]) h0
  obtain ⟨m1, a1, a2, a3⟩ := key
  refine (close_go (V.below h.old) (fun b hb => h.lo b (.inl hb)) (fun b hb => h.lo b (.inr (.inl hb))) h.old.size h.sto h.wri h.fg hd hrun m1 a1 a2 a3).mono ?_
  rintro e w' ⟨rfl, r⟩
  exact ⟨rfl, h.cres r⟩
/-- Close of the document's -/
theorem ps_dclose_dead (h : Ps w wr E sb wb tb vb m x md d) (hd : d.dead ≠ 0) :
    Calls Tryd.prog 25 #[.pointer (some ⟨tb, 0, none⟩), .pointer (some ⟨vb, 0, none⟩)] wr fun e w' => e = .returned (.tuple #[.int .i64 0, .int .i64 d.dead]) ∧ Pp w w' E sb wb m x := by
  have h0 := h
  obtain ⟨F, G, F2, bv, rv, sl, h⟩ := h
  refine (dclose_dead h.dwr hd).mono ?_
  rintro e w' ⟨rfl, r⟩
  exact ⟨rfl, h0.pp.below r⟩
theorem ps_dclose_go (h : Ps w wr E sb wb tb vb m x md d) (hd : d.dead = 0) (hh : d.held.size ≤ 4096) {c : Nat} {m2 : Sto} (hP : wclo d.run md (Um.lst d.held) = (c, m2)) :
    Calls Tryd.prog 25 #[.pointer (some ⟨tb, 0, none⟩), .pointer (some ⟨vb, 0, none⟩)] wr fun e w' => e = .returned (.tuple #[.int .i64 (if c = 0 then (d.run : Int) else 0), .int .i64 c]) ∧ Pp w w' E sb wb m x := by
  obtain ⟨F, G, F2, bv, rv, sl, h⟩ := h
  refine (dclose_go h.doc h.dwr h.nv hd hh (hide hP)).mono ?_
  rintro e w' ⟨rfl, held, r⟩
  exact ⟨rfl, (h.dres r).pp⟩
theorem pz_dclose_go (h : Pzs w wr sb wb tb vb m md d) (hd : d.dead = 0) (hh : d.held.size ≤ 4096) {c : Nat} {m2 : Sto} (hP : wclo d.run md (Um.lst d.held) = (c, m2)) :
    Calls Tryd.prog 25 #[.pointer (some ⟨tb, 0, none⟩), .pointer (some ⟨vb, 0, none⟩)] wr fun e w' => e = .returned (.tuple #[.int .i64 (if c = 0 then (d.run : Int) else 0), .int .i64 c]) ∧ Pk w w' sb wb m := by
  obtain ⟨F, F2, rv, sl, h⟩ := h
  refine (dclose_go h.doc h.dwr h.nv hd hh (hide hP)).mono ?_
  rintro e w' ⟨rfl, held, r⟩
  exact ⟨rfl, Pzs.dres h r⟩
/-- Drop -/
theorem pp_drop (V : Env w E w.heap.size) (h : Pp w wr E sb wb m x) (hrun : x.run ≤ 16777216) :
    Calls Tryd.prog 26 #[.pointer (some ⟨wb, 0, none⟩)] wr fun e w' => e = .returned (.tuple #[]) ∧ Pk w w' sb wb (rem m x.run).2 := by
  obtain ⟨F, G, bv, h1, h2, h3, h4, h5⟩ := h
  refine (drop_go (V.below h5) (fun b hb => h4 b (.inl hb)) h1 h2 h3 hrun).mono ?_
  rintro e w' ⟨rfl, F', q1, q2, q3, q4, q5⟩
  exact ⟨rfl, F', q1, q4, fun b hb => (q2 b hb).elim (fun y => h4 b (.inl y)) fun y => Nat.le_trans h5.size y.1, h5.trans (q5.below h5.size fun k hk => h4 k hk)⟩
theorem pk_drop (h : Pk w wr sb wb m) :
    Calls Tryd.prog 26 #[.pointer (some ⟨wb, 0, none⟩)] wr fun e w' => e = .returned (.tuple #[]) ∧ Pk w w' sb wb m := by
  have h0 := h
  obtain ⟨F, h1, h2, h3, h4⟩ := h
  refine (drop_closed h2).mono ?_
  rintro e w' ⟨rfl, rfl⟩
  exact ⟨rfl, h0⟩
theorem pk_live (h : Pk w wr sb wb m) :
    Calls Tryd.prog 23 #[.pointer (some ⟨sb, 0, none⟩)] wr fun e w' => ∃ a c, e = .returned (.slice a (nums m.runs).length c) ∧ Pk w w' sb wb m := by
  have h0 := h
  obtain ⟨F, h1, h2, h3, h4⟩ := h
  refine (live_any h1).mono ?_
  rintro e w' ⟨v, rfl, ho, hb⟩
  obtain ⟨a, c, rfl⟩ := own_slice ho
  exact ⟨a, c, rfl, h0.below hb⟩
theorem pk_used (h : Pk w wr sb wb m) :
    Calls Tryd.prog 27 #[.pointer (some ⟨sb, 0, none⟩)] wr fun e w' => e = .returned (.int .i64 (tot m.runs)) ∧ w' = wr := by
  obtain ⟨F, h1, h2, h3, h4⟩ := h
  exact used_any h1
end
end Rs
end Go.Proofs.YtdcffkahijpcbabDoor
