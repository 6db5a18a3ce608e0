/- Layer 6: a writer of the program and one of the document beside each other. -/
import Derived.Test.YtdcffkahijpcbabDoorWe
namespace Go.Proofs.YtdcffkahijpcbabDoor
open Go.RowKit
namespace Rs
/-- both stores and both writers, apart from each other and from what is older than w -/
structure Pw (w wr : World) (E : Nat → Addr) (sb wb tb vb : Nat) (m : Sto) (x : Wri) (md : Sto) (d : Doc) (F G F2 : Nat → Prop) (bv rv : Value) (sl : Nat → Value) : Prop where
  sto : At wr sb m F
  wri : WIn wr E sb wb x G bv
  doc : DIn wr tb md F2 rv sl
  dwr : VIn wr vb d
  fg : ∀ b, F b → ¬ G b
  f2 : ∀ b, F b ∨ G b → ¬ F2 b
  fv : ∀ b, F b ∨ G b → b ≠ vb
  nv : ¬ F2 vb
  lo : ∀ b, F b ∨ G b ∨ F2 b ∨ b = vb → w.heap.size ≤ b
  old : Below w.heap.size w wr
def Ps (w wr : World) (E : Nat → Addr) (sb wb tb vb : Nat) (m : Sto) (x : Wri) (md : Sto) (d : Doc) : Prop := ∃ F G F2 bv rv sl, Pw w wr E sb wb tb vb m x md d F G F2 bv rv sl
section
variable {w wr : World} {E : Nat → Addr} {sb wb tb vb : Nat} {m : Sto} {x : Wri} {md : Sto} {d : Doc} {F G F2 : Nat → Prop} {bv rv : Value} {sl : Nat → Value}
theorem Pw.below {W : World} (h : Pw w wr E sb wb tb vb m x md d F G F2 bv rv sl) (hb : Below wr.heap.size wr W) : Pw w W E sb wb tb vb m x md d F G F2 bv rv sl :=
  ⟨h.sto.kept (fun b hF => hb.block b (h.sto.lt b hF)) (fun _ x => x) (fun b hF => Nat.lt_of_lt_of_le (h.sto.lt b hF) hb.size), h.wri.below hb, h.doc.below hb, h.dwr.below hb, h.fg, h.f2, h.fv, h.nv, h.lo, h.old.trans (hb.mono h.old.size)⟩
theorem Ps.below {W : World} (h : Ps w wr E sb wb tb vb m x md d) (hb : Below wr.heap.size wr W) : Ps w W E sb wb tb vb m x md d := by
  obtain ⟨F, G, F2, bv, rv, sl, h⟩ := h
  exact ⟨F, G, F2, bv, rv, sl, h.below hb⟩
theorem Ps.old (h : Ps w wr E sb wb tb vb m x md d) : Below w.heap.size w wr := by
  obtain ⟨F, G, F2, bv, rv, sl, h⟩ := h
  exact h.old
/-- behind a call that turned the program's -/
theorem Pw.wres {W : World} {m' : Sto} {x' : Wri} (h : Pw w wr E sb wb tb vb m x md d F G F2 bv rv sl) (r : WRes F G wr E sb wb m' x' W) : Ps w W E sb wb tb vb m' x' md d := by
  obtain ⟨F', G', bv', q1, q2, q3, q4, q5, q6⟩ := r
  have hvb : vb < wr.heap.size := (Array.getElem?_eq_some_iff.1 h.dwr).1
  have hz := q6.size
  have hzo := h.old.size
  have key : ∀ b, F' b ∨ G' b → (F b ∨ G b) ∨ wr.heap.size ≤ b := fun b hb => by
    rcases hb with hb | hb
    · exact (q4 b hb).elim (fun y => .inl (.inl y)) fun y => .inr y.1
    · exact (q5 b hb).elim (fun y => .inl (.inr y)) fun y => .inr y.1
  refine ⟨F', G', F2, bv', rv, sl, q1, q2, h.doc.kept (fun b hb => q6.block b (h.doc.lt b hb) fun e => h.f2 b e hb) (fun _ y => y) (fun b hb => Nat.lt_of_lt_of_le (h.doc.lt b hb) hz), (q6.block vb hvb fun e => h.fv vb e rfl).trans h.dwr, q3, fun b hb h2 => ?_, fun b hb e => ?_, h.nv, fun b hb => ?_, h.old.trans (q6.below hzo fun k hk => h.lo k (hk.elim .inl fun y => .inr (.inl y)))⟩
  · rcases key b hb with y | y
    · exact h.f2 b y h2
    · have := h.doc.lt b h2; omega
  · rcases key b hb with y | y
    · exact h.fv b y e
    · omega
  · rcases hb with hb | hb | hb | hb
    · rcases key b (.inl hb) with y | y
      · exact h.lo b (y.elim .inl fun z => .inr (.inl z))
      · omega
    · rcases key b (.inr hb) with y | y
      · exact h.lo b (y.elim .inl fun z => .inr (.inl z))
      · omega
    · exact h.lo b (.inr (.inr (.inl hb)))
    · exact h.lo b (.inr (.inr (.inr hb)))
/-- behind a call that turned the document's -/
theorem Pw.dres {W : World} {md' : Sto} {d' : Doc} (h : Pw w wr E sb wb tb vb m x md d F G F2 bv rv sl) (r : DocW wr W F2 tb vb md' d') : Ps w W E sb wb tb vb m x md' d' := by
  obtain ⟨⟨F', rv', sl', q1, q2, q3⟩, hv, q6⟩ := r
  have hz := q6.size
  have hzo := h.old.size
  have hno : ∀ b, F b ∨ G b → ¬ (F2 b ∨ b = vb) := fun b hb e => e.elim (h.f2 b hb) (h.fv b hb)
  refine ⟨F, G, F', bv, rv', sl', h.sto.kept (fun b hb => q6.block b (h.sto.lt b hb) (hno b (.inl hb))) (fun _ y => y) (fun b hb => Nat.lt_of_lt_of_le (h.sto.lt b hb) hz), h.wri.kept (fun b hb => q6.block b (h.wri.lt b hb) (hno b (.inr hb))) (fun _ y => y) (fun b hb => Nat.lt_of_lt_of_le (h.wri.lt b hb) hz), q1, hv, h.fg, fun b hb h2 => ?_, h.fv, q3, fun b hb => ?_, h.old.trans (q6.below hzo fun k hk => h.lo k (.inr (.inr hk)))⟩
  · rcases q2 b h2 with y | y
    · exact h.f2 b hb y
    · rcases hb with hb | hb
      · have := h.sto.lt b hb; omega
      · have := h.wri.lt b hb; omega
  · rcases hb with hb | hb | hb | hb
    · exact h.lo b (.inl hb)
    · exact h.lo b (.inr (.inl hb))
    · rcases q2 b hb with y | y
      · exact h.lo b (.inr (.inr (.inl y)))
      · omega
    · exact h.lo b (.inr (.inr (.inr hb)))
end
theorem app_le (m : Sto) (k : Int) (L : List ByteArray) : (app m k L).1 ≤ 9 := by
  unfold app
  split
  · exact Nat.le_refl _
  · split
    · simp
    · split
      · simp
      · split <;> simp
theorem wputs_le : ∀ (n : Nat) (k : Int) (bs : Nat) (m : Sto) (T : List UInt8), T.length ≤ n → 1 ≤ bs → (wputs k bs m T).1 ≤ 9 := by
  intro n
  induction n with
  | zero =>
    intro k bs m T hT h1
    rw [wputs_stop (by omega)]
    simp
  | succ n ih =>
    intro k bs m T hT h1
    by_cases hl : T.length < bs
    · rw [wputs_stop hl]; simp
    · by_cases h0 : (app m k [strB (T.take bs)]).1 = 0
      · rw [wputs_go h1 hl h0]
        exact ih k bs _ _ (by rw [List.length_drop]; omega) h1
      · rw [wputs_no h1 hl h0]
        exact app_le _ _ _
/-- what Put answers and leaves -/
def wput (m : Sto) (x : Wri) (L : List ByteArray) : Nat × Sto × Wri :=
  if x.dead ≠ 0 then (x.dead, m, x) else if Um.fit (Um.rl L) = true then ((wputs x.run x.blk m (x.buf ++ Um.frs (Um.rl L))).1, (wputs x.run x.blk m (x.buf ++ Um.frs (Um.rl L))).2.1, putX x (wputs x.run x.blk m (x.buf ++ Um.frs (Um.rl L))).1 (wputs x.run x.blk m (x.buf ++ Um.frs (Um.rl L))).2.2) else (10, m, x)
def dput (m : Sto) (d : Doc) (L : List ByteArray) : Nat × Sto × Doc :=
  if d.dead ≠ 0 then (d.dead, m, d) else if Um.fit (Um.rl L) = true then ((wputs d.run d.blk m (Um.lst d.held ++ Um.frs (Um.rl L))).1, (wputs d.run d.blk m (Um.lst d.held ++ Um.frs (Um.rl L))).2.1, putDoc d (wputs d.run d.blk m (Um.lst d.held ++ Um.frs (Um.rl L))).1 (wputs d.run d.blk m (Um.lst d.held ++ Um.frs (Um.rl L))).2.2) else (10, m, d)
/-- the two writers stand alike -/
structure Like (x : Wri) (d : Doc) : Prop where
  run : d.run = x.run
  blk : d.blk = x.blk
  dead : d.dead = x.dead
  held : x.dead = 0 → Um.lst d.held = x.buf
theorem like_put {m : Sto} {x : Wri} {d : Doc} (h : Like x d) (L : List ByteArray) : (dput m d L).1 = (wput m x L).1 ∧ (dput m d L).2.1 = (wput m x L).2.1 ∧ Like (wput m x L).2.2 (dput m d L).2.2 := by
  unfold wput dput
  rw [h.dead, h.run, h.blk]
  by_cases hd : x.dead ≠ 0
  · rw [if_pos hd, if_pos hd]
    exact ⟨rfl, rfl, h⟩
  · rw [if_neg hd, if_neg hd]
    have hd0 : x.dead = 0 := by omega
    by_cases hf : Um.fit (Um.rl L) = true
    · rw [if_pos hf, if_pos hf, h.held hd0]
      refine ⟨rfl, rfl, ?_⟩
      generalize wputs x.run x.blk m (x.buf ++ Um.frs (Um.rl L)) = R
      unfold putX putDoc
      by_cases hc : R.1 = 0
      · rw [if_pos hc, if_pos hc]
        exact ⟨h.run, h.blk, h.dead, fun _ => Um.str_list _⟩
      · rw [if_neg hc, if_neg hc]
        exact ⟨h.run, h.blk, rfl, fun e => absurd e hc⟩
    · rw [if_neg hf, if_neg hf]
      exact ⟨rfl, rfl, h⟩
section
variable {w wr : World} {E : Nat → Addr} {sb wb tb vb : Nat} {m : Sto} {x : Wri} {md : Sto} {d : Doc} {v : Value} {L : List ByteArray}
theorem ps_put (V : Env w E w.heap.size) (h : Ps w wr E sb wb tb vb m x md d) (hrun : x.run ≤ 16777216) (hT : Um.Txs wr v L) (hn : L.length ≤ 1048576) (hne : 0 < L.length) :
    Calls Tryd.prog 12 #[.pointer (some ⟨wb, 0, none⟩), v] wr fun e w' => e = .returned (errV E (wput m x L).1) ∧ Ps w w' E sb wb tb vb (wput m x L).2.1 (wput m x L).2.2 md d := by
  have h0 := h
  obtain ⟨F, G, F2, bv, rv, sl, h⟩ := h
  have V1 := V.below h.old
  unfold wput
  by_cases hd : x.dead ≠ 0
  · rw [if_pos hd, errV_er hd]
    refine (put_dead h.wri hd).mono ?_
    rintro e w' ⟨rfl, rfl⟩
    exact ⟨rfl, h0⟩
  · rw [if_neg hd]
    have hd0 : x.dead = 0 := by omega
    by_cases hf : Um.fit (Um.rl L) = true
    · rw [if_pos hf]
      refine (put_go V1 (fun b hb => h.lo b (.inl hb)) (fun b hb => h.lo b (.inr (.inl hb))) h.old.size h.sto h.wri h.fg hd0 hrun hT hn hf hne _ _ _ (hide rfl)).mono ?_
      rintro e w' ⟨rfl, r⟩
      exact ⟨rfl, h.wres r⟩
    · rw [if_neg hf]
      refine (put_unfit V1 h.old.size h.wri hd0 hT hn (by simpa using hf)).mono ?_
      rintro e w' ⟨rfl, r⟩
      exact ⟨rfl, h0.below r⟩
theorem ps_dput (h : Ps w wr E sb wb tb vb m x md d) (hb1 : 1 ≤ d.blk) (hb2 : d.blk ≤ 4096) (hh : d.held.size ≤ 4096) (hT : Um.Txs wr v L) (hn : L.length ≤ 1048576) :
    Calls Tryd.prog 24 #[.pointer (some ⟨tb, 0, none⟩), .pointer (some ⟨vb, 0, none⟩), v] wr fun e w' => e = .returned (.int .i64 (dput md d L).1) ∧ Ps w w' E sb wb tb vb m x (dput md d L).2.1 (dput md d L).2.2 := by
  have h0 := h
  obtain ⟨F, G, F2, bv, rv, sl, h⟩ := h
  unfold dput
  by_cases hd : d.dead ≠ 0
  · rw [if_pos hd]
    refine (dput_dead h.dwr hd).mono ?_
    rintro e w' ⟨rfl, rfl⟩
    exact ⟨rfl, h0⟩
  · rw [if_neg hd]
    have hd0 : d.dead = 0 := by omega
    by_cases hf : Um.fit (Um.rl L) = true
    · rw [if_pos hf]
      refine (dput_go h.doc h.dwr h.nv hd0 hb1 hb2 hh hT hn hf (hide rfl) (by have := wputs_le _ d.run d.blk md (Um.lst d.held ++ Um.frs (Um.rl L)) (Nat.le_refl _) hb1; omega)).mono ?_
      rintro e w' ⟨rfl, r⟩
      exact ⟨rfl, h.dres r⟩
    · rw [if_neg hf]
      refine (dput_unfit h.dwr hd0 hT hn (by simpa using hf)).mono ?_
      rintro e w' ⟨rfl, r⟩
      exact ⟨rfl, h0.below r⟩
end
end Rs
end Go.Proofs.YtdcffkahijpcbabDoor
