/- Layer 6: RecordStreams, its plain part: a store of one run, a writer and a reader of it. -/
import Derived.Test.YtdcffkahijpcbabDoorWo
namespace Go.Proofs.YtdcffkahijpcbabDoor
open Go.RowKit
namespace Rs
/-- the store has one run, of number 1 -/
structure One (m : Sto) (cap : Nat) (t : List UInt8) (s : Bool) : Prop where
  runs : m.runs = [⟨1, t, s⟩]
  cap : m.cap = cap
  ahead : m.ahead = 0
theorem One.look {m : Sto} {cap : Nat} {t : List UInt8} {s : Bool} (h : One m cap t s) : look m.runs 1 = some ⟨1, t, s⟩ := by rw [h.runs]; rfl
theorem one_new (n : Nat) (h : n ≤ 67108864) : ∃ m, crt (newS n) = ((((1 : Nat) : Int), 0), m) ∧ One m n [] false := by
  refine ⟨(newS n).tick.newRun, ?_, ?_⟩
  · unfold crt
    rw [if_neg (by simp [newS]), if_neg (by simp [newS])]
    rfl
  · refine ⟨rfl, ?_, rfl⟩
    simp [newS, Sto.newRun, Sto.tick]
    omega
theorem strB_size (s : List UInt8) : (strB s).size = s.length := by simp [strB, ByteArray.size]
theorem one_app {m : Sto} {cap : Nat} {t s : List UInt8} (h : One m cap t false) (hl : t.length + s.length ≤ cap) : ∃ m', app m 1 [strB s] = (0, m') ∧ One m' cap (t ++ s) false := by
  refine ⟨m.tick.app ⟨1, t, false⟩ [strB s], ?_, ?_⟩
  · unfold app
    rw [if_neg (by rw [h.ahead]; decide), h.look]
    simp only [Bool.false_eq_true, if_false]
    rw [if_pos]
    rw [h.runs, h.cap]
    simp only [tot, sz, strB_size]
    omega
  · refine ⟨?_, h.cap, by show m.ahead - 1 = 0; rw [h.ahead]⟩
    show repl m.runs _ = _
    rw [h.runs]
    simp [repl, bytes, strB]
theorem one_sel {m : Sto} {cap : Nat} {t : List UInt8} (h : One m cap t false) : ∃ m', sel m 1 = (0, m') ∧ One m' cap t true := by
  refine ⟨{ m.tick with runs := repl m.runs ⟨1, t, true⟩ }, ?_, ?_⟩
  · unfold sel
    rw [if_neg (by rw [h.ahead]; decide), h.look]
    simp
  · refine ⟨?_, h.cap, by show m.ahead - 1 = 0; rw [h.ahead]⟩
    show repl m.runs _ = _
    rw [h.runs]
    simp [repl]
theorem one_puts (bs : Nat) (hb : 1 ≤ bs) (cap : Nat) : ∀ (n : Nat) (m : Sto) (t T : List UInt8), T.length ≤ n → One m cap t false → t.length + T.length ≤ cap → ∃ m' d rest, wputs 1 bs m T = (0, m', rest) ∧ One m' cap (t ++ d) false ∧ d ++ rest = T := by
  intro n
  induction n with
  | zero =>
    intro m t T hT h _
    exact ⟨m, [], T, wputs_stop (by omega), by simpa using h, rfl⟩
  | succ n ih =>
    intro m t T hT h hl
    by_cases hs : T.length < bs
    · exact ⟨m, [], T, wputs_stop hs, by simpa using h, rfl⟩
    · obtain ⟨m1, e1, h1⟩ := one_app (s := T.take bs) h (by rw [List.length_take]; omega)
      have e0 : (app m 1 [strB (T.take bs)]).1 = 0 := by rw [e1]
      rw [wputs_go hb hs e0, e1]
      obtain ⟨m', d, rest, e2, h2, h3⟩ := ih m1 (t ++ T.take bs) (T.drop bs) (by rw [List.length_drop]; omega) h1 (by rw [List.length_append, List.length_take, List.length_drop]; omega)
      refine ⟨m', T.take bs ++ d, rest, e2, by rwa [List.append_assoc] at h2, ?_⟩
      rw [List.append_assoc, h3, List.take_append_drop]
theorem Env.up {w : World} {E : Nat → Addr} {B C : Nat} (h : Env w E B) (hC : B ≤ C) : Env w E C := { h with g := h.g.sub fun _ hb => Nat.le_trans h.nb (Nat.le_trans hC hb), lt := fun i hi => Nat.lt_of_lt_of_le (h.lt i hi) hC, nb := Nat.le_trans h.nb hC }
/-- a living writer over its store; T was put -/
def Sw (w wr : World) (E : Nat → Addr) (sb wb blk cap : Nat) (T : List UInt8) : Prop :=
  ∃ m F G bv t buf, At wr sb m F ∧ WIn wr E sb wb ⟨1, blk, buf, 0⟩ G bv ∧ (∀ b, F b → ¬ G b) ∧ (∀ b, F b → w.heap.size ≤ b) ∧ (∀ b, G b → w.heap.size ≤ b) ∧ One m cap t false ∧ t ++ buf = T ∧ Below w.heap.size w wr
/-- a store with the sealed run T -/
def Sd (w wr : World) (sb cap : Nat) (T : List UInt8) : Prop := ∃ m F, At wr sb m F ∧ (∀ b, F b → w.heap.size ≤ b) ∧ One m cap T true ∧ Below w.heap.size w wr
/-- and a reader of it -/
def Sr (w wr : World) (sb rb blk cap : Nat) (T R : List UInt8) : Prop := ∃ m F y, At wr sb m F ∧ (∀ b, F b → w.heap.size ≤ b) ∧ ¬ F rb ∧ w.heap.size ≤ rb ∧ One m cap T true ∧ RAt wr sb rb T 1 blk R y ∧ Below w.heap.size w wr
section
variable {w wr : World} {E : Nat → Addr} {sb wb rb blk cap : Nat} {T R : List UInt8}
theorem Sw.old (h : Sw w wr E sb wb blk cap T) : Below w.heap.size w wr := by obtain ⟨m, F, G, bv, t, buf, h1, h2, h3, h4, h5, h6, h7, h8⟩ := h; exact h8
theorem Sd.old (h : Sd w wr sb cap T) : Below w.heap.size w wr := by obtain ⟨m, F, h1, h2, h3, h4⟩ := h; exact h4
theorem Sr.old (h : Sr w wr sb rb blk cap T R) : Below w.heap.size w wr := by obtain ⟨m, F, y, h1, h2, h3, h4, h5, h6, h7⟩ := h; exact h7
theorem at_below {m : Sto} {F : Nat → Prop} {W : World} (h : At wr sb m F) (hb : Below wr.heap.size wr W) : At W sb m F := h.kept (fun b hF => hb.block b (h.lt b hF)) (fun _ x => x) (fun b hF => Nat.lt_of_lt_of_le (h.lt b hF) hb.size)
theorem Sw.below {W : World} (h : Sw w wr E sb wb blk cap T) (hb : Below wr.heap.size wr W) : Sw w W E sb wb blk cap T := by
  obtain ⟨m, F, G, bv, t, buf, h1, h2, h3, h4, h5, h6, h7, h8⟩ := h
  exact ⟨m, F, G, bv, t, buf, at_below h1 hb, h2.below hb, h3, h4, h5, h6, h7, h8.trans (hb.mono h8.size)⟩
theorem Sd.below {W : World} (h : Sd w wr sb cap T) (hb : Below wr.heap.size wr W) : Sd w W sb cap T := by
  obtain ⟨m, F, h1, h2, h3, h4⟩ := h
  exact ⟨m, F, at_below h1 hb, h2, h3, h4.trans (hb.mono h4.size)⟩
theorem Sr.below {W : World} (h : Sr w wr sb rb blk cap T R) (hb : Below wr.heap.size wr W) : Sr w W sb rb blk cap T R := by
  obtain ⟨m, F, y, h1, h2, h3, h4, h5, h6, h7⟩ := h
  exact ⟨m, F, y, at_below h1 hb, h2, h3, h4, h5, h6.below hb, h7.trans (hb.mono h7.size)⟩
theorem Sr.sd (h : Sr w wr sb rb blk cap T R) : Sd w wr sb cap T := by
  obtain ⟨m, F, y, h1, h2, h3, h4, h5, h6, h7⟩ := h
  exact ⟨m, F, h1, h2, h5, h7⟩
theorem sw_open {w : World} (V : Env w E w.heap.size) (hb1 : 1 ≤ blk) (hb2 : blk ≤ 4096) (hc : cap ≤ 67108864) (h : At wr sb (newS cap) (fun b => b = w.heap.size)) (hb : Below w.heap.size w wr) :
    Calls Tryd.prog 11 #[.pointer (some ⟨sb, 0, none⟩), .int .i64 blk] wr fun e w' => ∃ wb, e = .returned (.tuple #[.pointer (some ⟨wb, 0, none⟩), .nilIface]) ∧ Sw w w' E sb wb blk cap [] := by
  obtain ⟨m, e1, h1⟩ := one_new cap hc
  refine (open_go (B := w.heap.size) (V.below hb) (fun b e => by rw [e]; exact Nat.le_refl _) h hb1 hb2 e1).mono ?_
  rintro e w' ⟨wb, rfl, F', G', bv, k1, k2, k3, k4, k5, k6⟩
  have hz := hb.size
  refine ⟨wb, rfl, m, F', G', bv, [], [], k1, k2, k3, fun b hF => ?_, fun b hG => Nat.le_trans hz (k5 b hG), h1, rfl, hb.trans (k6.below hz fun k hk => by rw [hk]; exact Nat.le_refl _)⟩
  rcases k4 b hF with x | x
  · rw [x]; exact Nat.le_refl _
  · exact Nat.le_trans hz x.1
theorem sw_put {v : Value} {L : List ByteArray} (V : Env w E w.heap.size) (h : Sw w wr E sb wb blk cap T) (hT : Um.Txs wr v L) (hn : L.length ≤ 1048576) (hfit : Um.fit (Um.rl L) = true) (hne : 0 < L.length) (hl : (T ++ Um.frs (Um.rl L)).length ≤ cap) :
    Calls Tryd.prog 12 #[.pointer (some ⟨wb, 0, none⟩), v] wr fun e w' => e = .returned .nilIface ∧ Sw w w' E sb wb blk cap (T ++ Um.frs (Um.rl L)) := by
  obtain ⟨m, F, G, bv, t, buf, h1, h2, h3, h4, h5, h6, h7, h8⟩ := h
  obtain ⟨m', d, rest, e1, k1, k2⟩ := one_puts blk h2.blk1 cap _ m t (buf ++ Um.frs (Um.rl L)) (Nat.le_refl _) h6 (by rw [← h7] at hl; simp only [List.length_append] at hl ⊢; omega)
  refine (put_go (V.below h8) h4 h5 h8.size h1 h2 h3 rfl (by show 1 ≤ 16777216; omega) hT hn hfit hne 0 m' rest (hide e1)).mono ?_
  rintro e w' ⟨rfl, F', G', bv', q1, q2, q3, q4, q5, q6⟩
  have hz := h8.size
  refine ⟨rfl, m', F', G', bv', t ++ d, rest, q1, q2, q3, fun b hF => ?_, fun b hG => ?_, k1, by rw [List.append_assoc, k2, ← h7, List.append_assoc], h8.trans (q6.below hz fun k hk => hk.elim (h4 k) (h5 k))⟩
  · exact (q4 b hF).elim (h4 b) fun x => Nat.le_trans hz x.1
  · exact (q5 b hG).elim (h5 b) fun x => Nat.le_trans hz x.1
theorem sw_close (V : Env w E w.heap.size) (h : Sw w wr E sb wb blk cap T) (hl : T.length ≤ cap) :
    Calls Tryd.prog 13 #[.pointer (some ⟨wb, 0, none⟩)] wr fun e w' => e = .returned (.tuple #[.int .i64 1, .nilIface]) ∧ Sd w w' sb cap T := by
  obtain ⟨m, F, G, bv, t, buf, h1, h2, h3, h4, h5, h6, h7, h8⟩ := h
  have key : ∃ m1, (buf = [] → m1 = m) ∧ (buf ≠ [] → app m 1 [strB buf] = (0, m1)) ∧ One m1 cap T false := by
    by_cases hb : buf = []
    · refine ⟨m, fun _ => rfl, fun x => absurd hb x, ?_⟩
      rw [← h7, hb, List.append_nil]; exact h6
    · obtain ⟨m1, e1, k1⟩ := one_app (s := buf) h6 (by rw [← h7, List.length_append] at hl; exact hl)
      exact ⟨m1, fun x => absurd x hb, fun _ => e1, by rw [← h7]; exact k1⟩
  obtain ⟨m1, a1, a2, a3⟩ := key
  obtain ⟨m2, e2, k2⟩ := one_sel a3
  refine (close_go (V.below h8) h4 h5 h8.size h1 h2 h3 rfl (by show 1 ≤ 16777216; omega) m1 a1 a2 e2).mono ?_
  rintro e w' ⟨rfl, F', q1, q2, q3, q4, q5⟩
  have hz := h8.size
  exact ⟨rfl, m2, F', q1, fun b hF => (q2 b hF).elim (h4 b) fun x => Nat.le_trans hz x.1, k2, h8.trans (q5.below hz fun k hk => hk.elim (h4 k) (h5 k))⟩
theorem sd_from (V : Env w E w.heap.size) (h : Sd w wr sb cap T) (hb1 : 1 ≤ blk) (hb2 : blk ≤ 4096) :
    Calls Tryd.prog 14 #[.pointer (some ⟨sb, 0, none⟩), .int .i64 1, .int .i64 blk] wr fun e w' => ∃ rb, e = .returned (.tuple #[.pointer (some ⟨rb, 0, none⟩), .nilIface]) ∧ Sr w w' sb rb blk cap T T := by
  obtain ⟨m, F, h1, h2, h3, h4⟩ := h
  refine (from_go (k := 1) (V.below h4) h2 h4.size h1 hb1 hb2 (by omega) h3.look rfl).mono ?_
  rintro e w' ⟨rb, rfl, k1, k2, k3⟩
  have hz := h4.size
  exact ⟨rb, rfl, m, F, _, at_below h1 k3, h2, fun hF => by have := h1.lt rb hF; omega, Nat.le_trans hz k2, h3, ⟨k1, rfl, rfl, rfl, Nat.zero_le _, rfl⟩, h4.trans (k3.mono hz)⟩
theorem sr_next {c : List UInt8} (V : Env w E w.heap.size) (h : Sr w wr sb rb blk cap T (Um.fr c ++ R)) (hb1 : 1 ≤ blk) (hb2 : blk ≤ 4096) (hT : T.length ≤ 67108864) (hR : (Um.fr c ++ R).length ≤ 67108864) (hc : c.length ≤ 255) :
    Calls Tryd.prog 15 #[.pointer (some ⟨rb, 0, none⟩)] wr fun e w' => e = .returned (.tuple #[.string (Um.str c), .bool true, .nilIface]) ∧ Sr w w' sb rb blk cap T R := by
  obtain ⟨m, F, y, h1, h2, h3, h4, h5, h6, h7⟩ := h
  refine (next_go (V.below h7) h2 h7.size h1 h3 h4 h6 (show 1 ≤ 16777216 by omega) h5.look rfl hT hb1 hb2 hR hc).mono ?_
  rintro e w' ⟨rfl, ⟨y', k1⟩, k2⟩
  exact ⟨rfl, m, F, y', h1.kept (fun b hF => k2.block b (h1.lt b hF) (fun e => h3 (e ▸ hF))) (fun _ x => x) (fun b hF => Nat.lt_of_lt_of_le (h1.lt b hF) k2.size), h2, h3, h4, h5, k1, h7.trans (k2.below h7.size fun k hk => by rw [hk]; exact h4)⟩
theorem sr_end (h : Sr w wr sb rb blk cap T []) :
    Calls Tryd.prog 15 #[.pointer (some ⟨rb, 0, none⟩)] wr fun e w' => e = .returned (.tuple #[.string ⟨#[]⟩, .bool false, .nilIface]) ∧ Sd w w' sb cap T := by
  have hs := h.sd
  obtain ⟨m, F, y, h1, h2, h3, h4, h5, h6, h7⟩ := h
  refine (next_end h6).mono ?_
  rintro e w' ⟨rfl, k⟩
  exact ⟨rfl, hs.below k⟩
theorem sd_size (V : Env w E w.heap.size) (h : Sd w wr sb cap T) :
    Calls Tryd.prog 17 #[.pointer (some ⟨sb, 0, none⟩), .int .i64 1] wr fun e w' => e = .returned (.tuple #[.int .i64 T.length, .nilIface]) ∧ Sd w w' sb cap T := by
  have hs := h
  obtain ⟨m, F, h1, h2, h3, h4⟩ := h
  have q := size_any (k := 1) h1 ((V.below h4).gs h2) (by omega) (by omega)
  rw [show siz m 1 = ((T.length : Int), 0) from siz_ok (k := 1) h3.look] at q
  exact q.mono fun e w' hh => ⟨hh.1, hs.below hh.2⟩
theorem sd_read (V : Env w E w.heap.size) (h : Sd w wr sb cap T) (hT : T.length ≤ 67108864) :
    Calls Tryd.prog 18 #[.pointer (some ⟨sb, 0, none⟩), .int .i64 1, .int .i64 0, .int .i64 T.length] wr fun e w' => e = .returned (.tuple #[.string (Um.str T), .nilIface]) ∧ Below w.heap.size w w' := by
  obtain ⟨m, F, h1, h2, h3, h4⟩ := h
  have q := read_any (k := 1) (a := 0) (n := T.length) h1 (V.below h4) h2 (by omega) (by omega) (by omega) (by omega)
  have e := rea_ok (k := 1) (a := 0) (n := T.length) h3.look rfl (by show 0 + T.length ≤ T.length; omega)
  rw [show rea m 1 0 (T.length : Int) = ((T.drop 0).take T.length, 0) from e, List.drop_zero, List.take_length] at q
  exact q.mono fun e w' hh => ⟨hh.1, h4.trans (hh.2.mono h4.size)⟩
end
end Rs
end Go.Proofs.YtdcffkahijpcbabDoor
