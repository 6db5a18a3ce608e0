/- Layer 9: the writer's calls while a batch is written. -/
import Derived.Test.YtigffjbefbndnaaDoorFc
import Derived.Test.YtigffjbefbndnaaDoorWe
namespace Go.Proofs.YtigffjbefbndnaaDoor
open Go.RowKit
namespace Rs
open Sm (Tx ofS)
set_option maxRecDepth 100000 in
theorem wdrop_nil (w : World) : Calls Tryd.prog 34 #[.pointer none] w fun e w' => e = .returned (.tuple #[]) ∧ w' = w := by
  go_enter Tryd.func34, Tryd.ntmps34
  go_wp2
  (try simp only [Exit.inBlock, Exit.then])
  refine bodyPost_ret (results_none rfl _ _ _) rfl ?_
  exact ⟨rfl, rfl⟩
/-- what is known of a batch that is written -/
structure Bg (w : World) (E : Nat → Addr) (B : Nat) (F G : Nat → Prop) : Prop where
  V : Env w E B
  hF : ∀ b, F b → B ≤ b
  hG : ∀ b, G b → B ≤ b
  hB : B ≤ w.heap.size
section
variable {w wr : World} {E : Nat → Addr} {B : Nat} {F G : Nat → Prop} {sb fb eb wb : Nat} {f : For} {A : List Tx} {bv mv ev wv : Value} {m : Sto} {x : Wri} {F' : Nat → Prop}
theorem bw_open_fail (K : Bg w E B F G) (h : Bw w wr F G sb fb eb f A bv mv ev wv m F') {c : Nat} {m2 : Sto} (hc : crt m = ((0, c), m2)) (hc0 : c ≠ 0) :
    Calls Tryd.prog 38 #[.pointer (some ⟨sb, 0, none⟩), .int .i64 512] wr fun e w' => e = .returned (.tuple #[.pointer none, er E c]) ∧ ∃ F2, Bw w w' F G sb fb eb f A bv mv ev wv m2 F2 := by
  refine (open_fail (b := 512) (h.env K.V K.hF K.hG K.hB) (h.lo K.hF K.hB) h.at_ (by decide) (by decide) hc hc0).mono ?_
  rintro e w' ⟨rfl, r⟩
  exact ⟨rfl, _, h.res r⟩
theorem bw_open_go (K : Bg w E B F G) (h : Bw w wr F G sb fb eb f A bv mv ev wv m F') {n : Nat} {m2 : Sto} (hc : crt m = (((n : Int), 0), m2)) :
    Calls Tryd.prog 38 #[.pointer (some ⟨sb, 0, none⟩), .int .i64 512] wr fun e w' => ∃ wb, e = .returned (.tuple #[.pointer (some ⟨wb, 0, none⟩), .nilIface]) ∧ (∃ F2, Bw w w' F G sb fb eb f A bv mv ev wv m2 F2) ∧ Bx w ((w'.setCell ⟨eb + 2, 0, none⟩ (.pointer (some ⟨wb, 0, none⟩))).setCell ⟨eb + 1, 0, none⟩ .nilIface) E F G sb fb eb wb f A bv mv .nilIface m2 ⟨n, 512, [], 0⟩ := by
  refine (open_go (b := 512) (h.env K.V K.hF K.hG K.hB) (h.lo K.hF K.hB) h.at_ (by decide) (by decide) hc).mono ?_
  rintro e w' ⟨wb, rfl, F2, H, wbv, q1, q2, q3, q4, q5, q6⟩
  have hb := h.turn q1 (fun b hb => (q4 b hb).imp id fun y => y.1) (q6.mono fun b hb => .inl hb)
  have l3 := h.lt3
  obtain ⟨r1, r2⟩ := row_lt h
  refine ⟨wb, rfl, ⟨F2, hb⟩, F2, H, wbv, (hb.setW (.pointer (some ⟨wb, 0, none⟩))).setE .nilIface, q2.kept (fun b hH => ?_) (fun _ y => y) (fun b hH => by simpa using q2.lt b hH), q3, fun b hH => ?_⟩
  · have := q5 b hH
    rw [Below.heap_setCell _ _ _ _ (by show b ≠ eb + 1; omega), Below.heap_setCell _ _ _ _ (by show b ≠ eb + 2; omega)]
  · have := q5 b hH
    exact ⟨by omega, fun g hg e => by have := r1 g hg; omega, fun g hg e => by have := r2 g hg; omega⟩
theorem bx_put (K : Bg w E B F G) (h : Bx w wr E F G sb fb eb wb f A bv mv ev m x) (hx : x.dead = 0) (hrun : x.run ≤ 16777216) {v : Value} {t : Tx} (hT : Um.Txs wr v [t]) (ht : t.size ≤ 255) {c : Nat} {m' : Sto} {rest : List UInt8} (HP : Hid (wputs x.run x.blk m (x.buf ++ Um.frs (Um.rl [t])) = (c, m', rest))) :
    Calls Tryd.prog 39 #[.pointer (some ⟨wb, 0, none⟩), v] wr fun e w' => e = .returned (errV E c) ∧ Bx w w' E F G sb fb eb wb f A bv mv ev m' (putX x c rest) := by
  obtain ⟨F', H, wbv, h1, h2, h3, h4⟩ := h
  have heb := h1.heb
  have hb := K.hB
  refine (put_go (h1.env K.V K.hF K.hG K.hB) (h1.lo K.hF K.hB) (fun b hH => by have := (h4 b hH).1; omega) (Nat.le_trans hb h1.chg.size) h1.at_ h2 h3 hx hrun hT (by simp) (Um.fit_yes fun k y hk => ?_) (by simp) c m' rest HP).mono ?_
  · have := List.mem_of_getElem? hk
    rw [List.mem_singleton] at this
    rw [this]; exact ht
  · rintro e w' ⟨rfl, r⟩
    exact ⟨rfl, Bx.wres h1 h4 r⟩
theorem bx_close_go (K : Bg w E B F G) (h : Bx w wr E F G sb fb eb wb f A bv mv ev m x) (hx : x.dead = 0) (hrun : x.run ≤ 16777216) {m2 : Sto} (hP : wclo x.run m x.buf = (0, m2)) :
    Calls Tryd.prog 40 #[.pointer (some ⟨wb, 0, none⟩)] wr fun e w' => e = .returned (.tuple #[.int .i64 x.run, .nilIface]) ∧ ∃ F2, Bw w w' F G sb fb eb f A bv mv ev (.pointer (some ⟨wb, 0, none⟩)) m2 F2 := by
  obtain ⟨F', H, wbv, h1, h2, h3, h4⟩ := h
  have heb := h1.heb
  have hb := K.hB
  have key : ∃ m1, (x.buf = [] → m1 = m) ∧ (x.buf ≠ [] → app m x.run [strB x.buf] = (0, m1)) ∧ sel m1 x.run = (0, m2) := by
    unfold wclo at hP
    by_cases hb : x.buf = []
    · rw [if_pos hb] at hP
      exact ⟨m, fun _ => rfl, fun e => absurd hb e, hP⟩
    · rw [if_neg hb] at hP
      by_cases h0 : (app m x.run [strB x.buf]).1 = 0
      · rw [if_pos h0] at hP
        exact ⟨_, fun e => absurd e hb, fun _ => Prod.ext h0 rfl, hP⟩
      · rw [if_neg h0] at hP
        exact absurd (by rw [hP]) h0
  obtain ⟨m1, a1, a2, a3⟩ := key
  refine (close_go (h1.env K.V K.hF K.hG K.hB) (h1.lo K.hF K.hB) (fun b hH => by have := (h4 b hH).1; omega) (Nat.le_trans hb h1.chg.size) h1.at_ h2 h3 hx hrun m1 a1 a2 a3).mono ?_
  rintro e w' ⟨rfl, r⟩
  exact ⟨rfl, Bx.cres h1 h4 r⟩
theorem bx_close_fail (K : Bg w E B F G) (h : Bx w wr E F G sb fb eb wb f A bv mv ev m x) (hx : x.dead = 0) (hrun : x.run ≤ 16777216) {c : Nat} {m2 : Sto} (hP : wclo x.run m x.buf = (c, m2)) (hc : c ≠ 0) :
    Calls Tryd.prog 40 #[.pointer (some ⟨wb, 0, none⟩)] wr fun e w' => e = .returned (.tuple #[.int .i64 0, er E c]) ∧ Bx w w' E F G sb fb eb wb f A bv mv ev m2 { x with buf := [], dead := c } := by
  obtain ⟨F', H, wbv, h1, h2, h3, h4⟩ := h
  have heb := h1.heb
  have hb := K.hB
  refine (close_fail (h1.env K.V K.hF K.hG K.hB) (h1.lo K.hF K.hB) (fun b hH => by have := (h4 b hH).1; omega) (Nat.le_trans hb h1.chg.size) h1.at_ h2 h3 hx hrun c m2 hP hc).mono ?_
  rintro e w' ⟨rfl, r⟩
  exact ⟨rfl, Bx.wres h1 h4 r⟩
theorem bx_drop (K : Bg w E B F G) (h : Bx w wr E F G sb fb eb wb f A bv mv ev m x) (hrun : x.run ≤ 16777216) :
    Calls Tryd.prog 34 #[.pointer (some ⟨wb, 0, none⟩)] wr fun e w' => e = .returned (.tuple #[]) ∧ ∃ F2, Bw w w' F G sb fb eb f A bv mv ev (.pointer (some ⟨wb, 0, none⟩)) (rem m x.run).2 F2 := by
  obtain ⟨F', H, wbv, h1, h2, h3, h4⟩ := h
  refine (drop_go (h1.env K.V K.hF K.hG K.hB) (h1.lo K.hF K.hB) h1.at_ h2 h3 hrun).mono ?_
  rintro e w' ⟨rfl, r⟩
  exact ⟨rfl, Bx.cres h1 h4 r⟩
theorem bw_drop (h : Bw w wr F G sb fb eb f A bv mv ev wv m F') : Calls Tryd.prog 34 #[.pointer none] wr fun e w' => e = .returned (.tuple #[]) ∧ ∃ F2, Bw w w' F G sb fb eb f A bv mv ev wv m F2 := by
  refine (wdrop_nil wr).mono ?_
  rintro e w' ⟨rfl, rfl⟩
  exact ⟨rfl, F', h⟩
/-- the start of write: its three variables are laid -/
theorem Bw.start (h : At w sb m F) (hf : FIn w sb fb f G bv mv) (hd : ∀ b, F b → ¬ G b) (he : eb = w.heap.size) : Bw w (((w.alloc (.cells #[.pointer (some ⟨fb, 0, none⟩)] 28)).alloc (.cells #[.nilIface] 30)).alloc (.cells #[.pointer none] 71)) F G sb fb eb f f.buf bv mv .nilIface (.pointer none) m F := by
  obtain ⟨W, hW⟩ : ∃ W, (((w.alloc (.cells #[.pointer (some ⟨fb, 0, none⟩)] 28)).alloc (.cells #[.nilIface] 30)).alloc (.cells #[.pointer none] 71)) = W := ⟨_, rfl⟩
  have hb : Below w.heap.size w W := by rw [← hW]; (repeat (first | exact Below.refl _ _ | refine Below.drew ?_ | refine Below.alloc ?_ (by first | (simp; done) | (simp; omega)) _ | refine Below.setCell ?_ (by first | (simp; done) | (simp; omega)) _))
  have hz : W.heap.size = eb + 3 := by rw [← hW, he]; simp
  have e0 : W.heap[eb]? = some (.cells #[.pointer (some ⟨fb, 0, none⟩)] 28 (0, 0)) := by
    rw [← hW, he, Below.heap_alloc _ _ _ (by simp; omega), Below.heap_alloc _ _ _ (by simp)]
    exact (MapKept.heap_alloc w _).1
  have e1 : W.heap[eb + 1]? = some (.cells #[.nilIface] 30 (0, 0)) := by
    rw [← hW, he, Below.heap_alloc _ _ _ (by simp)]
    have := (MapKept.heap_alloc (w.alloc (.cells #[.pointer (some ⟨fb, 0, none⟩)] 28)) (.cells #[.nilIface] 30)).1
    rwa [World.size_alloc] at this
  have e2 : W.heap[eb + 2]? = some (.cells #[.pointer none] 71 (0, 0)) := by
    rw [← hW, he]
    have := (MapKept.heap_alloc ((w.alloc (.cells #[.pointer (some ⟨fb, 0, none⟩)] 28)).alloc (.cells #[.nilIface] 30)) (.cells #[.pointer none] 71)).1
    rwa [World.size_alloc, World.size_alloc] at this
  rw [hW]
  have hlt : ∀ b, G b → b < eb := fun b hG => by rw [he]; exact hf.lt b hG
  exact ⟨h.kept (fun b hF => hb.block b (h.lt b hF)) (fun _ y => y) (fun b hF => Nat.lt_of_lt_of_le (h.lt b hF) hb.size), fun b hF => .inl hF, (hb.block fb (hf.lt fb hf.own)).trans hf.sto, rfl, hf.row.below hb, own_kept hf.int fun g hg => hb.block g (own_lt hf.int hg).2, fun hF => hd fb hF hf.own, fun g hg hF => hd g hF (hf.rowG g hg), fun g hg hF => hd g hF (hf.intG g hg), fun b h1 _ hF => by have := h.lt b hF; omega, e0, e1, e2, ⟨hf.own, hlt fb hf.own⟩, fun g hg => .inl ⟨hf.rowG g hg, hlt g (hf.rowG g hg)⟩, fun g hg => .inl ⟨hf.intG g hg, hlt g (hf.intG g hg)⟩, he, Chg.of_below hb⟩
end
end Rs
end Go.Proofs.YtigffjbefbndnaaDoor
