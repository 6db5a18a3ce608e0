/- Layer 5: plays of any store; two stores beside each other. -/
import Derived.Test.YtdlmpogmoepkjaaDoorPlF
import Derived.Test.YtdlmpogmoepkjaaDoorArgO
namespace Go.Proofs.YtdlmpogmoepkjaaDoor
open Go.RowKit
namespace Rs
theorem ply_l (m : Sto) {o : Op5} (h7 : ¬ o.kd = 7) : (ply m o).1.l = [] := by
  unfold ply
  repeat' split
  all_goals first | rfl | (exact absurd (by assumption) h7)
theorem plays_any {w : World} {sb : Nat} {m : Sto} {F : Nat → Prop} {E : Nat → Addr} {B : Nat} {pv : Value} {o : Op5} (h : At w sb m F) (V : Env w E B) (hF : ∀ b, F b → B ≤ b) (hB : B ≤ w.heap.size) (ok : o.Ok) (hp : Strs w pv o.L) :
    Calls Tryd.prog 9 #[.pointer (some ⟨sb, 0, none⟩), opV o pv] w fun e w' => ∃ lv, e = .returned (ansV (ply m o).1 lv) ∧ Res F w sb (ply m o).2 w' ∧ IntsN w.heap.size w' lv (ply m o).1.l := by
  by_cases h7 : o.kd = 7
  · exact plays_7 h V hF hB ok hp h7
  have hl := ply_l m h7
  have f : ∀ {e : Ending} {w' : World}, (∃ lv, e = .returned (ansV (ply m o).1 lv) ∧ Res F w sb (ply m o).2 w' ∧ Ints w' lv (ply m o).1.l) → (∃ lv, e = .returned (ansV (ply m o).1 lv) ∧ Res F w sb (ply m o).2 w' ∧ IntsN w.heap.size w' lv (ply m o).1.l) := fun hh => by
    obtain ⟨lv, e, r, i⟩ := hh
    rw [hl] at i ⊢
    exact ⟨lv, e, r, IntsN.nil i⟩
  by_cases h1 : o.kd = 1
  · exact (plays_1 h V hF hB ok hp h1).mono fun _ _ hh => f hh
  by_cases h2 : o.kd = 2
  · exact (plays_2 h V hF hB ok hp h2).mono fun _ _ hh => f hh
  by_cases h3 : o.kd = 3
  · exact (plays_3 h V hF hB ok hp h3).mono fun _ _ hh => f hh
  by_cases h4 : o.kd = 4
  · exact (plays_4 h V hF hB ok hp h4).mono fun _ _ hh => f hh
  by_cases h5 : o.kd = 5
  · exact (plays_5 h V hF hB ok hp h5).mono fun _ _ hh => f hh
  by_cases h6 : o.kd = 6
  · exact (plays_6 h V hF hB ok hp h6).mono fun _ _ hh => f hh
  by_cases h8 : o.kd = 8
  · exact (plays_8 h V hF hB ok hp h8).mono fun _ _ hh => f hh
  by_cases h9 : o.kd = 9
  · exact (plays_9 h V hF hB ok hp h9).mono fun _ _ hh => f hh
  by_cases h10 : o.kd = 10
  · exact (plays_10 h V hF hB ok hp h10).mono fun _ _ hh => f hh
  by_cases h11 : o.kd = 11
  · exact (plays_11 h V hF hB ok hp h11).mono fun _ _ hh => f hh
  exact (plays_x h V hF hB ok hp h1 h2 h3 h4 h5 h6 h7 h8 h9 h10 h11).mono fun _ _ hh => f hh
/-- two stores beside each other; the second one's blocks lie below D -/
def Two (w : World) (D : Nat) (s1 : Nat) (m1 : Sto) (s2 : Nat) (m2 : Sto) (wr : World) : Prop :=
  ∃ F G, At wr s1 m1 F ∧ At wr s2 m2 G ∧ (∀ b, F b → ¬ G b) ∧ (∀ b, F b → w.heap.size ≤ b) ∧ (∀ b, G b → w.heap.size ≤ b) ∧ (∀ b, G b → b < D) ∧ Below w.heap.size w wr
theorem Two.old {w wr : World} {D s1 s2 : Nat} {m1 m2 : Sto} (h : Two w D s1 m1 s2 m2 wr) : Below w.heap.size w wr := by
  obtain ⟨F, G, _, _, _, _, _, _, hb⟩ := h
  exact hb
theorem Two.below {w wr W : World} {D s1 s2 : Nat} {m1 m2 : Sto} (h : Two w D s1 m1 s2 m2 wr) (hb : Below wr.heap.size wr W) : Two w D s1 m1 s2 m2 W := by
  obtain ⟨F, G, h1, h2, h3, h4, h5, h6, h7⟩ := h
  exact ⟨F, G, at_below h1 hb, at_below h2 hb, h3, h4, h5, h6, h7.trans (hb.mono h7.size)⟩
theorem At.apart {F G : Nat → Prop} {w w' : World} {s2 : Nat} {m2 : Sto} (h : At w s2 m2 G) (c : Chg F w w') (hd : ∀ b, F b → ¬ G b) : At w' s2 m2 G :=
  h.kept (fun b hG => c.block b (h.lt b hG) fun e => hd b e hG) (fun _ x => x) (fun b x => Nat.lt_of_lt_of_le (h.lt b x) c.size)
theorem Two.swap {w wr : World} {D s1 s2 : Nat} {m1 m2 : Sto} (h : Two w D s1 m1 s2 m2 wr) : Two w wr.heap.size s2 m2 s1 m1 wr := by
  obtain ⟨F, G, h1, h2, h3, h4, h5, h6, h7⟩ := h
  exact ⟨G, F, h2, h1, fun b x y => h3 b y x, h5, h4, h1.lt, h7⟩
theorem Two.res1 {w W w' : World} {D s1 s2 : Nat} {m2 m' : Sto} {F G : Nat → Prop} (h2 : At W s2 m2 G) (h3 : ∀ b, F b → ¬ G b) (h4 : ∀ b, F b → w.heap.size ≤ b) (h5 : ∀ b, G b → w.heap.size ≤ b) (h6 : ∀ b, G b → b < D) (h7 : Below w.heap.size w W) (r : Res F W s1 m' w') : Two w D s1 m' s2 m2 w' := by
  refine ⟨_, G, r.1, h2.apart r.2 h3, fun b hb hG => ?_, fun b hb => ?_, h5, h6, h7.trans (r.2.below h7.size h4)⟩
  · rcases hb with hb | hb
    · exact h3 b hb hG
    · have := h2.lt b hG; omega
  · rcases hb with hb | hb
    · exact h4 b hb
    · have := h7.size; omega
/-- a call of the first store -/
theorem two_play1 {w wr W : World} {E : Nat → Addr} {D s1 s2 : Nat} {m1 m2 : Sto} {p : Op5 × Value} (V : Env w E w.heap.size) (h : Two w D s1 m1 s2 m2 wr) (hb : Below wr.heap.size wr W) (hin : OpIn w p) :
    Calls Tryd.prog 9 #[.pointer (some ⟨s1, 0, none⟩), opV p.1 p.2] W fun e w' => ∃ lv, e = .returned (ansV (ply m1 p.1).1 lv) ∧ Two w D s1 (ply m1 p.1).2 s2 m2 w' ∧ IntsN W.heap.size w' lv (ply m1 p.1).1.l ∧ W.heap.size ≤ w'.heap.size ∧ ∀ b, wr.heap.size ≤ b → b < W.heap.size → w'.heap[b]? = W.heap[b]? := by
  obtain ⟨F, G, h1, h2, h3, h4, h5, h6, h7⟩ := h
  have hbw := h7.trans (hb.mono h7.size)
  refine (plays_any (at_below h1 hb) (V.below hbw) h4 hbw.size hin.ok (hin.st.below hbw)).mono ?_
  rintro e w' ⟨lv, rfl, r, i⟩
  exact ⟨lv, rfl, Two.res1 (at_below h2 hb) h3 h4 h5 h6 hbw r, i, r.2.size, fun b h8 h9 => r.2.block b h9 fun hF => by have := h1.lt b hF; omega⟩
theorem Two.chg {w wr W w' W5 : World} {D s1 s2 : Nat} {m1 m2 : Sto} {F G : Nat → Prop} (h1 : At w' s1 m1 F) (h2 : At w' s2 m2 G) (h3 : ∀ b, F b → ¬ G b) (h4 : ∀ b, F b → w.heap.size ≤ b) (h5 : ∀ b, G b → w.heap.size ≤ b) (h6 : ∀ b, G b → b < D) (h7 : Below w.heap.size w w') (hw : w.heap.size ≤ wr.heap.size)
    (f1 : ∀ b, F b → b < wr.heap.size ∨ W.heap.size ≤ b) (f2 : ∀ b, G b → b < wr.heap.size ∨ W.heap.size ≤ b) (c : Chg (fun b => wr.heap.size ≤ b ∧ b < W.heap.size) w' W5) : Two w D s1 m1 s2 m2 W5 := by
  refine ⟨F, G, h1.apart c fun b e hF => ?_, h2.apart c fun b e hG => ?_, h3, h4, h5, h6, h7.trans (c.below h7.size fun k hk => by omega)⟩
  · have := f1 b hF; omega
  · have := f2 b hG; omega
/-- a call of the second store -/
theorem two_play2 {w wr W : World} {E : Nat → Addr} {D s1 s2 : Nat} {m1 m2 : Sto} {p : Op5 × Value} (V : Env w E w.heap.size) (h : Two w D s1 m1 s2 m2 wr) (hb : Below wr.heap.size wr W) (hin : OpIn w p) :
    Calls Tryd.prog 9 #[.pointer (some ⟨s2, 0, none⟩), opV p.1 p.2] W fun e w' => ∃ lv, e = .returned (ansV (ply m2 p.1).1 lv) ∧ (∀ W5, Chg (fun b => wr.heap.size ≤ b ∧ b < W.heap.size) w' W5 → Two w w'.heap.size s1 m1 s2 (ply m2 p.1).2 W5) ∧ IntsN W.heap.size w' lv (ply m2 p.1).1.l ∧ W.heap.size ≤ w'.heap.size ∧ ∀ b, D ≤ b → b < W.heap.size → w'.heap[b]? = W.heap[b]? := by
  obtain ⟨F, G, h1, h2, h3, h4, h5, h6, h7⟩ := h
  have hbw := h7.trans (hb.mono h7.size)
  refine (plays_any (at_below h2 hb) (V.below hbw) h5 hbw.size hin.ok (hin.st.below hbw)).mono ?_
  rintro e w' ⟨lv, rfl, r, i⟩
  refine ⟨lv, rfl, fun W5 c => ?_, i, r.2.size, fun b h8 h9 => r.2.block b h9 fun hG => by have := h6 b hG; omega⟩
  refine Two.chg (F := F) (G := Up G W w') ((at_below h1 hb).apart r.2 fun b x y => h3 b y x) r.1 (fun b x y => ?_) h4 (fun b x => ?_) r.1.lt (hbw.trans (r.2.below hbw.size h5)) h7.size (fun b x => .inl (h1.lt b x)) (fun b x => ?_) c
  · rcases y with y | y
    · exact h3 b x y
    · have := h1.lt b x; have := hb.size; omega
  · rcases x with x | x
    · exact h5 b x
    · have := hbw.size; omega
  · rcases x with x | x
    · exact .inl (h2.lt b x)
    · exact .inr x.1
theorem cells_of {W w' : World} {D : Nat} (h : ∀ b, D ≤ b → b < W.heap.size → w'.heap[b]? = W.heap[b]?) : (∀ b j, D ≤ b → b < W.heap.size → w'.cell? ⟨b, j, none⟩ = W.cell? ⟨b, j, none⟩) ∧ (∀ b j, D ≤ b → b < W.heap.size → w'.frozen? ⟨b, j, none⟩ = W.frozen? ⟨b, j, none⟩) :=
  ⟨fun b j h1 h2 => World.cell?_of_block (a := ⟨b, j, none⟩) (h b h1 h2), fun b j h1 h2 => World.frozen?_of_block (a := ⟨b, j, none⟩) (h b h1 h2)⟩
end Rs
end Go.Proofs.YtdlmpogmoepkjaaDoor
