/- Layer 8: a list of streams that grows, beside the document's union of them. No walk. -/
import Derived.Test.YtamlfmohalkemaaZz
namespace Go.Proofs.Ytamlfmohalkemaa
open Go.RowKit Go.Shelf
namespace Sm

/-- a stream that gives L whatever is written into the blocks F -/
def Sk (F : Nat → Prop) (w : World) (v : Value) (L : List Tx) : Prop := ∀ W', w.heap.size ≤ W'.heap.size → (∀ c, c < w.heap.size → ¬ F c → W'.heap[c]? = w.heap[c]?) → Gives Try.prog v L W'.heap.size W'
theorem Sk.now {F : Nat → Prop} {w : World} {v : Value} {L : List Tx} (h : Sk F w v L) : Gives Try.prog v L w.heap.size w := h w (Nat.le_refl _) fun _ _ _ => rfl
theorem Sk.next {F F' : Nat → Prop} {w w' : World} {v : Value} {L : List Tx} (h : Sk F w v L) (c : Chg F w w') (hF : ∀ b, F' b → F b ∨ w.heap.size ≤ b) : Sk F' w' v L := fun W' hs hk =>
  h W' (Nat.le_trans c.size hs) fun b hb hn => (hk b (Nat.lt_of_lt_of_le hb c.size) (fun q => (hF b q).elim hn (fun q => by omega))).trans (c.block b hb hn)
theorem push_st {W : World} {v : Value} {Ps : List (Value × List Tx)} (x : Value) (hx : x.oneCell' = true) (hown : W.ownsRow 0 27 1 v Ps.length (Ps.map (·.1))) (hz : Ps.length + 1 ≤ 8796093022208) (ty : TypeId) :
    ∃ a c W', (Builtin.append_ #[23, 23] ty #[v, .slice (some ⟨W.heap.size, 0, none⟩) 1 1]).run Try.prog (W.alloc (.cells #[x] 27)) = .ok (.slice a (Ps.length + 1) c) W' ∧ W'.ownsRow 0 27 1 (.slice a (Ps.length + 1) c) (Ps.length + 1) (Ps.map (·.1) ++ [x]) ∧ Chg (fun b => v.ownBlock = some b) W W' ∧ (∀ g, (Value.slice a (Ps.length + 1) c).ownBlock = some g → v.ownBlock = some g ∨ W.heap.size ≤ g) := by
  obtain ⟨i, hi, hz'⟩ := Option.map_eq_some_iff.1 infoSt
  simp only [Prod.mk.injEq] at hz'
  obtain ⟨hz0, hz1, hz2⟩ := hz'
  have hown1 : (W.alloc (.cells #[x] 27)).ownsRow 0 27 1 v Ps.length (Ps.map (·.1)) := own_kept hown fun g hg => Below.heap_alloc _ _ _ (own_lt hown hg).2
  obtain ⟨v', W', hrun, ho, hg, hb⟩ := append_blk (P := Try.prog) (W.alloc (.cells #[x] 27)) 23 ty 27 i _ 1 8 Try.underlying23 hi hz0 hz1 hz2 rfl (by decide) v Ps.length (Ps.map (·.1)) hown1 ⟨W.heap.size, 0, none⟩ 1 1 [x] rfl (cell_one_new _ _ _) (by simpa using hx) (by unfold maxLen; omega) (by omega)
  obtain ⟨g, c, rfl⟩ := ownsRow_succ ho
  refine ⟨_, c, W', hrun, ho, ((Chg.refl _ W).alloc _).grown hg fun k hk => .inl hk, fun g' hg' => ?_⟩
  rcases hb with e | e
  · exact .inl (e.symm.trans hg')
  · rw [World.size_alloc] at e
    rw [e] at hg'
    injection hg' with hg'
    exact .inr (by omega)
/-- the streams up to now, and the document's union of them -/
structure AS (w : World) (Ps : List (Value × List Tx)) (sv wv : Value) (U : List Tx) (W : World) : Prop where
  own : W.ownsRow 0 27 1 sv Ps.length (Ps.map (·.1))
  new : ∀ g, sv.ownBlock = some g → w.heap.size ≤ g
  sk : ∀ p ∈ Ps, Sk (fun b => sv.ownBlock = some b) W p.1 p.2 ∧ Rs p.2
  want : Own W wv U
  apart : ∀ g, sv.ownBlock = some g → wv.ownBlock ≠ some g
  bl : Below w.heap.size w W
theorem AS.start (w : World) : AS w [] (.slice none 0 0) (.slice none 0 0) [] w :=
  ⟨World.ownsRow_nil _ _ _ _, (fun g hg => by cases hg), (fun p hp => by cases hp), World.ownsRow_nil _ _ _ _, (fun g hg => by cases hg), Below.refl _ _⟩
theorem AS.below {w W W' : World} {Ps : List (Value × List Tx)} {sv wv : Value} {U : List Tx} (h : AS w Ps sv wv U W) (hb : Below W.heap.size W W') : AS w Ps sv wv U W' :=
  ⟨own_kept h.own fun g hg => hb.block g (own_lt h.own hg).2, h.new, fun p hp => ⟨(h.sk p hp).1.next (Chg.of_below hb) (fun _ q => .inl q), (h.sk p hp).2⟩, h.want.below hb, h.apart, h.bl.trans (hb.mono h.bl.size)⟩
theorem AS.asked {w W W' : World} {Ps : List (Value × List Tx)} {sv wv wv' : Value} {U U' : List Tx} (h : AS w Ps sv wv U W) (hb : Below W.heap.size W W') (ho : Own W' wv' U') (hn : ∀ g, wv'.ownBlock = some g → W.heap.size ≤ g) : AS w Ps sv wv' U' W' := by
  have k := h.below hb
  exact ⟨k.own, k.new, k.sk, ho, fun g hg e => by have := (own_lt h.own hg).2; have := hn g e; omega, k.bl⟩
theorem AS.push {w W2 W3 : World} {Ps : List (Value × List Tx)} {sv v' wv : Value} {U L : List Tx} {x : Value} (h : AS w Ps sv wv U W2) (hk : Sk (fun b => sv.ownBlock = some b) W2 x L) (hr : Rs L)
    (ho : W3.ownsRow 0 27 1 v' (Ps.length + 1) (Ps.map (·.1) ++ [x])) (hc : Chg (fun b => sv.ownBlock = some b) W2 W3) (hg : ∀ g, v'.ownBlock = some g → sv.ownBlock = some g ∨ W2.heap.size ≤ g) : AS w (Ps ++ [(x, L)]) v' wv U W3 := by
  have hs := h.bl.size
  refine ⟨by rw [List.length_append, List.map_append]; exact ho, fun g q => ?_, fun p hp => ?_, h.want.kept fun g q => hc.block g (own_lt h.want q).2 fun e => h.apart g e q, fun g q e => ?_, h.bl.trans (hc.below hs fun b q => h.new b q)⟩
  · rcases hg g q with e | e
    · exact h.new g e
    · omega
  · rcases List.mem_append.1 hp with e | e
    · exact ⟨(h.sk p e).1.next hc hg, (h.sk p e).2⟩
    · simp at e; subst e; exact ⟨hk.next hc hg, hr⟩
  · rcases hg g q with e' | e'
    · exact h.apart g e' e
    · have := (own_lt h.want e).2; omega
theorem AS.row {w W : World} {Ps : List (Value × List Tx)} {sv wv : Value} {U : List Tx} (h : AS w Ps sv wv U W) : PRow W sv Ps W.heap.size := by
  rcases h.own.2 with ⟨e1, e2⟩ | ⟨g, cap', cur, e1, hr⟩
  · exact ⟨none, 0, by rw [e1, e2], fun h => by omega⟩
  · subst e1
    refine ⟨_, _, rfl, fun _ => ⟨g, 0, rfl, (own_lt h.own (g := g) rfl).2, fun j p hj => ?_⟩⟩
    have hjl := (List.getElem?_eq_some_iff.1 hj).1
    rw [Nat.zero_add, World.ownsRow.cellAt h.own j (by omega)]
    simp [hj]
theorem AS.union {w W : World} {Ps : List (Value × List Tx)} {sv wv : Value} {U : List Tx} (h : AS w Ps sv wv U W) (hz : Ps.length ≤ 1048576) (ht : (lsOf Ps).flatten.length ≤ 4194304) :
    Calls Try.prog 12 #[sv] W fun e w' => ∃ gf lb, e = .returned (.agg #[.func (.func gf) #[] lb]) ∧ St w' (.func (.func gf) #[] lb) (ofS (lsOf Ps).flatten) ∧ Below W.heap.size W w' := by
  refine St.row h.row (fun p hp => ?_) hz ht
  refine ⟨⟨W.heap.size, Nat.le_refl _, (h.sk p hp).1.now⟩, (h.sk p hp).2, ?_⟩
  exact Nat.le_trans (List.sublist_flatten_of_mem (List.mem_map.2 ⟨p, hp, rfl⟩)).length_le ht
theorem sk_of {F : Nat → Prop} {w w' : World} {gf : FuncId} {lb : Array Value} {L : List Tx} (h : ∀ W', w'.heap.size ≤ W'.heap.size → (∀ b, w.heap.size ≤ b → b < w'.heap.size → W'.heap[b]? = w'.heap[b]?) → Walks Try.prog gf lb L W'.heap.size W') (hF : ∀ b, F b → b < w.heap.size) : Sk F w' (.func (.func gf) #[] lb) L := fun W' hs hk =>
  (h W' hs fun b h1 h2 => hk b h2 fun q => by have := hF b q; omega).gives
end Sm
end Go.Proofs.Ytamlfmohalkemaa
