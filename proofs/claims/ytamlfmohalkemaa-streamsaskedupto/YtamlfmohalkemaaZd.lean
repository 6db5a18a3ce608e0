/- Layer 8: List, Count, Has of a stream. -/
import Derived.Deep.AppendSrc
import Derived.Lib.OwnKind
import Derived.Test.YtamlfmohalkemaaZc
namespace Go.Proofs.Ytamlfmohalkemaa
open Go.RowKit Go.Shelf
namespace Sm
attribute [local go_sem] Oper.semAt_some

/-- append to a row of one's own, and where the row lies behind it -/
theorem append_blk {P : Program} (W : World) (t ty e : TypeId) (i : TypeInfo) (z : Value) (size bytes : Nat) (ht : P.underlying t = some (.slice e)) (hi : P.info? e = some i) (hz : i.zero = some z)
    (hsize : i.size = size) (hby : i.bytes = bytes) (hzs : z.cells.size = size) (hsz : 0 < size)
    (v : Value) (n : Nat) (xs : List Value) (hown : W.ownsRow 0 e size v n xs)
    (a : Addr) (m c : Nat) (news : List Value) (hl : news.length = m * size) (hnews : ∀ j u, news[j]? = some u → W.cell? (a.add j) = some u) (h1 : ∀ u ∈ news, u.oneCell' = true)
    (h63 : n + m ≤ maxLen) (hbytes : (n + m) * bytes ≤ 140737488355328) :
    ∃ v' W', (Builtin.append_ #[t, t] ty #[v, .slice (some a) m c]).run P W = .ok v' W' ∧ W'.ownsRow 0 e size v' (n + m) (xs ++ news) ∧ W.grownBy W' v.ownBlock ∧ (v'.ownBlock = v.ownBlock ∨ v'.ownBlock = some W.heap.size) := by
  obtain ⟨v', W', hr, h2, h3, h4⟩ := run_append_own (P := P) W 0 t ty e i z size bytes ht hi hz hsize hby hzs hsz v n xs hown a m c news hl hnews h1 h63 hbytes (Nat.zero_le _)
  refine ⟨v', W', hr, h2, h3, ?_⟩
  subst hsize hby
  rcases hown.2 with ⟨rfl, rfl⟩ | ⟨g, cap, cur, rfl, hbg, hg, hnc, hcm, hcs, htake⟩
  · by_cases hm : m = 0
    · left
      have := h4.2 ⟨rfl, hm⟩
      rw [this]
    · right
      have q := run_append_nil (P := P) W t ty e i z ht hi hz a m c news hl hnews (by omega) (by unfold maxLen at h63; omega) (by have hb := hbytes; simp only [Nat.zero_add] at hb; omega)
      rw [hr] at q
      injection q with q _
      rw [q]; rfl
  · by_cases hroom : n + m ≤ cap
    · left
      have hfit : n * i.size + news.length ≤ cur.size := by rw [hl, hcs, ← Nat.add_mul]; exact Nat.mul_le_mul_right _ hroom
      have q := run_append_room (P := P) W t ty e i ht hi g n cap cur hg a m c news hl hnews h1 hroom hfit
      rw [hr] at q
      injection q with q _
      rw [q]; rfl
    · right
      have q := run_append_grow (P := P) W t ty e i z ht hi hz ⟨g, 0, none⟩ n cap xs hown.1 (hown.cells (g := g) rfl) a m c news hl hnews (by omega) (by unfold maxLen at h63; omega) (growslice_fits (by unfold maxLen at h63; omega) hbytes)
      rw [hr] at q
      injection q with q _
      rw [q]; rfl

theorem in_append_run {F : Fence} {n : Nat} {P : Program} {w : World} {ops : Array Oper} {rest : List Oper} {o : Oper} {a : Act} {Q : Exit → Act → World → Prop}
    (hg : o.guard = none) (s x : Operand) (t1 t2 : TypeId) (hop : o.op = Op.call { callee := Callee.builtin Builtin.append, args := #[s, x], argTypes := #[t1, t2] })
    (v u : Value) (hs : a.eval s = v) (hx : a.eval x = u) (v' : Value) (w' : World) (hrun : (Builtin.append_ #[t1, t2] o.type #[v, u]).run P w = .ok v' w') (hK : wpListIn F n P ops Q rest (a.put o.dst v') w') :
    wpListIn F n P ops Q (o :: rest) a w := by
  refine wpListIn_plain hg fun K hK' => ?_
  unfold Oper.wpIn
  refine ⟨?_, ?_⟩
  · simp [Oper.about, hop, resolve, Target.leads, Sem.run_pure]
  · rw [Oper.semAt_plain F _ _ (by rw [hop]; intro c hc'; cases hc')]
    simp [execOp, hop, resolve, invoke, builtin, hs, hx, hrun, Result.andThen]
    exact hK' _ _ hK
theorem addr0 (g j : Nat) : (⟨g, 0, none⟩ : Addr).add j = ⟨g, j, none⟩ := by
  unfold Addr.add
  split <;> simp_all
theorem own_kept {W W' : World} {B : Nat} {e : TypeId} {size n : Nat} {v : Value} {xs : List Value} (h : W.ownsRow B e size v n xs) (hb : ∀ g, v.ownBlock = some g → W'.heap[g]? = W.heap[g]?) : W'.ownsRow B e size v n xs := by
  obtain ⟨hl, ⟨e1, e2⟩ | ⟨g, cap, cur, e1, h1, hg, r⟩⟩ := h
  · exact ⟨hl, .inl ⟨e1, e2⟩⟩
  · exact ⟨hl, .inr ⟨g, cap, cur, e1, h1, (hb g (by rw [e1]; rfl)).trans hg, r⟩⟩
theorem own_lt {W : World} {B : Nat} {e : TypeId} {size n : Nat} {v : Value} {xs : List Value} (h : W.ownsRow B e size v n xs) {g : Nat} (hg : v.ownBlock = some g) : B ≤ g ∧ g < W.heap.size := h.lt g hg
abbrev txs (A : List Tx) : List Value := A.map .string
theorem info9 : (Try.prog.info? 9).map (fun i => (i.zero, i.size, i.bytes)) = some (some (.string ⟨#[]⟩), 1, 16) := by kernel_rfl
/-- a row of texts that one has -/
def Own (W : World) (v : Value) (A : List Tx) : Prop := W.ownsRow 0 9 1 v A.length (txs A)
theorem Own.slice {W : World} {v : Value} {A : List Tx} (h : Own W v A) : ∃ a c, v = .slice a A.length c := by
  rcases h.2 with ⟨e1, e2⟩ | ⟨g, cap, cur, e1, _⟩
  · exact ⟨none, 0, by rw [e1, e2]⟩
  · exact ⟨_, _, e1⟩
theorem Own.kept {W W' : World} {v : Value} {A : List Tx} (h : Own W v A) (hb : ∀ g, v.ownBlock = some g → W'.heap[g]? = W.heap[g]?) : Own W' v A := own_kept h hb
theorem Own.below {W W' : World} {v : Value} {A : List Tx} (h : Own W v A) (hb : Below W.heap.size W W') : Own W' v A := h.kept fun g hg => hb.block g (own_lt h hg).2
theorem Own.row {W : World} {v : Value} {A : List Tx} {B : Nat} (h : Own W v A) (hB : ∀ g, v.ownBlock = some g → g < B) : RowAt W v A B := by
  rcases h.2 with ⟨e1, e2⟩ | ⟨g, cap, cur, e1, _⟩
  · exact ⟨none, 0, by rw [e1, e2], fun h => by omega⟩
  · subst e1
    refine ⟨_, _, rfl, fun _ => ⟨g, 0, rfl, hB g rfl, fun j x hj => ?_⟩⟩
    have hjl := (List.getElem?_eq_some_iff.1 hj).1
    rw [Nat.zero_add, World.ownsRow.cellAt h j (by omega)]
    simp [txs, hj]
theorem own_cell {w : World} {g N c : Nat} {L : List Tx} (h : Own w (.slice (some ⟨g, 0, none⟩) N c) L) (hN : L.length = N) {j : Nat} {x : Tx} (hj : L[j]? = some x) : w.cell? ⟨g, j, none⟩ = some (.string x) := by
  subst hN
  have hl := (List.getElem?_eq_some_iff.1 hj).1
  rw [World.ownsRow.cellAt h j (by omega)]
  simp [txs, hj]
theorem bx_below {B b : Nat} {w w' : World} {t : TypeId} {v : Value} (h : Boxed w b t v) (hb : Below B w w') (hlt : b < B) : Boxed w' b t v := (hb.block b hlt).trans h
theorem own_row {w : World} {v : Value} {A : List Tx} (h : Own w v A) : RowAt w v A w.heap.size := h.row fun _ hg => (own_lt h hg).2
theorem push_tx {W : World} {v : Value} {A : List Tx} (x : Tx) (hown : Own W v A) (hz : A.length + 1 ≤ 8796093022208) (t ty : TypeId) (ht : Try.prog.underlying t = some (.slice 9)) :
    ∃ g c W', (Builtin.append_ #[t, t] ty #[v, .slice (some ⟨W.heap.size, 0, none⟩) 1 1]).run Try.prog (W.alloc (.cells #[.string x] 9)) = .ok (.slice (some ⟨g, 0, none⟩) (A.length + 1) c) W' ∧ Own W' (.slice (some ⟨g, 0, none⟩) (A.length + 1) c) (A ++ [x]) ∧ Chg (fun b => v.ownBlock = some b) W W' ∧ Up (fun b => v.ownBlock = some b) W W' g ∧ (∀ b, b < W.heap.size → v.ownBlock ≠ some b → b ≠ g) := by
  obtain ⟨i, hi, hz'⟩ := Option.map_eq_some_iff.1 info9
  simp only [Prod.mk.injEq] at hz'
  obtain ⟨hz0, hz1, hz2⟩ := hz'
  have hown1 : Own (W.alloc (.cells #[.string x] 9)) v A := hown.below ((Below.refl _ W).alloc (Nat.le_refl _) _)
  obtain ⟨v', W', hrun, ho, hg, hb⟩ := append_blk (P := Try.prog) (W.alloc (.cells #[.string x] 9)) t ty 9 i _ 1 16 ht hi hz0 hz1 hz2 rfl (by decide) v A.length (txs A) hown1 ⟨W.heap.size, 0, none⟩ 1 1 [.string x] rfl (cell_one_new _ _ _) (by simp [Value.oneCell']) (by unfold maxLen; omega) (by omega)
  obtain ⟨g, c, rfl⟩ := ownsRow_succ ho
  have hc : Chg (fun b => v.ownBlock = some b) W W' := ((Chg.refl _ W).alloc _).grown hg fun k hk => .inl hk
  have hlt := (own_lt ho (g := g) rfl).2
  have hgw : v.ownBlock = some g ∨ W.heap.size ≤ g := by
    rcases hb with e | e
    · exact .inl e.symm
    · have e : g = (W.alloc (.cells #[.string x] 9)).heap.size := by simpa [Value.ownBlock] using e
      rw [World.size_alloc] at e
      exact .inr (by omega)
  refine ⟨g, c, W', hrun, ?_, hc, ?_, fun b hb hn e => ?_⟩
  · unfold Own txs
    rw [List.length_append, List.map_append]
    exact ho
  · rcases hgw with e | e
    · exact .inl e
    · exact .inr ⟨e, hlt⟩
  · subst e
    rcases hgw with e | e
    · exact hn e
    · omega

/-- texts that lie in one of the blocks G, with room for as many -/
def CRow (w : World) (v : Value) (R : List Tx) (G : Nat → Prop) : Prop :=
  ∃ ao c, v = .slice ao R.length c ∧ R.length ≤ c ∧ (0 < R.length → ∃ g off, ao = some ⟨g, off, none⟩ ∧ G g ∧ g < w.heap.size ∧ ∀ (j : Nat) x, R[j]? = some x → w.cell? ⟨g, off + j, none⟩ = some (.string x))
theorem CRow.slice {w : World} {v : Value} {R : List Tx} {G : Nat → Prop} (h : CRow w v R G) : ∃ a c, v = .slice a R.length c := by
  obtain ⟨ao, c, e, _⟩ := h
  exact ⟨ao, c, e⟩
theorem CRow.kept {w w' : World} {v : Value} {R : List Tx} {G : Nat → Prop} (h : CRow w v R G) (hG : ∀ g, G g → w'.heap[g]? = w.heap[g]?) : CRow w' v R G := by
  obtain ⟨ao, c, e, hc, hat⟩ := h
  refine ⟨ao, c, e, hc, fun h0 => ?_⟩
  obtain ⟨g, off, e1, e2, e3, e4⟩ := hat h0
  refine ⟨g, off, e1, e2, ?_, fun j x hj => (World.cell?_of_block (w := w) (hG g e2)).trans (e4 j x hj)⟩
  rcases Nat.lt_or_ge g w'.heap.size with h | h
  · exact h
  · have h1 := hG g e2
    rw [Array.getElem?_eq_none h, Array.getElem?_eq_getElem e3] at h1
    cases h1
theorem CRow.below {w w' : World} {v : Value} {R : List Tx} {G : Nat → Prop} (h : CRow w v R G) (hb : Below w.heap.size w w') : CRow w' v R G := by
  obtain ⟨ao, c, e, hc, hat⟩ := h
  refine ⟨ao, c, e, hc, fun h0 => ?_⟩
  obtain ⟨g, off, e1, e2, e3, e4⟩ := hat h0
  exact ⟨g, off, e1, e2, Nat.lt_of_lt_of_le e3 hb.size, fun j x hj => (hb.cell (p := ⟨g, off + j, none⟩) e3).trans (e4 j x hj)⟩
theorem Own.crow {W : World} {v : Value} {A : List Tx} (h : Own W v A) : CRow W v A (fun g => v.ownBlock = some g) := by
  have hr := own_row h
  rcases h.2 with ⟨e1, e2⟩ | ⟨g, cap, cur, e1, hbs, hb, h1, h2, h3, h4⟩
  · exact ⟨none, 0, by rw [e1, e2], by omega, fun h => by omega⟩
  · subst e1
    obtain ⟨ao, c, e, hat⟩ := hr
    injection e with e1 e2 e3
    subst e1 e3
    refine ⟨_, _, rfl, h1, fun h0 => ?_⟩
    obtain ⟨g', off, e4, e5, e6⟩ := hat h0
    injection e4 with e4
    injection e4 with e7 e8 e9
    subst e7 e8
    exact ⟨_, _, rfl, rfl, e5, e6⟩
theorem CRow.row {w : World} {v : Value} {R : List Tx} {G : Nat → Prop} (h : CRow w v R G) : RowAt w v R w.heap.size := by
  obtain ⟨ao, c, e, _, hat⟩ := h
  refine ⟨ao, c, e, fun h0 => ?_⟩
  obtain ⟨g, off, e1, _, e3, e4⟩ := hat h0
  exact ⟨g, off, e1, e3, e4⟩
theorem CRow.any {w : World} {v : Value} {R : List Tx} {G : Nat → Prop} (h : CRow w v R G) : CRow w v R (fun _ => True) := by
  obtain ⟨ao, c, e, hc, hat⟩ := h
  refine ⟨ao, c, e, hc, fun h0 => ?_⟩
  obtain ⟨g, off, e1, _, e3, e4⟩ := hat h0
  exact ⟨g, off, e1, trivial, e3, e4⟩
/-- the first one cut off -/
theorem CRow.cut {w : World} {g off n c : Nat} {x : Tx} {R : List Tx} {G : Nat → Prop} (hl : n = R.length + 1) (hc : n ≤ c) (h : CRow w (.slice (some ⟨g, off, none⟩) n c) (x :: R) G) {ao : Option Addr} (ha : 0 < R.length → ao = some ⟨g, off + 1, none⟩) : CRow w (.slice ao R.length (c - 1)) R G := by
  obtain ⟨ao', c', e, hc', hat⟩ := h
  injection e with e1 e2 e3
  subst e1 e3
  obtain ⟨g', off', e4, e5, e6, e7⟩ := hat (by simp)
  injection e4 with e4
  injection e4 with e8 e9 e10
  subst e8 e9
  refine ⟨ao, c - 1, rfl, by omega, fun h0 => ⟨g, off + 1, ha h0, e5, e6, fun j z hj => ?_⟩⟩
  have := e7 (j + 1) z (by simpa using hj)
  rw [show off + 1 + j = off + (j + 1) by omega]
  exact this


end Sm
end Go.Proofs.Ytamlfmohalkemaa
