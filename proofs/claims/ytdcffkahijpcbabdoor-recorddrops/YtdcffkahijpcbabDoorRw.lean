/- Layer 5, what lies in memory: a store with its runs; what a call may turn; a text's bytes behind a row. No walk. -/
import Derived.Test.YtdcffkahijpcbabDoorRm
import Derived.Deep.AppendSrc
import Derived.Lib.OwnKind
namespace Go.Proofs.YtdcffkahijpcbabDoor
open Go.RowKit
namespace Rs

/-- all is as it was but for blocks of F and new ones -/
structure Chg (F : Nat → Prop) (w w' : World) : Prop where
  os : w'.os = w.os
  tape : w'.tape = w.tape
  output : w'.output = w.output
  size : w.heap.size ≤ w'.heap.size
  block : ∀ k, k < w.heap.size → ¬ F k → w'.heap[k]? = w.heap[k]?
/-- F, and what is new -/
def Up (F : Nat → Prop) (w w' : World) (b : Nat) : Prop := F b ∨ (w.heap.size ≤ b ∧ b < w'.heap.size)
theorem Chg.refl (F : Nat → Prop) (w : World) : Chg F w w := ⟨rfl, rfl, rfl, Nat.le_refl _, fun _ _ _ => rfl⟩
theorem Chg.trans {F : Nat → Prop} {a b c : World} (h : Chg F a b) (k : Chg (Up F a b) b c) : Chg F a c :=
  ⟨k.os.trans h.os, k.tape.trans h.tape, k.output.trans h.output, Nat.le_trans h.size k.size, fun i hi hn =>
    (k.block i (Nat.lt_of_lt_of_le hi h.size) (fun e => e.elim hn (fun e => by omega))).trans (h.block i hi hn)⟩
theorem Chg.mono {F G : Nat → Prop} {a b : World} (h : Chg F a b) (hs : ∀ k, F k → G k) : Chg G a b := ⟨h.os, h.tape, h.output, h.size, fun i hi hn => h.block i hi fun e => hn (hs i e)⟩
theorem Chg.of_below {F : Nat → Prop} {a b : World} (h : Below a.heap.size a b) : Chg F a b := ⟨h.os, h.tape, h.output, h.size, fun i hi _ => h.block i hi⟩
theorem Chg.below {F : Nat → Prop} {a b : World} {B : Nat} (h : Chg F a b) (hB : B ≤ a.heap.size) (hF : ∀ k, F k → B ≤ k) : Below B a b :=
  ⟨h.os, h.tape, h.output, h.size, fun i hi => h.block i (by omega) fun e => by have := hF i e; omega⟩
theorem Chg.alloc {F : Nat → Prop} {a b : World} (h : Chg F a b) (o : Obj) : Chg F a (b.alloc o) :=
  ⟨h.os, h.tape, h.output, Nat.le_trans h.size (by simp), fun i hi hn => (Below.heap_alloc b o i (Nat.lt_of_lt_of_le hi h.size)).trans (h.block i hi hn)⟩
theorem Chg.drew {F : Nat → Prop} {a b : World} (h : Chg F a b) : Chg F a b.drew := ⟨h.os, h.tape, h.output, h.size, h.block⟩
theorem Chg.setCell {F : Nat → Prop} {a b : World} (h : Chg F a b) {p : Addr} (hp : F p.block ∨ a.heap.size ≤ p.block) (u : Value) : Chg F a (b.setCell p u) :=
  ⟨h.os, h.tape, h.output, Nat.le_trans h.size (by simp [World.setCell]), fun i hi hn => (Below.heap_setCell b p u i (fun e => by subst e; rcases hp with hp | hp; exact hn hp; omega)).trans (h.block i hi hn)⟩
theorem Chg.grown {F : Nat → Prop} {a b c : World} {row : Option Nat} (h : Chg F a b) (hg : b.grownBy c row) (hr : ∀ k, row = some k → F k ∨ a.heap.size ≤ k) : Chg F a c :=
  ⟨hg.os.trans h.os, hg.tape.trans h.tape, hg.output.trans h.output, Nat.le_trans h.size hg.size, fun i hi hn =>
    (hg.block i (Nat.lt_of_lt_of_le hi h.size) (fun e => by rcases hr i e.symm with e | e; exact hn e; omega)).trans (h.block i hi hn)⟩
theorem up_up {F : Nat → Prop} {a b c : World} (h1 : a.heap.size ≤ b.heap.size) (h2 : b.heap.size ≤ c.heap.size) (k : Nat) : Up (Up F a b) b c k → Up F a c k := by
  unfold Up
  rintro ((h | h) | h)
  · exact .inl h
  · exact .inr ⟨h.1, by omega⟩
  · exact .inr ⟨by omega, h.2⟩

/-! the store -/
def encB (c : UInt8) : Value := .int .u8 (c.toNat : Int)
def el (sl : Nat → Value) (fl : Nat → Bool) (j : Nat) : Value := .agg #[sl j, .bool (fl j)]
def updB (f : Nat → Bool) (n : Nat) (v : Bool) (j : Nat) : Bool := if j = n then v else f j
theorem updB_same (f : Nat → Bool) (n : Nat) (v : Bool) : updB f n v n = v := if_pos rfl
theorem updB_ne (f : Nat → Bool) {n j : Nat} (v : Bool) (h : j ≠ n) : updB f n v j = f j := if_neg h
theorem el_upd (sl : Nat → Value) (fl : Nat → Bool) (n : Nat) (v : Value) (b : Bool) : upd (el sl fl) n (.agg #[v, .bool b]) = el (upd sl n v) (updB fl n b) := by
  funext j
  unfold upd el updB
  split <;> simp_all
structure Rows (w : World) (sl : Nat → Value) (fl : Nat → Bool) (l : List Run) (F : Nat → Prop) : Prop where
  fl : ∀ r ∈ l, fl r.num = r.shut
  own : ∀ r ∈ l, w.ownsRow 0 5 1 (sl r.num) r.txt.length (r.txt.map encB)
  inF : ∀ r ∈ l, ∀ g, (sl r.num).ownBlock = some g → F g
  apart : ∀ r ∈ l, ∀ r' ∈ l, r.num ≠ r'.num → ∀ g, (sl r.num).ownBlock = some g → (sl r'.num).ownBlock ≠ some g
def stoC (m : Sto) (mv : Value) : Array Value := #[.int .i64 m.cap, mv, .int .i64 m.made, .int .i64 (tot m.runs), .int .i64 m.peak, .int .i64 m.ahead]
def MapIs (w : World) (mv : Value) (m : Sto) (F : Nat → Prop) : Prop :=
  (mv = .map none ∧ m.runs = []) ∨ ∃ bm sl fl, mv = .map (some bm) ∧ F bm ∧ w.ownsMap Tryd.prog 3 Rh bm m.runs.length (dat (el sl fl) m.runs) ∧ Rows w sl fl m.runs F
structure At (w : World) (sb : Nat) (m : Sto) (F : Nat → Prop) : Prop where
  ok : m.Ok
  lt : ∀ b, F b → b < w.heap.size
  own : F sb
  map : ∃ mv, w.heap[sb]? = some (Obj.cells (stoC m mv) 81 (0, 0)) ∧ MapIs w mv m F
theorem own_kept {W W' : World} {B : Nat} {e : TypeId} {size n : Nat} {v : Value} {xs : List Value} (h : W.ownsRow B e size v n xs) (hb : ∀ g, v.ownBlock = some g → W'.heap[g]? = W.heap[g]?) : W'.ownsRow B e size v n xs := by
  obtain ⟨hl, ⟨e1, e2⟩ | ⟨g, cap, cur, e1, h1, hg, r⟩⟩ := h
  · exact ⟨hl, .inl ⟨e1, e2⟩⟩
  · exact ⟨hl, .inr ⟨g, cap, cur, e1, h1, (hb g (by rw [e1]; rfl)).trans hg, r⟩⟩
theorem map_kept {W W' : World} {b n : Nat} {D : DV} (h : W.ownsMap Tryd.prog 3 Rh b n D) (hb : W'.heap[b]? = W.heap[b]?) : W'.ownsMap Tryd.prog 3 Rh b n D := by
  obtain ⟨es, clock, h1, r⟩ := h
  exact ⟨es, clock, hb.trans h1, r⟩
theorem map_tight {W : World} {b n : Nat} {f : Nat → Value} {l : List Run} (h : W.ownsMap Tryd.prog 3 Rh b n (dat f l)) : W.ownsMap Tryd.prog 3 Rh b l.length (dat f l) := by
  obtain ⟨es, clock, h1, h2, h3, h4⟩ := h
  refine ⟨es, clock, h1, h2, ?_, h4⟩
  have e := congrArg Maps.size h4
  rw [dat_size] at e
  simp only [Maps.size, length_sorted] at e
  simp at e
  omega
theorem len_nums {l : List Run} {lo hi : Nat} (hs : l.Pairwise fun a b => a.num < b.num) (h : ∀ r ∈ l, lo < r.num ∧ r.num ≤ hi) : l.length ≤ hi - lo := by
  induction l generalizing lo with
  | nil => simp
  | cons x t ih =>
    obtain ⟨h1, h2⟩ := List.pairwise_cons.1 hs
    have := ih h2 (lo := x.num) fun r hr => ⟨h1 r hr, (h r (by simp [hr])).2⟩
    have := h x (by simp)
    simp only [List.length_cons]
    omega
theorem Sto.Ok.len {m : Sto} (h : m.Ok) : m.runs.length ≤ m.made := by
  have := len_nums (lo := 0) h.sorted fun r hr => ⟨by have := h.nums r hr; omega, (h.nums r hr).2⟩
  omega
theorem Rows.kept {w w' : World} {sl : Nat → Value} {fl : Nat → Bool} {l : List Run} {F G : Nat → Prop} (h : Rows w sl fl l F) (hb : ∀ b, F b → w'.heap[b]? = w.heap[b]?) (hG : ∀ b, F b → G b) : Rows w' sl fl l G :=
  ⟨h.fl, fun r hr => own_kept (h.own r hr) fun g hg => hb g (h.inF r hr g hg), fun r hr g hg => hG g (h.inF r hr g hg), h.apart⟩
theorem MapIs.kept {w w' : World} {mv : Value} {m : Sto} {F G : Nat → Prop} (h : MapIs w mv m F) (hb : ∀ b, F b → w'.heap[b]? = w.heap[b]?) (hG : ∀ b, F b → G b) : MapIs w' mv m G := by
  rcases h with h | ⟨bm, sl, fl, h1, h2, h4, h5⟩
  · exact .inl h
  · exact .inr ⟨bm, sl, fl, h1, hG _ h2, map_kept h4 (hb _ h2), h5.kept hb hG⟩
/-- a store that nothing touched, in a greater frame -/
theorem At.kept {w w' : World} {sb : Nat} {m : Sto} {F G : Nat → Prop} (h : At w sb m F) (hb : ∀ b, F b → w'.heap[b]? = w.heap[b]?) (hG : ∀ b, F b → G b) (hl : ∀ b, G b → b < w'.heap.size) : At w' sb m G := by
  obtain ⟨ok, lt, hs, mv, h1, h2⟩ := h
  exact ⟨ok, hl, hG _ hs, mv, (hb sb hs).trans h1, h2.kept hb hG⟩
theorem At.up {w w' : World} {sb : Nat} {m : Sto} {F : Nat → Prop} (h : At w sb m F) (hb : Below w.heap.size w w') : At w' sb m (Up F w w') :=
  h.kept (fun b hF => hb.block b (h.lt b hF)) (fun b hF => .inl hF) (fun b hG => by
    rcases hG with hG | hG
    · exact Nat.lt_of_lt_of_le (h.lt b hG) hb.size
    · exact hG.2)
theorem At.up2 {a w w' : World} {sb : Nat} {m : Sto} {F : Nat → Prop} (h : At w sb m (Up F a w)) (hb : Below w.heap.size w w') : At w' sb m (Up F a w') :=
  h.kept (fun b hF => hb.block b (h.lt b hF)) (fun b hF => hF.imp id fun x => ⟨x.1, Nat.lt_of_lt_of_le x.2 hb.size⟩) (fun b hG => by
    rcases hG with hG | hG
    · exact Nat.lt_of_lt_of_le (h.lt b (.inl hG)) hb.size
    · exact hG.2)
theorem At.join {a b w : World} {sb : Nat} {m : Sto} {F : Nat → Prop} (h : At w sb m (Up (Up F a b) b w)) (h1 : a.heap.size ≤ b.heap.size) (h2 : b.heap.size ≤ w.heap.size) : At w sb m (Up F a w) :=
  h.kept (fun _ _ => rfl) (fun k hk => up_up h1 h2 k hk) (fun k hk => by
    rcases hk with hk | hk
    · exact h.lt k (.inl (.inl hk))
    · exact hk.2)

/-! a text's bytes behind a row -/
theorem set_heap1 {W : World} {g k : Nat} {cur : Array Value} {t : TypeId} {fz : Nat × Nat} (h : W.heap[g]? = some (.cells cur t fz)) (v : Value) : (W.setCell ⟨g, k, none⟩ v).heap[g]? = some (.cells (cur.setIfInBounds k v) t fz) := by
  simp only [World.setCell, Array.getElem?_modify, if_true, h, Option.map_some]
  simp
theorem setCells_heap (g : Nat) (t : TypeId) (fz : Nat × Nat) : ∀ (vs : List Value) (o : Nat) (w : World) (cur : Array Value), w.heap[g]? = some (.cells cur t fz) → o + vs.length ≤ cur.size →
    (w.setCells g o vs).heap[g]? = some (.cells (cur.toList.take o ++ vs ++ cur.toList.drop (o + vs.length)).toArray t fz)
  | [], o, w, cur, h, _ => by
    simp only [World.setCells, h]
    simp
  | v :: r, o, w, cur, h, hl => by
    have h1 := set_heap1 (k := o) h v
    have h2 := setCells_heap g t fz r (o + 1) _ _ h1 (by simp at hl ⊢; omega)
    simp only [World.setCells]
    rw [h2]
    simp only [List.length_cons] at hl
    congr 3
    rw [Array.toList_setIfInBounds, List.take_add_one, List.take_set_of_le (Nat.le_refl _), List.getElem?_set_self (by simp; omega), List.drop_set_of_lt (by omega)]
    simp only [List.length_cons, List.append_assoc, Option.toList, List.cons_append, List.nil_append]
    rw [show o + 1 + r.length = o + (r.length + 1) by omega]
theorem setCells_size (g : Nat) : ∀ (vs : List Value) (o : Nat) (w : World), (w.setCells g o vs).heap.size = w.heap.size ∧ (w.setCells g o vs).os = w.os ∧ (w.setCells g o vs).tape = w.tape ∧ (w.setCells g o vs).output = w.output ∧ ∀ k, k ≠ g → (w.setCells g o vs).heap[k]? = w.heap[k]?
  | [], o, w => ⟨rfl, rfl, rfl, rfl, fun _ _ => rfl⟩
  | v :: r, o, w => by
    obtain ⟨h1, h2, h3, h4, h5⟩ := setCells_size g r (o + 1) (w.setCell ⟨g, o, none⟩ v)
    simp only [World.setCells]
    exact ⟨by rw [h1]; simp [World.setCell], by rw [h2]; rfl, by rw [h3]; rfl, by rw [h4]; rfl, fun k hk => by rw [h5 k hk]; exact Below.heap_setCell _ _ _ _ hk⟩
theorem infoB : (Tryd.prog.info? 5).map (fun i => (i.zero, i.size, i.bytes)) = some (some (.int .u8 0), 1, 1) := by kernel_rfl
theorem append_str (W : World) (v : Value) (n : Nat) (xs : List Value) (s : ByteArray) (ty : TypeId) (hown : W.ownsRow 0 5 1 v n xs) (hb : n + s.size ≤ 67108864) :
    ∃ v' W', (Builtin.append_ #[99, 9] ty #[v, .string s]).run Tryd.prog W = .ok v' W' ∧ W'.ownsRow 0 5 1 v' (n + s.size) (xs ++ byteCells s) ∧ W.grownBy W' v.ownBlock ∧ (v'.ownBlock = v.ownBlock ∨ v'.ownBlock = some W.heap.size) := by
  obtain ⟨i, hi, hz⟩ := Option.map_eq_some_iff.1 infoB
  simp only [Prod.mk.injEq] at hz
  obtain ⟨hz0, hz1, hz2⟩ := hz
  have hs := Src.ofString (P := Tryd.prog) W Tryd.underlying9 s
  have hbl : (byteCells s).length = s.size := byteCells_length s
  have hlen : (xs ++ byteCells s).length = (n + s.size) * 1 := by rw [List.length_append, hown.1, hbl]; omega
  have grown : ∀ (old : Nat) (row : Option Nat), old < n + s.size →
      (W.drew.alloc (.cells ((xs ++ byteCells s).toArray ++ Builtin.zeroCells (Value.int .u8 0).cells (grownCap W (n + s.size) old 5 - (n + s.size))) 5)).ownsRow 0 5 1 (.slice (some ⟨W.heap.size, 0, none⟩) (n + s.size) (grownCap W (n + s.size) old 5)) (n + s.size) (xs ++ byteCells s) ∧
      W.grownBy (W.drew.alloc (.cells ((xs ++ byteCells s).toArray ++ Builtin.zeroCells (Value.int .u8 0).cells (grownCap W (n + s.size) old 5 - (n + s.size))) 5)) row := by
    intro old row ho
    have hge := grownCap_ge W (n + s.size) old 5
    have hcm : grownCap W (n + s.size) old 5 ≤ maxLen := grownCap_le_maxLen W (n + s.size) old 5 (by unfold maxLen; omega)
    refine ⟨⟨hlen, .inr ⟨W.heap.size, _, _, rfl, Nat.zero_le _, (MapKept.heap_alloc W.drew _).1, hge, hcm, ?_, ?_⟩⟩, ⟨rfl, rfl, rfl, by simp, fun k hk _ => Below.heap_alloc W.drew _ k hk⟩⟩
    · simp only [Array.size_append, List.size_toArray, size_zeroCells, hlen]
      simp [Value.cells]
      omega
    · simp only [Array.toList_append]
      rw [← hlen]
      exact List.take_left
  have hsrc : Src Tryd.prog i.size 9 (.string s) s.size (byteCells s) W := by rw [hz1]; exact hs
  rcases hown.2 with ⟨rfl, rfl⟩ | ⟨g, cap, cur, rfl, hbg, hg, hnc, hcm, hcs, htake⟩
  · have hx : xs = [] := List.eq_nil_of_length_eq_zero (by simpa using hown.1)
    subst hx
    by_cases hm : s.size = 0
    · refine ⟨.slice none 0 0, W, ?_, ?_, ⟨rfl, rfl, rfl, Nat.le_refl _, fun _ _ _ => rfl⟩, Or.inl rfl⟩
      · simp [Builtin.append_, run_underlying Tryd.underlying99, run_underlying Tryd.underlying9, sizeOf, typeInfo, hi, Builtin.lenOf, hm, Builtin.firstCells]
      · have e : byteCells s = [] := List.eq_nil_of_length_eq_zero (by rw [hbl, hm])
        rw [e, hm]
        exact World.ownsRow_nil W 0 5 1
    · have hr := run_append_grow_src (P := Tryd.prog) W 99 9 ty 5 i (.int .u8 0) Tryd.underlying99 hi hz0 none 0 0 [] (run_firstCells_none W.drew i.size 0 0 0) (.string s) s.size (byteCells s) hsrc (by omega) (by omega) (growslice_fits (by omega) (by rw [hz2]; omega))
      have hgr := grown 0 (Value.ownBlock (.slice none 0 0)) (by omega)
      exact ⟨_, _, hr, hgr.1, hgr.2, Or.inr rfl⟩
  · by_cases hroom : n + s.size ≤ cap
    · have hcell : ∀ j, j < cur.size → (W.cell? ⟨g, j, none⟩).isSome = true := fun j hj => by
        simp [World.cell?, hg, hj]
      have hr := run_append_room_src (P := Tryd.prog) W 99 9 ty 5 i Tryd.underlying99 hi g 0 n cap (.string s) s.size (byteCells s) hsrc hroom (fun j hj => by
        rw [hz1]; exact hcell _ (by omega)) (fun j hj => by simp [World.frozen?, hg])
      rw [hz1] at hr
      have hh := setCells_heap g 5 (0, 0) (byteCells s) (0 + n * 1) W cur hg (by omega)
      obtain ⟨k1, k2, k3, k4, k5⟩ := setCells_size g (byteCells s) (0 + n * 1) W
      refine ⟨_, _, hr, ⟨hlen, .inr ⟨g, cap, _, rfl, hbg, hh, hroom, hcm, ?_, ?_⟩⟩, ⟨k2, k3, k4, by omega, fun k _ hk => k5 k (fun e => hk (by simp [Value.ownBlock, e]))⟩, Or.inl rfl⟩
      · simp only [List.size_toArray, List.length_append, List.length_take, List.length_drop, Array.length_toList]
        omega
      · rw [Nat.zero_add, htake, ← hlen]
        exact List.take_left
    · have holds : ∀ j u, xs[j]? = some u → W.drew.cell? ((⟨g, 0, none⟩ : Addr).add j) = some u := hown.cells (g := g) rfl
      have hr := run_append_grow_src (P := Tryd.prog) W 99 9 ty 5 i (.int .u8 0) Tryd.underlying99 hi hz0 (some ⟨g, 0, none⟩) n cap xs (by rw [hz1]; exact run_firstCells_some W.drew 1 n ⟨g, 0, none⟩ n cap xs hown.1 holds) (.string s) s.size (byteCells s) hsrc (by omega) (by omega) (growslice_fits (by omega) (by rw [hz2]; omega))
      have hgr := grown cap (Value.ownBlock (.slice (some ⟨g, 0, none⟩) n cap)) (by omega)
      exact ⟨_, _, hr, hgr.1, hgr.2, Or.inr rfl⟩
end Rs
end Go.Proofs.YtdcffkahijpcbabDoor
