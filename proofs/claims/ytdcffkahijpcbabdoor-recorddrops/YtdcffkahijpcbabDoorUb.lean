/- Layer 6: lists of bytes and of texts that a call owns. No walk. -/
import Derived.Test.YtdcffkahijpcbabDoorUf
import Derived.Maps.AppendAt
import Derived.Laws.IdiomStrings
import Derived.Laws.BytesArg
import Derived.Deep.AppendSrc
namespace Go.Proofs.YtdcffkahijpcbabDoor
open Go.RowKit
namespace Um

def str (l : List UInt8) : ByteArray := ⟨l.toArray⟩
theorem str_list (l : List UInt8) : (str l).data.toList = l := by simp [str]
theorem str_self (s : ByteArray) : str s.data.toList = s := rfl
theorem str_size (l : List UInt8) : (str l).size = l.length := by simp [str, ByteArray.size]
theorem list_size (s : ByteArray) : s.data.toList.length = s.size := by simp
theorem extract_str (s : ByteArray) (a b : Nat) : s.extract a b = str ((s.data.toList.drop a).take (b - a)) := by
  apply ByteArray.ext
  apply Array.toList_inj.1
  simp [str, List.take_drop]
theorem str_app (a b : List UInt8) : str a ++ str b = str (a ++ b) := by
  apply ByteArray.ext
  apply Array.toList_inj.1
  simp [str]
theorem str_inj {a b : List UInt8} (h : str a = str b) : a = b := by rw [← str_list a, h, str_list]
theorem str_ne {a b : List UInt8} (h : a ≠ b) : str a ≠ str b := fun e => h (str_inj e)
theorem add_off (g j : Nat) : (⟨g, 0, none⟩ : Addr).add j = ⟨g, j, none⟩ := by unfold Addr.add; split <;> simp_all
theorem info_parts {P : Program} {e : TypeId} {z : Value} {s b : Nat} (h : (P.info? e).map (fun i => (i.zero, i.size, i.bytes)) = some (some z, s, b)) : ∃ i, P.info? e = some i ∧ i.zero = some z ∧ i.size = s ∧ i.bytes = b := by
  cases hi : P.info? e with
  | none => rw [hi] at h; cases h
  | some i => rw [hi] at h; simp at h; exact ⟨i, rfl, h.1, h.2.1, h.2.2⟩
theorem owns_below {W W' : World} {n e size : Nat} {v : Value} {k : Nat} {xs : List Value} (h : W.ownsRow n e size v k xs) (hb : Below W.heap.size W W') : W'.ownsRow n e size v k xs := by
  obtain ⟨h0, h | ⟨g, cap, cur, h1, h2, h3, h4⟩⟩ := h
  · exact ⟨h0, .inl h⟩
  · exact ⟨h0, .inr ⟨g, cap, cur, h1, h2, (hb.block g (Array.getElem?_eq_some_iff.1 h3).1).trans h3, h4⟩⟩
theorem new_cells (W : World) (C : Array Value) (t : TypeId) : ∀ j u, C.toList[j]? = some u → (W.alloc (.cells C t)).cell? ((⟨W.heap.size, 0, none⟩ : Addr).add j) = some u := by
  intro j u hu
  rw [add_off, World.cell?_alloc_at _ _ _ _ rfl]
  simpa using hu
def byts (l : List UInt8) : List Value := l.map fun b => Value.int .u8 (b.toNat : Int)
theorem byts_snoc (l : List UInt8) (c : UInt8) : byts l ++ [.int .u8 (c.toNat : Int)] = byts (l ++ [c]) := by simp [byts]
theorem byts_app (a b : List UInt8) : byts a ++ byts b = byts (a ++ b) := by simp [byts]
theorem byts_one (l : List UInt8) : ∀ u ∈ byts l, u.oneCell' = true := by
  intro u hu
  obtain ⟨b, _, rfl⟩ := List.mem_map.1 hu
  rfl
theorem infoB : (Tryd.prog.info? 5).map (fun i => (i.zero, i.size, i.bytes)) = some (some (.int .u8 0), 1, 1) := by kernel_rfl
theorem infoT : (Tryd.prog.info? 9).map (fun i => (i.zero, i.size, i.bytes)) = some (some (.string ByteArray.empty), 1, 16) := by kernel_rfl
/-- a list of bytes in a block of its own, or nil -/
def Own (n : Nat) (W : World) (v : Value) (L : List UInt8) : Prop := W.ownsRow n 5 1 v L.length (byts L)
theorem own_push {W : World} {B : Nat} {v : Value} {L : List UInt8} {c : UInt8} {x : Int} (hx : (c.toNat : Int) = x) (h : W.ownsRow B 5 1 v (L.length + 1) (byts L ++ [.int .u8 x])) : Own B W v (L ++ [c]) := by
  rw [← hx, byts_snoc] at h
  unfold Own
  rw [List.length_append]
  exact h
theorem own_more {W : World} {B : Nat} {v : Value} {L M : List UInt8} (h : W.ownsRow B 5 1 v (L.length + M.length) (byts L ++ byts M)) : Own B W v (L ++ M) := by
  rw [byts_app] at h
  unfold Own
  rw [List.length_append]
  exact h
theorem own_nil (n : Nat) (W : World) : Own n W (.slice none 0 0) [] := World.ownsRow_nil _ _ _ _
theorem own_cells {w : World} {B : Nat} {v : Value} {L : List UInt8} (h : Own B w v L) (h0 : 0 < L.length) :
    ∃ g cap, v = .slice (some ⟨g, 0, none⟩) L.length cap ∧ g < w.heap.size ∧ ∀ j x, L[j]? = some x → w.cell? ⟨g, j, none⟩ = some (.int .u8 (x.toNat : Int)) := by
  have hc : w.ownsRow B 5 1 v L.length (byts L) := h
  obtain ⟨hl, ⟨rfl, h1⟩ | ⟨g, cap, cur, rfl, hg, hh, hc1, hm, hsz, htk⟩⟩ := h
  · omega
  · refine ⟨g, cap, rfl, (Array.getElem?_eq_some_iff.1 hh).1, fun j x hj => ?_⟩
    have := hc.cells (g := g) rfl j (.int .u8 (x.toNat : Int)) (by simp [byts, hj])
    rwa [add_off] at this
theorem row_slice {w : World} {B e size n : Nat} {v : Value} {xs : List Value} (h : w.ownsRow B e size v n xs) : ∃ a cap, v = .slice a n cap := by
  obtain ⟨_, ⟨e, e2⟩ | ⟨g, cap, cur, e, _⟩⟩ := h
  · exact ⟨none, 0, by rw [e, e2]⟩
  · exact ⟨_, cap, e⟩
theorem own_slice {w : World} {B : Nat} {v : Value} {L : List UInt8} (h : Own B w v L) : ∃ a cap, v = .slice a L.length cap := row_slice h
theorem conv_own {w : World} {B : Nat} {v : Value} {L : List UInt8} (h : Own B w v L) : (convert 99 9 v).run Tryd.prog w = .ok (.string (str L)) w := by
  by_cases h0 : 0 < L.length
  · obtain ⟨g, cap, rfl, _, hcell⟩ := own_cells h h0
    exact run_convert_bytes_back w 99 9 5 ⟨g, 0, none⟩ cap L Tryd.underlying99 Tryd.underlying5 Tryd.underlying9 (fun j hj => by rw [add_off]; exact hcell j _ (List.getElem?_eq_getElem hj))
  · have : L = [] := List.eq_nil_of_length_eq_zero (by omega)
    subst this
    obtain ⟨hl, ⟨rfl, h1⟩ | ⟨g, cap, cur, rfl, hg, hh, hc1, hm, hsz, htk⟩⟩ := h
    · exact run_convert_bytes_nil w 99 5 Tryd.underlying99 Tryd.underlying5 0 0 9 Tryd.underlying9
    · exact run_convert_bytes_back w 99 9 5 ⟨g, 0, none⟩ cap [] Tryd.underlying99 Tryd.underlying5 Tryd.underlying9 (fun j hj => absurd hj (by simp))
theorem Own.below {n : Nat} {W W' : World} {v : Value} {L : List UInt8} (h : Own n W v L) (hb : Below W.heap.size W W') : Own n W' v L := owns_below h hb
/-- grown behind one new block -/
theorem push1 {B : Nat} {w wr w1 : World} {o : Obj} {e size : Nat} {v : Value} {n : Nat} {xs : List Value} (hown : wr.ownsRow B e size v n xs) (hB : Below B w wr) (hBs : B ≤ w.heap.size) (hg : (wr.alloc o).grownBy w1 v.ownBlock) : Below B w w1 :=
  (hB.alloc (by have := hB.size; omega) o).grown hg (by have := hB.size; simp; omega) (fun k e => (hown.lt k e).1)
/-- grown at once -/
theorem push0 {B : Nat} {w wr w1 : World} {e size : Nat} {v : Value} {n : Nat} {xs : List Value} (hown : wr.ownsRow B e size v n xs) (hB : Below B w wr) (hBs : B ≤ w.heap.size) (hg : wr.grownBy w1 v.ownBlock) : Below B w w1 :=
  hB.grown hg (by have := hB.size; omega) (fun k e => (hown.lt k e).1)
theorem set_heap1 {W : World} {g k : Nat} {cur : Array Value} {t : TypeId} {fz : Nat × Nat} (h : W.heap[g]? = some (.cells cur t fz)) (v : Value) : (W.setCell ⟨g, k, none⟩ v).heap[g]? = some (.cells (cur.setIfInBounds k v) t fz) := by
  simp only [World.setCell, Array.getElem?_modify, if_true, h, Option.map_some]
  simp
theorem setCells_heap (g : Nat) (t : TypeId) (fz : Nat × Nat) : ∀ (vs : List Value) (o : Nat) (w : World) (cur : Array Value), w.heap[g]? = some (.cells cur t fz) → o + vs.length ≤ cur.size →
    (w.setCells g o vs).heap[g]? = some (.cells (cur.toList.take o ++ vs ++ cur.toList.drop (o + vs.length)).toArray t fz)
  | [], o, w, cur, h, _ => by
    simp only [World.setCells, h]
    simp
  | v :: r, o, w, cur, h, hl => by
    have h1 := set_heap1 (k := o) h v
    have h2 := setCells_heap g t fz r (o + 1) _ _ h1 (by simp at hl ⊢; omega)
    simp only [World.setCells]
    rw [h2]
    simp only [List.length_cons] at hl
    congr 3
    rw [Array.toList_setIfInBounds, List.take_add_one, List.take_set_of_le (Nat.le_refl _), List.getElem?_set_self (by simp; omega), List.drop_set_of_lt (by omega)]
    simp only [List.length_cons, List.append_assoc, Option.toList, List.cons_append, List.nil_append]
    rw [show o + 1 + r.length = o + (r.length + 1) by omega]
theorem setCells_size (g : Nat) : ∀ (vs : List Value) (o : Nat) (w : World), (w.setCells g o vs).heap.size = w.heap.size ∧ (w.setCells g o vs).os = w.os ∧ (w.setCells g o vs).tape = w.tape ∧ (w.setCells g o vs).output = w.output ∧ ∀ k, k ≠ g → (w.setCells g o vs).heap[k]? = w.heap[k]?
  | [], o, w => ⟨rfl, rfl, rfl, rfl, fun _ _ => rfl⟩
  | v :: r, o, w => by
    obtain ⟨h1, h2, h3, h4, h5⟩ := setCells_size g r (o + 1) (w.setCell ⟨g, o, none⟩ v)
    simp only [World.setCells]
    exact ⟨by rw [h1]; simp [World.setCell], by rw [h2]; rfl, by rw [h3]; rfl, by rw [h4]; rfl, fun k hk => by rw [h5 k hk]; exact Below.heap_setCell _ _ _ _ hk⟩
theorem append_str (W : World) (v : Value) (n : Nat) (xs : List Value) (s : ByteArray) (ty : TypeId) {B : Nat} (hB : B ≤ W.heap.size) (hown : W.ownsRow B 5 1 v n xs) (hb : n + s.size ≤ 2199023255552) :
    ∃ v' W', (Builtin.append_ #[99, 9] ty #[v, .string s]).run Tryd.prog W = .ok v' W' ∧ W'.ownsRow B 5 1 v' (n + s.size) (xs ++ byteCells s) ∧ W.grownBy W' v.ownBlock ∧ (v'.ownBlock = v.ownBlock ∨ v'.ownBlock = some W.heap.size) := by
  obtain ⟨i, hi, hz⟩ := Option.map_eq_some_iff.1 infoB
  simp only [Prod.mk.injEq] at hz
  obtain ⟨hz0, hz1, hz2⟩ := hz
  have hs := Src.ofString (P := Tryd.prog) W Tryd.underlying9 s
  have hbl : (byteCells s).length = s.size := byteCells_length s
  have hlen : (xs ++ byteCells s).length = (n + s.size) * 1 := by rw [List.length_append, hown.1, hbl]; omega
  have grown : ∀ (old : Nat) (row : Option Nat), old < n + s.size →
      (W.drew.alloc (.cells ((xs ++ byteCells s).toArray ++ Builtin.zeroCells (Value.int .u8 0).cells (grownCap W (n + s.size) old 5 - (n + s.size))) 5)).ownsRow B 5 1 (.slice (some ⟨W.heap.size, 0, none⟩) (n + s.size) (grownCap W (n + s.size) old 5)) (n + s.size) (xs ++ byteCells s) ∧
      W.grownBy (W.drew.alloc (.cells ((xs ++ byteCells s).toArray ++ Builtin.zeroCells (Value.int .u8 0).cells (grownCap W (n + s.size) old 5 - (n + s.size))) 5)) row := by
    intro old row ho
    have hge := grownCap_ge W (n + s.size) old 5
    have hcm : grownCap W (n + s.size) old 5 ≤ maxLen := grownCap_le_maxLen W (n + s.size) old 5 (by unfold maxLen; omega)
    refine ⟨⟨hlen, .inr ⟨W.heap.size, _, _, rfl, hB, (MapKept.heap_alloc W.drew _).1, hge, hcm, ?_, ?_⟩⟩, ⟨rfl, rfl, rfl, by simp, fun k hk _ => Below.heap_alloc W.drew _ k hk⟩⟩
    · simp only [Array.size_append, List.size_toArray, size_zeroCells, hlen]
      simp [Value.cells]
      omega
    · simp only [Array.toList_append]
      rw [← hlen]
      exact List.take_left
  have hsrc : Src Tryd.prog i.size 9 (.string s) s.size (byteCells s) W := by rw [hz1]; exact hs
  rcases hown.2 with ⟨rfl, rfl⟩ | ⟨g, cap, cur, rfl, hbg, hg, hnc, hcm, hcs, htake⟩
  · have hx : xs = [] := List.eq_nil_of_length_eq_zero (by simpa using hown.1)
    subst hx
    by_cases hm : s.size = 0
    · refine ⟨.slice none 0 0, W, ?_, ?_, ⟨rfl, rfl, rfl, Nat.le_refl _, fun _ _ _ => rfl⟩, Or.inl rfl⟩
      · simp [Builtin.append_, run_underlying Tryd.underlying99, run_underlying Tryd.underlying9, sizeOf, typeInfo, hi, Builtin.lenOf, hm, Builtin.firstCells]
      · have e : byteCells s = [] := List.eq_nil_of_length_eq_zero (by rw [hbl, hm])
        rw [e, hm]
        exact World.ownsRow_nil W B 5 1
    · have hr := run_append_grow_src (P := Tryd.prog) W 99 9 ty 5 i (.int .u8 0) Tryd.underlying99 hi hz0 none 0 0 [] (run_firstCells_none W.drew i.size 0 0 0) (.string s) s.size (byteCells s) hsrc (by omega) (by omega) (growslice_fits (by omega) (by rw [hz2]; omega))
      have hgr := grown 0 (Value.ownBlock (.slice none 0 0)) (by omega)
      exact ⟨_, _, hr, hgr.1, hgr.2, Or.inr rfl⟩
  · by_cases hroom : n + s.size ≤ cap
    · have hcell : ∀ j, j < cur.size → (W.cell? ⟨g, j, none⟩).isSome = true := fun j hj => by
        simp [World.cell?, hg, hj]
      have hr := run_append_room_src (P := Tryd.prog) W 99 9 ty 5 i Tryd.underlying99 hi g 0 n cap (.string s) s.size (byteCells s) hsrc hroom (fun j hj => by
        rw [hz1]; exact hcell _ (by omega)) (fun j hj => by simp [World.frozen?, hg])
      rw [hz1] at hr
      have hh := setCells_heap g 5 (0, 0) (byteCells s) (0 + n * 1) W cur hg (by omega)
      obtain ⟨k1, k2, k3, k4, k5⟩ := setCells_size g (byteCells s) (0 + n * 1) W
      refine ⟨_, _, hr, ⟨hlen, .inr ⟨g, cap, _, rfl, hbg, hh, hroom, hcm, ?_, ?_⟩⟩, ⟨k2, k3, k4, by omega, fun k _ hk => k5 k (fun e => hk (by simp [Value.ownBlock, e]))⟩, Or.inl rfl⟩
      · simp only [List.size_toArray, List.length_append, List.length_take, List.length_drop, Array.length_toList]
        omega
      · rw [Nat.zero_add, htake, ← hlen]
        exact List.take_left
    · have holds : ∀ j u, xs[j]? = some u → W.drew.cell? ((⟨g, 0, none⟩ : Addr).add j) = some u := hown.cells (g := g) rfl
      have hr := run_append_grow_src (P := Tryd.prog) W 99 9 ty 5 i (.int .u8 0) Tryd.underlying99 hi hz0 (some ⟨g, 0, none⟩) n cap xs (by rw [hz1]; exact run_firstCells_some W.drew 1 n ⟨g, 0, none⟩ n cap xs hown.1 holds) (.string s) s.size (byteCells s) hsrc (by omega) (by omega) (growslice_fits (by omega) (by rw [hz2]; omega))
      have hgr := grown cap (Value.ownBlock (.slice (some ⟨g, 0, none⟩) n cap)) (by omega)
      exact ⟨_, _, hr, hgr.1, hgr.2, Or.inr rfl⟩

theorem wpList_app (w : World) {ops : Array Oper} {rest : List Oper} {o : Oper} {a : Act} {Q : Exit → Act → World → Prop} (hg : o.guard = none) (s x : Operand) (hop : o.op = .call { callee := .builtin .append, args := #[s, x], argTypes := #[99, 9] })
    (v v' : Value) (str : ByteArray) (W' : World) (hs : a.eval s = v) (hx : a.eval x = .string str) (hrun : (Builtin.append_ #[99, 9] o.type #[v, .string str]).run Tryd.prog w = .ok v' W') (hK : wpList Tryd.prog ops Q rest (a.put o.dst v') W') : wpList Tryd.prog ops Q (o :: rest) a w := by
  refine wpList_plain hg fun K' hK' => ?_
  unfold Oper.wp execOp
  simp only [hop, resolve, invoke, builtin, Sem.run_bind, Sem.run_pure, Result.andThen_ok, List.map_toArray, List.map_cons, List.map_nil, hs, hx, hrun]
  exact hK' _ _ hK
theorem byteCells_byts (s : ByteArray) : byteCells s = byts s.data.toList := by
  simp [byteCells, byts]
/-- a list of texts that lies in memory -/
def Txs (W : World) (v : Value) (L : List ByteArray) : Prop :=
  ∃ ao cap, v = .slice ao L.length cap ∧ L.length ≤ cap ∧ (ao = none → cap = 0) ∧ (0 < L.length → ∃ g off, ao = some ⟨g, off, none⟩ ∧ g < W.heap.size ∧ ∀ (j : Nat) x, L[j]? = some x → W.cell? ⟨g, off + j, none⟩ = some (.string x))
theorem Txs.below {W W' : World} {v : Value} {L : List ByteArray} (h : Txs W v L) (hB : Below W.heap.size W W') : Txs W' v L := by
  obtain ⟨ao, cap, e, h1, h2, h3⟩ := h
  refine ⟨ao, cap, e, h1, h2, fun h0 => ?_⟩
  obtain ⟨g, off, e2, hg, hc⟩ := h3 h0
  exact ⟨g, off, e2, Nat.lt_of_lt_of_le hg hB.size, fun j x hx => (hB.cell (p := ⟨g, off + j, none⟩) hg).trans (hc j x hx)⟩
def texts (L : List ByteArray) : List Value := L.map Value.string
theorem texts_one (L : List ByteArray) : ∀ u ∈ texts L, u.oneCell' = true := by
  intro u hu
  obtain ⟨b, _, rfl⟩ := List.mem_map.1 hu
  rfl
/-- a list of texts in a block of its own, or nil -/
def OwnT (n : Nat) (W : World) (v : Value) (L : List ByteArray) : Prop := W.ownsRow n 9 1 v L.length (texts L)
theorem ownT_nil (n : Nat) (W : World) : OwnT n W (.slice none 0 0) [] := World.ownsRow_nil _ _ _ _
theorem ownT_push {W : World} {B : Nat} {v : Value} {L : List ByteArray} {x : ByteArray} (h : W.ownsRow B 9 1 v (L.length + 1) (texts L ++ [.string x])) : OwnT B W v (L ++ [x]) := by
  unfold OwnT
  rw [List.length_append]
  simpa [texts] using h
theorem OwnT.below {n : Nat} {W W' : World} {v : Value} {L : List ByteArray} (h : OwnT n W v L) (hb : Below W.heap.size W W') : OwnT n W' v L := owns_below h hb
theorem OwnT.txs {n : Nat} {W : World} {v : Value} {L : List ByteArray} (h : OwnT n W v L) : Txs W v L := by
  have hc : W.ownsRow n 9 1 v L.length (texts L) := h
  obtain ⟨hl, ⟨rfl, h1⟩ | ⟨g, cap, cur, rfl, hg, hh, hc1, hm, hsz, htk⟩⟩ := h
  · exact ⟨none, 0, by rw [h1], by omega, fun _ => rfl, fun h0 => by omega⟩
  · refine ⟨some ⟨g, 0, none⟩, cap, rfl, hc1, (fun e => by cases e), fun _ => ⟨g, 0, rfl, (Array.getElem?_eq_some_iff.1 hh).1, fun j x hj => ?_⟩⟩
    have := hc.cells (g := g) rfl j (.string x) (by simp [texts, hj])
    rw [add_off] at this
    rw [Nat.zero_add]
    exact this
def lst (x : ByteArray) : List UInt8 := x.data.toList
theorem lst_len (x : ByteArray) : (lst x).length = x.size := list_size x
theorem str_lst (x : ByteArray) : str (lst x) = x := rfl
def rl (L : List ByteArray) : List (List UInt8) := L.map lst
theorem rl_take (L : List ByteArray) (k : Nat) : (rl L).take k = rl (L.take k) := by simp [rl]
theorem take_snoc {α : Type} {L : List α} {k : Nat} {x : α} (hx : L[k]? = some x) : L.take (k + 1) = L.take k ++ [x] := by
  have hk : k < L.length := (List.getElem?_eq_some_iff.1 hx).1
  rw [List.take_succ_eq_append_getElem hk, (List.getElem?_eq_some_iff.1 hx).2]
/-- the frames of the first k texts -/
def fk (L : List ByteArray) (k : Nat) : List UInt8 := frs (rl (L.take k))
theorem fk_zero (L : List ByteArray) : fk L 0 = [] := rfl
theorem fk_succ {L : List ByteArray} {k : Nat} {x : ByteArray} (hx : L[k]? = some x) : fk L (k + 1) = fk L k ++ (uL x.size ++ lst x) := by
  unfold fk
  rw [take_snoc hx]
  simp [rl, frs, fr, lst]
theorem fk_all {L : List ByteArray} {k : Nat} (h : L.length ≤ k) : fk L k = frs (rl L) := by unfold fk; rw [List.take_of_length_le h]
theorem fit_of {L : List ByteArray} (h : fit (rl L) = true) {k : Nat} {x : ByteArray} (hx : L[k]? = some x) : x.size ≤ 255 := by
  rw [← lst_len]
  exact fit_mem h (List.mem_map.2 ⟨x, List.mem_of_getElem? hx, rfl⟩)
theorem fit_no {L : List ByteArray} {k : Nat} {x : ByteArray} (hx : L[k]? = some x) (h : ¬ x.size ≤ 255) : fit (rl L) = false := by
  cases hf : fit (rl L) with
  | false => rfl
  | true => exact absurd (fit_of hf hx) h
theorem fit_yes {L : List ByteArray} (h : ∀ (k : Nat) x, L[k]? = some x → x.size ≤ 255) : fit (rl L) = true := by
  unfold fit
  rw [List.all_eq_true]
  intro r hr
  obtain ⟨x, hx, rfl⟩ := List.mem_map.1 hr
  obtain ⟨k, hk, e⟩ := List.getElem_of_mem hx
  have := h k x (by rw [List.getElem?_eq_getElem hk, e])
  rw [lst_len]
  simpa using this
theorem fk_len {L : List ByteArray} : ∀ (k : Nat), k ≤ L.length → (∀ (j : Nat) x, j < k → L[j]? = some x → x.size ≤ 255) → (fk L k).length ≤ 257 * k
  | 0, _, _ => by simp [fk_zero]
  | k + 1, hk, h => by
    have hx : L[k]? = some L[k] := List.getElem?_eq_getElem (by omega)
    have := fk_len k (by omega) (fun j x hj => h j x (by omega))
    have h1 := h k _ (by omega) hx
    have h2 := uL_len 1 L[k].size (by omega)
    rw [fk_succ hx, List.length_append, List.length_append, lst_len]
    omega
/-- what Frame answers -/
def frA (L : List ByteArray) : ByteArray := if fit (rl L) = true then str (frs (rl L)) else ByteArray.empty
def frE (L : List ByteArray) : Int := if fit (rl L) = true then 0 else 62
end Um
end Go.Proofs.YtdcffkahijpcbabDoor
