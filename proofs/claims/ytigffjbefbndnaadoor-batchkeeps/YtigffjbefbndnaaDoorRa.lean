/- Layer 5: Append, its plain part: what lies in memory while the parts are put behind a run. -/
import Derived.Test.YtigffjbefbndnaaDoorRr
namespace Go.Proofs.YtigffjbefbndnaaDoor
open Go.RowKit
namespace Rs
def bytes (L : List ByteArray) : List UInt8 := L.flatMap fun s => s.data.toList
theorem bytes_len (L : List ByteArray) : (bytes L).length = sz L := by
  induction L with
  | nil => rfl
  | cons x t ih =>
    unfold bytes at ih ⊢
    rw [List.flatMap_cons, List.length_append, ih]
    simp [sz]
theorem bytes_take {L : List ByteArray} {k : Nat} {x : ByteArray} (h : L[k]? = some x) : bytes (L.take (k + 1)) = bytes (L.take k) ++ x.data.toList := by
  have hk := (List.getElem?_eq_some_iff.1 h).1
  rw [List.take_succ_eq_append_getElem hk, (List.getElem?_eq_some_iff.1 h).2]
  simp [bytes]
def Sto.app (m : Sto) (r : Run) (L : List ByteArray) : Sto := { m with runs := repl m.runs { r with txt := r.txt ++ bytes L }, peak := max m.peak (tot m.runs + sz L) }
def app (m : Sto) (k : Int) (L : List ByteArray) : Nat × Sto :=
  if m.ahead = 1 then (9, m.tick) else match look m.runs k with
    | none => (3, m.tick)
    | some r => if r.shut then (4, m.tick) else if tot m.runs + sz L ≤ m.cap then (0, m.tick.app r L) else (7, m.tick)
theorem app_tot {m : Sto} (h : m.Ok) {r : Run} (h0 : r ∈ m.runs) (L : List ByteArray) : tot (m.app r L).runs = tot m.runs + sz L := by
  have e := tot_repl h.sorted h0 (r := { r with txt := r.txt ++ bytes L }) rfl
  simp only [List.length_append, bytes_len] at e
  simp only [Sto.app]
  omega
theorem app_ok {m : Sto} (h : m.Ok) {r : Run} (h0 : r ∈ m.runs) {L : List ByteArray} (hf : tot m.runs + sz L ≤ m.cap) : (m.app r L).Ok := by
  have et := app_tot h h0 L
  have k1 := h.peakle
  refine ⟨h.cap, h.made, by rw [et]; exact hf, by rw [et]; simp only [Sto.app]; omega, by simp only [Sto.app]; omega, h.ahead, repl_sorted _ h.sorted, fun x hx => ?_⟩
  rcases repl_mem hx with ⟨rfl, _⟩ | ⟨hx, _⟩
  · exact h.nums r h0
  · exact h.nums x hx
structure Lp (w wr : World) (F : Nat → Prop) (sb bm b : Nat) (m : Sto) (sl : Nat → Value) (fl : Nat → Bool) (r : Run) (v : Value) (xs : List UInt8) : Prop where
  sto : wr.heap[sb]? = some (.cells (stoC m (.map (some bm))) 52 (0, 0))
  map : wr.ownsMap Tryd.prog 3 Rh bm m.runs.length (dat (el sl fl) m.runs)
  rows : Rows wr sl fl (drop m.runs r.num) F
  own : wr.ownsRow 0 5 1 v xs.length (xs.map encB)
  cell : wr.heap[b]? = some (.cells #[v, .bool false] 79 (0, 0))
  inF : ∀ g, v.ownBlock = some g → F g ∨ w.heap.size ≤ g
  apart : ∀ g, v.ownBlock = some g → ∀ x ∈ drop m.runs r.num, (sl x.num).ownBlock ≠ some g
  chg : Chg F w wr
  bnew : w.heap.size ≤ b
section
variable {w wr : World} {F : Nat → Prop} {sb bm b : Nat} {m : Sto} {sl : Nat → Value} {fl : Nat → Bool} {r : Run} {v : Value} {xs : List UInt8}
theorem Lp.below {wr' : World} (h : Lp w wr F sb bm b m sl fl r v xs) (hb : Below wr.heap.size wr wr') : Lp w wr' F sb bm b m sl fl r v xs := by
  have lt : ∀ {k : Nat} {o : Obj}, wr.heap[k]? = some o → wr'.heap[k]? = some o := fun {k o} hk => (hb.block k (Array.getElem?_eq_some_iff.1 hk).1).trans hk
  refine ⟨lt h.sto, ?_, ⟨h.rows.fl, fun x hx => own_kept (h.rows.own x hx) fun g hg => hb.block g ((h.rows.own x hx).lt g hg).2, h.rows.inF, h.rows.apart⟩, own_kept h.own fun g hg => hb.block g (h.own.lt g hg).2, lt h.cell, h.inF, h.apart, h.chg.trans (Chg.of_below hb), h.bnew⟩
  obtain ⟨es, cl, hm, q⟩ := h.map
  exact ⟨es, cl, lt hm, q⟩
theorem Lp.step (h : Lp w wr F sb bm b m sl fl r v xs) (hlt : ∀ k, F k → k < w.heap.size) (hF : F sb) (s : ByteArray) (ty : TypeId) (hn : xs.length + s.size ≤ 67108864) :
    ∃ a c W', (Builtin.append_ #[66, 9] ty #[v, .string s]).run Tryd.prog wr = .ok (.slice a (xs.length + s.size) c) W' ∧ W'.heap[b]? = some (.cells #[v, .bool false] 79 (0, 0)) ∧
      Lp w (W'.setCell ⟨b, 0, none⟩ (.slice a (xs.length + s.size) c)) F sb bm b m sl fl r (.slice a (xs.length + s.size) c) (xs ++ s.data.toList) := by
  obtain ⟨v', W', h1, h2, h3, h4⟩ := append_str wr v xs.length (xs.map encB) s ty h.own hn
  obtain ⟨a, c, rfl⟩ := own_slice h2
  have hk : ∀ g, v.ownBlock = some g → ∃ cc fz, wr.heap[g]? = some (.cells cc 5 fz) := fun g hg => Lib.ownsRow_kind h.own g hg
  have n1 : some sb ≠ v.ownBlock := fun e => by
    obtain ⟨cc, fz, q⟩ := hk sb e.symm
    rw [h.sto] at q
    injection q with q
    injection q with _ q _
    exact absurd q (by decide)
  have n2 : some bm ≠ v.ownBlock := fun e => by
    obtain ⟨cc, fz, q⟩ := hk bm e.symm
    obtain ⟨es, cl, hm, _⟩ := h.map
    rw [hm] at q
    cases q
  have n3 : some b ≠ v.ownBlock := fun e => by
    obtain ⟨cc, fz, q⟩ := hk b e.symm
    rw [h.cell] at q
    injection q with q
    injection q with _ q _
    exact absurd q (by decide)
  have lt : ∀ {k : Nat} {o : Obj}, wr.heap[k]? = some o → some k ≠ v.ownBlock → W'.heap[k]? = some o := fun {k o} hk hne => (h3.block k (Array.getElem?_eq_some_iff.1 hk).1 hne).trans hk
  have bs : sb ≠ b := fun e => by have := hlt sb hF; have := h.bnew; omega
  have hcell := lt h.cell n3
  have bm_b : bm ≠ b := fun e => by
    obtain ⟨es, cl, hm, _⟩ := h.map
    rw [e, h.cell] at hm
    cases hm
  have blt : b < wr.heap.size := (Array.getElem?_eq_some_iff.1 h.cell).1
  refine ⟨a, c, W', h1, hcell, ?_⟩
  have ho : ∀ k, k ≠ b → (W'.setCell ⟨b, 0, none⟩ (.slice a (xs.length + s.size) c)).heap[k]? = W'.heap[k]? := fun k hk => Below.heap_setCell _ _ _ _ hk
  refine ⟨(ho sb bs).trans (lt h.sto n1), ?_, ⟨h.rows.fl, fun x hx => own_kept (h.rows.own x hx) fun g hg => ?_, h.rows.inF, h.rows.apart⟩, ?_, ?_, fun g hg => ?_, fun g hg x hx => ?_, (h.chg.grown h3 fun k hk => h.inF k hk).setCell (.inr h.bnew) _, h.bnew⟩
  · obtain ⟨es, cl, hm, q⟩ := h.map
    exact ⟨es, cl, (ho bm bm_b).trans (lt hm n2), q⟩
  · have hg1 := h.rows.inF x hx g hg
    rw [ho g (fun e => by have := hlt g hg1; have := h.bnew; omega)]
    exact h3.block g ((h.rows.own x hx).lt g hg).2 fun e => h.apart g e.symm x hx hg
  · have e1 : (xs ++ s.data.toList).map encB = xs.map encB ++ byteCells s := by rw [List.map_append]; rfl
    have e2 : (xs ++ s.data.toList).length = xs.length + s.size := by simp
    rw [e1, e2]
    refine own_kept h2 fun g hg => ho g fun e => ?_
    rcases h4 with h4 | h4
    · exact n3 (by rw [← h4, hg, e])
    · rw [hg] at h4; injection h4 with h4; omega
  · rw [set_heap1 hcell]; rfl
  · rcases h4 with h4 | h4
    · exact h.inF g (h4 ▸ hg)
    · rw [hg] at h4; injection h4 with h4; exact .inr (by rw [h4]; exact h.chg.size)
  · rcases h4 with h4 | h4
    · exact h.apart g (h4 ▸ hg) x hx
    · rw [hg] at h4; injection h4 with h4
      intro e
      have := ((h.rows.own x hx).lt g e).2
      omega
/-- the new contents are laid into the map -/
theorem put_own {l : List Run} (hF : F bm) (hm : w.ownsMap Tryd.prog 3 Rh bm l.length (dat (el sl fl) l)) {r0 r : Run} (hR : Rows w sl fl (drop l r0.num) F) (hs : l.Pairwise fun a b => a.num < b.num) (h0 : r0 ∈ l) (hn : r.num = r0.num) (hk : r0.num ≤ 16777216) (hl : l.length ≤ 16777216)
    (ho : w.ownsRow 0 5 1 v r.txt.length (r.txt.map encB)) (hA : ∀ g, v.ownBlock = some g → ∀ x ∈ drop l r0.num, (sl x.num).ownBlock ≠ some g) :
    ∃ w', (Instr.mapUpdate 50 (.map (some bm)) (.int .i64 (r0.num : Int)) (.agg #[v, .bool r.shut])).run Tryd.prog w = .ok () w' ∧ Mp w' bm (upd sl r0.num v) (updB fl r0.num r.shut) (repl l r) (fun g => F g ∨ v.ownBlock = some g) ∧ w.grownBy w' (some bm) := by
  obtain ⟨w', h1, h2, h3⟩ := hm.update (t := 50) (e := 79) (val := .agg #[v, .bool r.shut]) (d := .held (.agg #[v, .bool r.shut])) (ps := []) law3 Tryd.underlying50 (by unfold maxLen; omega) (key3 (k := (r0.num : Int)) (by omega) (by omega)) rfl
  rw [dat_put _ hs h0 hn, el_upd] at h2
  have hnb : ∀ {u : Value} {k : Nat} {ys : List Value}, w.ownsRow 0 5 1 u k ys → ∀ g, u.ownBlock = some g → g ≠ bm := fun hu g hg e => by
    obtain ⟨c, fz, hk⟩ := Lib.ownsRow_kind hu g hg
    obtain ⟨es, cl, hb, _⟩ := hm
    rw [e, hb] at hk
    cases hk
  have hd : ∀ {x : Run}, x ∈ l → x.num ≠ r.num → x ∈ drop l r0.num := fun {x} hx hne => List.mem_filter.2 ⟨hx, by simp; omega⟩
  refine ⟨w', h1, ⟨.inl hF, map_tight h2, ⟨fun x hx => ?_, fun x hx => ?_, fun x hx g hg => ?_, fun x hx y hy hne g hg => ?_⟩⟩, h3⟩
  · rcases repl_mem hx with ⟨rfl, _⟩ | ⟨hx, hxn⟩
    · rw [hn, updB_same]
    · rw [updB_ne _ _ (by omega)]; exact hR.fl x (hd hx hxn)
  · rcases repl_mem hx with ⟨rfl, _⟩ | ⟨hx, hxn⟩
    · rw [hn, upd_same]
      exact own_kept ho fun g hg => h3.block g (ho.lt g hg).2 fun e => hnb ho g hg (by cases e; rfl)
    · rw [upd_ne _ _ (by omega)]
      have hox := hR.own x (hd hx hxn)
      exact own_kept hox fun g hg => h3.block g (hox.lt g hg).2 fun e => hnb hox g hg (by cases e; rfl)
  · rcases repl_mem hx with ⟨rfl, _⟩ | ⟨hx, hxn⟩
    · rw [hn, upd_same] at hg; exact .inr hg
    · rw [upd_ne _ _ (by omega)] at hg; exact .inl (hR.inF x (hd hx hxn) g hg)
  · rcases repl_mem hx with ⟨ex, _⟩ | ⟨hx2, hxn⟩
    · rw [ex, hn, upd_same] at hg
      rcases repl_mem hy with ⟨ey, _⟩ | ⟨hy2, hyn⟩
      · exact absurd (by rw [ex, ey]) hne
      · rw [upd_ne _ _ (by omega)]; exact hA g hg y (hd hy2 hyn)
    · rw [upd_ne _ _ (by omega)] at hg
      rcases repl_mem hy with ⟨ey, _⟩ | ⟨hy2, hyn⟩
      · rw [ey, hn, upd_same]; intro e; exact hA g e x (hd hx2 hxn) hg
      · rw [upd_ne _ _ (by omega)]; exact hR.apart x (hd hx2 hxn) y (hd hy2 hyn) hne g hg
end
end Rs
end Go.Proofs.YtigffjbefbndnaaDoor
