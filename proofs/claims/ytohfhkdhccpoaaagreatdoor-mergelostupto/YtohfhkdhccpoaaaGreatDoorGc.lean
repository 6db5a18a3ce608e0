/- Layer 5: Remove. -/
import Derived.Test.YtohfhkdhccpoaaaGreatDoorGa
namespace Go.Proofs.YtohfhkdhccpoaaaGreatDoor
open Go.RowKit
namespace Rs
def rem (m : Sto) (k : Int) : Nat × Sto :=
  match look m.runs k with
    | none => (3, m)
    | some _ => (0, { m with runs := drop m.runs k })
theorem drop_ok {m : Sto} (h : m.Ok) {r : Run} (h0 : r ∈ m.runs) : ({ m with runs := drop m.runs r.num } : Sto).Ok := by
  have e := tot_drop h.sorted h0
  have k1 := h.used
  have k2 := h.peak
  exact ⟨h.cap, h.made, by simp only; omega, by simp only; omega, h.peakle, h.ahead, drop_sorted _ h.sorted, fun x hx => h.nums x (drop_mem hx).1⟩
theorem Mp.setSb {w : World} {bm sb : Nat} {sl : Nat → Value} {fl : Nat → Bool} {l : List Run} {F : Nat → Prop} {C : Array Value} (h : Mp w bm sl fl l F) (hs : w.heap[sb]? = some (.cells C 69 (0, 0))) (j : Nat) (v : Value) : Mp (w.setCell ⟨sb, j, none⟩ v) bm sl fl l F := by
  refine ⟨h.bmF, map_kept h.map (Below.heap_setCell _ _ _ _ fun e => ?_), ⟨h.rows.fl, fun r hr => own_kept (h.rows.own r hr) fun g hg => Below.heap_setCell _ _ _ _ fun e => ?_, h.rows.inF, h.rows.apart⟩⟩
  · obtain ⟨es, cl, hb, _⟩ := h.map
    rw [show bm = sb from e, hs] at hb
    cases hb
  · obtain ⟨c, fz, hk⟩ := Lib.ownsRow_kind (h.rows.own r hr) g hg
    rw [show g = sb from e, hs] at hk
    injection hk with hk
    injection hk with _ hk _
    exact absurd hk (by decide)
theorem wpList_del (w : World) {ops : Array Oper} {rest : List Oper} {o : Oper} {a : Act} {Q : Exit → Act → World → Prop} (hg : o.guard = none) (mm x : Operand) (hop : o.op = Op.call { callee := Callee.builtin Builtin.delete, args := #[mm, x], argTypes := #[67, 3] })
    (b : Nat) (sl : Nat → Value) (fl : Nat → Bool) (l : List Run) (F : Nat → Prop) (k : Int) (hm : a.eval mm = .map (some b)) (hx : a.eval x = .int .i64 k) (h : Mp w b sl fl l F) (h1 : -9223372036854775808 ≤ k) (h2 : k ≤ 9223372036854775807)
    (hK : ∀ w', Mp w' b sl fl (drop l k) F → w.grownBy w' (some b) → wpList Tryz.prog ops Q rest (a.put o.dst (.tuple #[])) w') : wpList Tryz.prog ops Q (o :: rest) a w := by
  refine wpList_plain hg fun K' hK' => ?_
  obtain ⟨w', hrun, r1, r2⟩ := h.del h1 h2 o.type
  unfold Oper.wp
  simp [execOp, hop, resolve, invoke, builtin, hm, hx, hrun, Result.andThen]
  exact hK' _ _ (hK w' r1 r2)
theorem remove_nil (w : World) (k : Int) {E : Nat → Addr} {F : Nat → Prop} (G : Gs w E F) : Calls Tryz.prog 32 #[.pointer none, .int .i64 k] w fun e w' => e = .returned (errV E 1) ∧ Below w.heap.size w w' := by
  have HF := hide (find_nil w k G)
  clear G
  go_enter Tryz.func32, Tryz.ntmps32
  go_wp2_with (go_at_call 61; refine (unhide HF).mono ?_; rintro e w1 ⟨rfl, hb⟩; have HB := hide hb; clear hb)
  go_ret
  exact ⟨rfl, (unhide HB).trans (((Below.refl _ _).alloc (Nat.le_refl _) _).mono (unhide HB).size)⟩
set_option maxRecDepth 100000 in
set_option maxHeartbeats 1000000 in
theorem remove_any {w : World} {sb : Nat} {m : Sto} {F : Nat → Prop} {E : Nat → Addr} {k : Int} (h : At w sb m F) (G : Gs w E F) (hk1 : -9223372036854775808 ≤ k) (hk2 : k ≤ 9223372036854775807) :
    Calls Tryz.prog 32 #[.pointer (some ⟨sb, 0, none⟩), .int .i64 k] w fun e w' => e = .returned (errV E (rem m k).1) ∧ Res F w sb (rem m k).2 w' := by
  rcases hl : look m.runs k with _ | r
  · have HR : Hid (rem m k = (3, m)) := hide (by unfold rem; rw [hl])
    have HF := hide (find_none h G hk1 hk2 hl)
    have H1 := hide (h.res (Chg.refl F w))
    clear h G hl
    rw [unhide HR]
    go_enter Tryz.func32, Tryz.ntmps32
    go_wp2_with (go_at_call 61; refine (unhide HF).mono ?_; rintro e w1 ⟨rfl, hb⟩; have H2 := hide ((unhide H1).below hb); clear hb)
    go_ret
    exact ⟨rfl, (unhide H2).below ((Below.refl _ _).alloc (Nat.le_refl _) _)⟩
  · have HR : Hid (rem m k = (0, { m with runs := drop m.runs k })) := hide (by unfold rem; rw [hl])
    obtain ⟨bm, sl, fl, hin⟩ : ∃ bm sl fl, In w sb m F bm sl fl := by
      rcases h.open with ⟨_, he⟩ | hx
      · have := (look_mem hl).1
        rw [he] at this
        cases this
      · exact hx
    have hf := find_some hin hk1 hk2 hl
    have HM := hide (look_mem hl)
    obtain ⟨a, c, ev⟩ := own_slice (hin.rows.own r (unhide HM).1)
    rw [ev] at hf
    have HF := hide hf
    have HI := hide hin
    have hU := tot_mem (unhide HM).1
    have hU2 : tot m.runs ≤ 67108864 := by have := hin.ok.used; have := hin.ok.cap; omega
    clear h G hl hf ev hin
    rw [unhide HR]
    go_enter Tryz.func32, Tryz.ntmps32
    go_wp2_with fail
    refine (unhide HF).mono ?_
    rintro e w2 ⟨rfl, hb⟩
    have HI2 := hide ((unhide HI).below hb)
    have H22 : Hid (Chg F w w2) := Chg.of_below hb
    have c1 := (cells_sto (unhide HI2).sto).2.1
    have hsb := (unhide HI2).lt _ (unhide HI2).own
    clear hb
    go_wp2_with (at_delete; refine wpList_del _ rfl _ _ rfl bm sl fl m.runs F k rfl rfl (by exact ((unhide HI2).alloc _).mp) hk1 hk2 ?_; intro V1 hmp hgr; have HMP := hide hmp; have HGR := hide hgr; clear hmp hgr)
    have hsto : V1.heap[sb]? = some (.cells (stoC m (.map (some bm))) 69 (0, 0)) := by
      have hne : sb ≠ bm := fun e => by
        obtain ⟨es, cl, hb, _⟩ := (unhide HI2).map
        rw [← e, (unhide HI2).sto] at hb
        cases hb
      rw [(unhide HGR).block sb (by simp; omega) (fun e => hne (by cases e; rfl))]
      exact ((unhide HI2).alloc _).sto
    have j0 : V1.cell? ⟨w2.heap.size, 0, none⟩ = some (.slice a r.txt.length c) := by
      refine (unhide HGR).cell (a := ⟨w2.heap.size, 0, none⟩) (by rw [World.cell?_alloc_at _ _ _ _ rfl]; rfl) ?_
      have := (unhide HI2).lt _ (unhide HI2).bmF
      intro e
      injection e with e
      simp only at e
      omega
    obtain ⟨-, -, -, k3, -, -, kf⟩ := cells_sto hsto
    have HFIN : Hid (Res F w sb { m with runs := drop m.runs k } (V1.setCell ⟨sb, 3, none⟩ (.int .i64 ((tot m.runs : Int) - r.txt.length)))) := by
      have et := tot_drop (unhide HI).ok.sorted (unhide HM).1
      have ek := (unhide HM).2
      rw [ek] at et
      have ok := drop_ok (unhide HI).ok (unhide HM).1
      rw [ek] at ok
      refine res_of ok ?_ ((unhide HMP).setSb hsto 3 _) (fun b hb => .inl hb) (unhide HI).lt (unhide HI).own ((((unhide H22).alloc _).grown (unhide HGR) (fun k hk => by cases hk; exact .inl (unhide HI).bmF)).setCell (.inl (unhide HI).own) _)
      rw [set_heap1 hsto]
      have e3 : ((tot m.runs : Nat) : Int) - r.txt.length = ((tot (drop m.runs k) : Nat) : Int) := by omega
      rw [e3]
      rfl
    generalize tot m.runs = U at *
    have HW := hide (IntWalk.i64_in ((U : Int) - (r.txt.length : Int)) (by omega))
    clear hsto c1 hsb
    go_region
    all_goals
      go_wp2
      go_ret
      rw [unhide HW]
      exact ⟨rfl, (unhide HFIN).below (Below.refl _ _).drew⟩
end Rs
end Go.Proofs.YtohfhkdhccpoaaaGreatDoor
/- Layer 5: Append, its plain part: what lies in memory while the parts are put behind a run. -/
namespace Go.Proofs.YtohfhkdhccpoaaaGreatDoor
open Go.RowKit
namespace Rs
def bytes (L : List ByteArray) : List UInt8 := L.flatMap fun s => s.data.toList
theorem bytes_len (L : List ByteArray) : (bytes L).length = sz L := by
  induction L with
  | nil => rfl
  | cons x t ih =>
    unfold bytes at ih ⊢
    rw [List.flatMap_cons, List.length_append, ih]
    simp [sz]
theorem bytes_take {L : List ByteArray} {k : Nat} {x : ByteArray} (h : L[k]? = some x) : bytes (L.take (k + 1)) = bytes (L.take k) ++ x.data.toList := by
  have hk := (List.getElem?_eq_some_iff.1 h).1
  rw [List.take_succ_eq_append_getElem hk, (List.getElem?_eq_some_iff.1 h).2]
  simp [bytes]
def Sto.app (m : Sto) (r : Run) (L : List ByteArray) : Sto := { m with runs := repl m.runs { r with txt := r.txt ++ bytes L }, peak := max m.peak (tot m.runs + sz L) }
def app (m : Sto) (k : Int) (L : List ByteArray) : Nat × Sto :=
  if m.ahead = 1 then (9, m.tick) else match look m.runs k with
    | none => (3, m.tick)
    | some r => if r.shut then (4, m.tick) else if tot m.runs + sz L ≤ m.cap then (0, m.tick.app r L) else (7, m.tick)
theorem app_tot {m : Sto} (h : m.Ok) {r : Run} (h0 : r ∈ m.runs) (L : List ByteArray) : tot (m.app r L).runs = tot m.runs + sz L := by
  have e := tot_repl h.sorted h0 (r := { r with txt := r.txt ++ bytes L }) rfl
  simp only [List.length_append, bytes_len] at e
  simp only [Sto.app]
  omega
theorem app_ok {m : Sto} (h : m.Ok) {r : Run} (h0 : r ∈ m.runs) {L : List ByteArray} (hf : tot m.runs + sz L ≤ m.cap) : (m.app r L).Ok := by
  have et := app_tot h h0 L
  have k1 := h.peakle
  refine ⟨h.cap, h.made, by rw [et]; exact hf, by rw [et]; simp only [Sto.app]; omega, by simp only [Sto.app]; omega, h.ahead, repl_sorted _ h.sorted, fun x hx => ?_⟩
  rcases repl_mem hx with ⟨rfl, _⟩ | ⟨hx, _⟩
  · exact h.nums r h0
  · exact h.nums x hx
structure Lp (w wr : World) (F : Nat → Prop) (sb bm b : Nat) (m : Sto) (sl : Nat → Value) (fl : Nat → Bool) (r : Run) (v : Value) (xs : List UInt8) : Prop where
  sto : wr.heap[sb]? = some (.cells (stoC m (.map (some bm))) 69 (0, 0))
  map : wr.ownsMap Tryz.prog 3 Rh bm m.runs.length (dat (el sl fl) m.runs)
  rows : Rows wr sl fl (drop m.runs r.num) F
  own : wr.ownsRow 0 5 1 v xs.length (xs.map encB)
  cell : wr.heap[b]? = some (.cells #[v, .bool false] 108 (0, 0))
  inF : ∀ g, v.ownBlock = some g → F g ∨ w.heap.size ≤ g
  apart : ∀ g, v.ownBlock = some g → ∀ x ∈ drop m.runs r.num, (sl x.num).ownBlock ≠ some g
  chg : Chg F w wr
  bnew : w.heap.size ≤ b
section
variable {w wr : World} {F : Nat → Prop} {sb bm b : Nat} {m : Sto} {sl : Nat → Value} {fl : Nat → Bool} {r : Run} {v : Value} {xs : List UInt8}
theorem Lp.below {wr' : World} (h : Lp w wr F sb bm b m sl fl r v xs) (hb : Below wr.heap.size wr wr') : Lp w wr' F sb bm b m sl fl r v xs := by
  have lt : ∀ {k : Nat} {o : Obj}, wr.heap[k]? = some o → wr'.heap[k]? = some o := fun {k o} hk => (hb.block k (Array.getElem?_eq_some_iff.1 hk).1).trans hk
  refine ⟨lt h.sto, ?_, ⟨h.rows.fl, fun x hx => own_kept (h.rows.own x hx) fun g hg => hb.block g ((h.rows.own x hx).lt g hg).2, h.rows.inF, h.rows.apart⟩, own_kept h.own fun g hg => hb.block g (h.own.lt g hg).2, lt h.cell, h.inF, h.apart, h.chg.trans (Chg.of_below hb), h.bnew⟩
  obtain ⟨es, cl, hm, q⟩ := h.map
  exact ⟨es, cl, lt hm, q⟩
theorem Lp.step (h : Lp w wr F sb bm b m sl fl r v xs) (hlt : ∀ k, F k → k < w.heap.size) (hF : F sb) (s : ByteArray) (ty : TypeId) (hn : xs.length + s.size ≤ 67108864) :
    ∃ a c W', (Builtin.append_ #[77, 9] ty #[v, .string s]).run Tryz.prog wr = .ok (.slice a (xs.length + s.size) c) W' ∧ W'.heap[b]? = some (.cells #[v, .bool false] 108 (0, 0)) ∧
      Lp w (W'.setCell ⟨b, 0, none⟩ (.slice a (xs.length + s.size) c)) F sb bm b m sl fl r (.slice a (xs.length + s.size) c) (xs ++ s.data.toList) := by
  obtain ⟨v', W', h1, h2, h3, h4⟩ := append_str wr v xs.length (xs.map encB) s ty h.own hn
  obtain ⟨a, c, rfl⟩ := own_slice h2
  have hk : ∀ g, v.ownBlock = some g → ∃ cc fz, wr.heap[g]? = some (.cells cc 5 fz) := fun g hg => Lib.ownsRow_kind h.own g hg
  have n1 : some sb ≠ v.ownBlock := fun e => by
    obtain ⟨cc, fz, q⟩ := hk sb e.symm
    rw [h.sto] at q
    injection q with q
    injection q with _ q _
    exact absurd q (by decide)
  have n2 : some bm ≠ v.ownBlock := fun e => by
    obtain ⟨cc, fz, q⟩ := hk bm e.symm
    obtain ⟨es, cl, hm, _⟩ := h.map
    rw [hm] at q
    cases q
  have n3 : some b ≠ v.ownBlock := fun e => by
    obtain ⟨cc, fz, q⟩ := hk b e.symm
    rw [h.cell] at q
    injection q with q
    injection q with _ q _
    exact absurd q (by decide)
  have lt : ∀ {k : Nat} {o : Obj}, wr.heap[k]? = some o → some k ≠ v.ownBlock → W'.heap[k]? = some o := fun {k o} hk hne => (h3.block k (Array.getElem?_eq_some_iff.1 hk).1 hne).trans hk
  have bs : sb ≠ b := fun e => by have := hlt sb hF; have := h.bnew; omega
  have hcell := lt h.cell n3
  have bm_b : bm ≠ b := fun e => by
    obtain ⟨es, cl, hm, _⟩ := h.map
    rw [e, h.cell] at hm
    cases hm
  have blt : b < wr.heap.size := (Array.getElem?_eq_some_iff.1 h.cell).1
  refine ⟨a, c, W', h1, hcell, ?_⟩
  have ho : ∀ k, k ≠ b → (W'.setCell ⟨b, 0, none⟩ (.slice a (xs.length + s.size) c)).heap[k]? = W'.heap[k]? := fun k hk => Below.heap_setCell _ _ _ _ hk
  refine ⟨(ho sb bs).trans (lt h.sto n1), ?_, ⟨h.rows.fl, fun x hx => own_kept (h.rows.own x hx) fun g hg => ?_, h.rows.inF, h.rows.apart⟩, ?_, ?_, fun g hg => ?_, fun g hg x hx => ?_, (h.chg.grown h3 fun k hk => h.inF k hk).setCell (.inr h.bnew) _, h.bnew⟩
  · obtain ⟨es, cl, hm, q⟩ := h.map
    exact ⟨es, cl, (ho bm bm_b).trans (lt hm n2), q⟩
  · have hg1 := h.rows.inF x hx g hg
    rw [ho g (fun e => by have := hlt g hg1; have := h.bnew; omega)]
    exact h3.block g ((h.rows.own x hx).lt g hg).2 fun e => h.apart g e.symm x hx hg
  · have e1 : (xs ++ s.data.toList).map encB = xs.map encB ++ byteCells s := by rw [List.map_append]; rfl
    have e2 : (xs ++ s.data.toList).length = xs.length + s.size := by simp
    rw [e1, e2]
    refine own_kept h2 fun g hg => ho g fun e => ?_
    rcases h4 with h4 | h4
    · exact n3 (by rw [← h4, hg, e])
    · rw [hg] at h4; injection h4 with h4; omega
  · rw [set_heap1 hcell]; rfl
  · rcases h4 with h4 | h4
    · exact h.inF g (h4 ▸ hg)
    · rw [hg] at h4; injection h4 with h4; exact .inr (by rw [h4]; exact h.chg.size)
  · rcases h4 with h4 | h4
    · exact h.apart g (h4 ▸ hg) x hx
    · rw [hg] at h4; injection h4 with h4
      intro e
      have := ((h.rows.own x hx).lt g e).2
      omega
/-- the new contents are laid into the map -/
theorem put_own {l : List Run} (hF : F bm) (hm : w.ownsMap Tryz.prog 3 Rh bm l.length (dat (el sl fl) l)) {r0 r : Run} (hR : Rows w sl fl (drop l r0.num) F) (hs : l.Pairwise fun a b => a.num < b.num) (h0 : r0 ∈ l) (hn : r.num = r0.num) (hk : r0.num ≤ 16777216) (hl : l.length ≤ 16777216)
    (ho : w.ownsRow 0 5 1 v r.txt.length (r.txt.map encB)) (hA : ∀ g, v.ownBlock = some g → ∀ x ∈ drop l r0.num, (sl x.num).ownBlock ≠ some g) :
    ∃ w', (Instr.mapUpdate 67 (.map (some bm)) (.int .i64 (r0.num : Int)) (.agg #[v, .bool r.shut])).run Tryz.prog w = .ok () w' ∧ Mp w' bm (upd sl r0.num v) (updB fl r0.num r.shut) (repl l r) (fun g => F g ∨ v.ownBlock = some g) ∧ w.grownBy w' (some bm) := by
  obtain ⟨w', h1, h2, h3⟩ := hm.update (t := 67) (e := 108) (val := .agg #[v, .bool r.shut]) (d := .held (.agg #[v, .bool r.shut])) (ps := []) law3 Tryz.underlying67 (by unfold maxLen; omega) (key3 (k := (r0.num : Int)) (by omega) (by omega)) rfl
  rw [dat_put _ hs h0 hn, el_upd] at h2
  have hnb : ∀ {u : Value} {k : Nat} {ys : List Value}, w.ownsRow 0 5 1 u k ys → ∀ g, u.ownBlock = some g → g ≠ bm := fun hu g hg e => by
    obtain ⟨c, fz, hk⟩ := Lib.ownsRow_kind hu g hg
    obtain ⟨es, cl, hb, _⟩ := hm
    rw [e, hb] at hk
    cases hk
  have hd : ∀ {x : Run}, x ∈ l → x.num ≠ r.num → x ∈ drop l r0.num := fun {x} hx hne => List.mem_filter.2 ⟨hx, by simp; omega⟩
  refine ⟨w', h1, ⟨.inl hF, map_tight h2, ⟨fun x hx => ?_, fun x hx => ?_, fun x hx g hg => ?_, fun x hx y hy hne g hg => ?_⟩⟩, h3⟩
  · rcases repl_mem hx with ⟨rfl, _⟩ | ⟨hx, hxn⟩
    · rw [hn, updB_same]
    · rw [updB_ne _ _ (by omega)]; exact hR.fl x (hd hx hxn)
  · rcases repl_mem hx with ⟨rfl, _⟩ | ⟨hx, hxn⟩
    · rw [hn, upd_same]
      exact own_kept ho fun g hg => h3.block g (ho.lt g hg).2 fun e => hnb ho g hg (by cases e; rfl)
    · rw [upd_ne _ _ (by omega)]
      have hox := hR.own x (hd hx hxn)
      exact own_kept hox fun g hg => h3.block g (hox.lt g hg).2 fun e => hnb hox g hg (by cases e; rfl)
  · rcases repl_mem hx with ⟨rfl, _⟩ | ⟨hx, hxn⟩
    · rw [hn, upd_same] at hg; exact .inr hg
    · rw [upd_ne _ _ (by omega)] at hg; exact .inl (hR.inF x (hd hx hxn) g hg)
  · rcases repl_mem hx with ⟨ex, _⟩ | ⟨hx2, hxn⟩
    · rw [ex, hn, upd_same] at hg
      rcases repl_mem hy with ⟨ey, _⟩ | ⟨hy2, hyn⟩
      · exact absurd (by rw [ex, ey]) hne
      · rw [upd_ne _ _ (by omega)]; exact hA g hg y (hd hy2 hyn)
    · rw [upd_ne _ _ (by omega)] at hg
      rcases repl_mem hy with ⟨ey, _⟩ | ⟨hy2, hyn⟩
      · rw [ey, hn, upd_same]; intro e; exact hA g e x (hd hx2 hxn) hg
      · rw [upd_ne _ _ (by omega)]; exact hR.apart x (hd hx2 hxn) y (hd hy2 hyn) hne g hg
end
end Rs
end Go.Proofs.YtohfhkdhccpoaaaGreatDoor
/- Layer 5: Append. -/
namespace Go.Proofs.YtohfhkdhccpoaaaGreatDoor
open Go.RowKit
namespace Rs
theorem append_nil (w : World) (k : Int) (v : Value) {E : Nat → Addr} {F : Nat → Prop} (G : Gs w E F) : Calls Tryz.prog 45 #[.pointer none, .int .i64 k, v] w fun e w' => e = .returned (errV E 1) ∧ Below w.heap.size w w' := by
  have HS := hide (step_nil w G)
  clear G
  go_enter Tryz.func45, Tryz.ntmps45
  go_wp2_with (go_at_call 55; refine (unhide HS).mono ?_; rintro e w1 ⟨rfl, rfl⟩)
  go_ret
  exact ⟨rfl, Below.refl _ _⟩
/-- a list of texts that lies outside the store -/
def Parts (w : World) (v : Value) (L : List ByteArray) (F : Nat → Prop) : Prop :=
  ∃ ao cap, v = .slice ao L.length cap ∧ L.length ≤ 9223372036854775807 ∧ (0 < L.length → ∃ g off, ao = some ⟨g, off, none⟩ ∧ g < w.heap.size ∧ ¬ F g ∧ ∀ (j : Nat) x, L[j]? = some x → w.cell? ⟨g, off + j, none⟩ = some (.string x))
theorem Parts.strs {w : World} {v : Value} {L : List ByteArray} {F : Nat → Prop} (h : Parts w v L F) : Strs w v L := by
  obtain ⟨ao, cap, e, hl, h2⟩ := h
  refine ⟨ao, cap, e, hl, fun h0 => ?_⟩
  obtain ⟨g, off, e1, hg, _, hc⟩ := h2 h0
  exact ⟨g, off, e1, hg, hc⟩
theorem Parts.chg {w w' : World} {v : Value} {L : List ByteArray} {F : Nat → Prop} (h : Parts w v L F) (c : Chg F w w') : Parts w' v L F := by
  obtain ⟨ao, cap, e, hl, h2⟩ := h
  refine ⟨ao, cap, e, hl, fun h0 => ?_⟩
  obtain ⟨g, off, e1, hg, hn, hc⟩ := h2 h0
  exact ⟨g, off, e1, Nat.lt_of_lt_of_le hg c.size, hn, fun j x hx => (World.cell?_of_block (a := ⟨g, off + j, none⟩) (c.block g hg hn)).trans (hc j x hx)⟩
theorem wpList_app (w : World) {ops : Array Oper} {rest : List Oper} {o : Oper} {a : Act} {Q : Exit → Act → World → Prop} (hg : o.guard = none) (s x : Operand) (hop : o.op = .call { callee := .builtin .append, args := #[s, x], argTypes := #[77, 9] })
    (v v' : Value) (str : ByteArray) (W' : World) (hs : a.eval s = v) (hx : a.eval x = .string str) (hrun : (Builtin.append_ #[77, 9] o.type #[v, .string str]).run Tryz.prog w = .ok v' W') (hK : wpList Tryz.prog ops Q rest (a.put o.dst v') W') : wpList Tryz.prog ops Q (o :: rest) a w := by
  refine wpList_plain hg fun K' hK' => ?_
  unfold Oper.wp execOp
  simp only [hop, resolve, invoke, builtin, Sem.run_bind, Sem.run_pure, Result.andThen_ok, List.map_toArray, List.map_cons, List.map_nil, hs, hx, hrun]
  exact hK' _ _ hK
theorem lp_cells {wr : World} {b : Nat} {v : Value} (h : wr.heap[b]? = some (.cells #[v, .bool false] 108 (0, 0))) : wr.cell? ⟨b, 0, none⟩ = some v ∧ wr.cell? ⟨b, 1, none⟩ = some (.bool false) ∧ wr.frozen? ⟨b, 0, none⟩ = false := by
  refine ⟨?_, ?_, ?_⟩ <;> simp [World.cell?, World.frozen?, h]
set_option maxRecDepth 100000 in
set_option maxHeartbeats 1000000 in
theorem append_ok {w : World} {sb : Nat} {m : Sto} {F : Nat → Prop} {k : Int} {v : Value} {L : List ByteArray} {r : Run} (h : At w sb m F) (hk1 : -9223372036854775808 ≤ k) (hk2 : k ≤ 9223372036854775807) (hL : Parts w v L F)
    (ha : m.ahead ≠ 1) (hl : look m.runs k = some r) (hs : r.shut = false) (hf : tot m.runs + sz L ≤ m.cap) :
    Calls Tryz.prog 45 #[.pointer (some ⟨sb, 0, none⟩), .int .i64 k, v] w fun e w' => e = .returned .nilIface ∧ Res F w sb (m.tick.app r L) w' := by
  have HS := hide (step_no h ha)
  have HL := hide hl
  have HSH := hide hs
  have HLT := hide h.lt
  have HP := hide hL
  have HFT := hide hf
  have hcap : m.cap ≤ 67108864 := h.ok.cap
  have HSZ : Hid (sz L ≤ 67108864) := hide (by omega)
  obtain ⟨ao, cp, rfl, hn, -⟩ := hL
  obtain ⟨N, hN⟩ : ∃ N, N = L.length := ⟨_, rfl⟩
  have HN := hide hN
  rw [← hN] at hn
  have HP : Hid (Parts w (.slice ao N cp) L F) := by rw [hN]; exact HP
  rw [← hN]
  clear h ha hl hs hf hN hcap
  go_enter Tryz.func45, Tryz.ntmps45
  go_wp2_with fail
  refine (unhide HS).mono ?_
  rintro e w1 ⟨rfl, h1, h2, h3⟩
  obtain ⟨bm, sl, fl, hin⟩ : ∃ bm sl fl, In w1 sb m.tick F bm sl fl := by
    rcases h1.open with ⟨_, he⟩ | hx
    · have := (look_mem (unhide HL)).1
      rw [show m.runs = [] from he] at this
      cases this
    · exact hx
  have hfo := open_some hin hk1 hk2 (unhide HL) (unhide HSH)
  have HM := hide (look_mem (unhide HL))
  obtain ⟨a, c, ev⟩ := own_slice (hin.rows.own r (unhide HM).1)
  rw [ev] at hfo
  have HF := hide hfo
  have HEV := hide ev
  have HI := hide hin
  have H2 := hide h2
  clear h1 h2 h3 hin hfo ev
  go_wp2_with fail
  refine (unhide HF).mono ?_
  rintro e w2 ⟨rfl, hb⟩
  have HI2 := hide ((unhide HI).below hb)
  have H22 : Hid (Chg F w w2) := (unhide H2).trans (Chg.of_below hb)
  have hsb := (unhide HI2).lt _ (unhide HI2).own
  have HRM : Hid (∀ o, Calls Tryz.prog 73 #[.pointer (some ⟨sb, 0, none⟩), .slice ao N cp] (w2.alloc o) fun e w' => e = .returned (.bool true) ∧ Below (w2.alloc o).heap.size (w2.alloc o) w') := fun o => by
    have q := room_any ((unhide HI2).at.alloc o) ((unhide HP).chg ((unhide H22).alloc o)).strs
    rw [decide_eq_true (show tot m.tick.runs + sz L ≤ m.tick.cap from unhide HFT)] at q
    exact q
  clear hb
  have HLP : Hid (∀ o w3, o = Obj.cells #[.slice a r.txt.length c, .bool false] 108 → Below (w2.alloc o).heap.size (w2.alloc o) w3 → Lp w w3 F sb bm w2.heap.size m.tick sl fl r (.slice a r.txt.length c) (r.txt ++ bytes (L.take 0))) := by
    intro o w3 ho hb3
    have hi := (unhide HI2).alloc o
    have hrm := (unhide HM).1
    refine Lp.below ⟨hi.sto, hi.map, ⟨fun x hx => hi.rows.fl x (drop_mem hx).1, fun x hx => hi.rows.own x (drop_mem hx).1, fun x hx => hi.rows.inF x (drop_mem hx).1, fun x hx y hy => hi.rows.apart x (drop_mem hx).1 y (drop_mem hy).1⟩, ?_, ?_, fun g hg => ?_, fun g hg x hx => ?_, (unhide H22).alloc o, (unhide H22).size⟩ hb3
    · have := hi.rows.own r hrm
      rw [unhide HEV] at this
      simpa [bytes] using this
    · rw [ho]; exact (MapKept.heap_alloc w2 _).1
    · exact .inl (hi.rows.inF r hrm g (by rw [unhide HEV]; exact hg))
    · refine hi.rows.apart r hrm x (drop_mem hx).1 (fun e => (drop_mem hx).2 (by rw [e])) g (by rw [unhide HEV]; exact hg)
  go_wp2_with (go_at_call 73; refine (unhide HRM _).mono ?_; rintro e w3 ⟨rfl, hb3⟩; have hlp := unhide HLP _ w3 rfl hb3; have HLP3 := hide hlp; obtain ⟨j0, j1, jf⟩ := lp_cells hlp.cell; clear hb3 hlp)
  go_loopw [37] (fun i wr => ∃ (k : Nat) (ai : Option Addr) (ci : Nat), i = .int .i64 k ∧ k ≤ N ∧ Hid (Lp w wr F sb bm w2.heap.size m.tick sl fl r (.slice ai (r.txt.length + sz (L.take k)) ci) (r.txt ++ bytes (L.take k)))) (fun i _ => N - (intOf i).toNat)
  case atStart => exact ⟨0, a, c, rfl, Nat.zero_le _, HLP3⟩
  case round =>
    obtain ⟨j, ai, ci, rfl, hjn, HLPr⟩ := hrel
    by_cases hlt : j < N
    · obtain ⟨x, hx⟩ : ∃ x, L[j]? = some x := ⟨_, List.getElem?_eq_getElem (by rw [← unhide HN]; exact hlt)⟩
      obtain ⟨ao', cp', ea, -, hcc⟩ := (unhide HP).chg (unhide HLPr).chg
      obtain ⟨rfl, -⟩ : ao = ao' ∧ cp = cp' := by injection ea with e1 e2 e3; exact ⟨e1, e3⟩
      obtain ⟨g, off, rfl, hg, -, hc⟩ := hcc (by rw [← unhide HN]; omega)
      have hcx : wr.cell? ⟨g, off + j, none⟩ = some (.string x) := hc j x hx
      have hltz : (j : Int) < (N : Int) := by omega
      have HSX := hide (sz_take hx)
      have HBX := hide (bytes_take hx)
      obtain ⟨k0, k1, kf⟩ := lp_cells (unhide HLPr).cell
      have hlen : (r.txt ++ bytes (L.take j)).length = r.txt.length + sz (L.take j) := by rw [List.length_append, bytes_len]
      obtain ⟨a2, c2, W2, hrun, hcell2, hlp2⟩ := (unhide HLPr).step (unhide HLT) (unhide HI).own x 77 (by
        have q1 := unhide HSX
        have q2 := sz_le L (j + 1)
        have q3 := tot_mem (unhide HM).1
        have q4 := unhide HFT
        have q5 : m.cap ≤ 67108864 := (unhide HI).ok.cap
        rw [hlen]; omega)
      rw [hlen] at hrun hlp2
      obtain ⟨i0, i1, iF⟩ := lp_cells hcell2
      have HL2 : Hid (Lp w (W2.setCell ⟨w2.heap.size, 0, none⟩ (.slice a2 (r.txt.length + sz (L.take j) + x.size) c2)) F sb bm w2.heap.size m.tick sl fl r (.slice a2 (r.txt.length + sz (L.take (j + 1))) c2) (r.txt ++ bytes (L.take (j + 1)))) := by
        rw [unhide HSX, unhide HBX, ← List.append_assoc, ← Nat.add_assoc]
        exact hlp2
      have HRUN := hide hrun
      generalize sz (L.take j) = S at *
      clear hlp2 hcell2 hlen hcc hc hx ea hrun
      go_wp2_with (at_builtin; refine wpList_app _ rfl _ _ rfl _ _ _ _ rfl rfl (by exact unhide HRUN) ?_)
      go_roundw
      case rel => exact ⟨j + 1, a2, c2, by go_num, by omega, HL2⟩
      case measure => simp [intOf]; omega
    · have e : j = N := by omega
      have hltz : ¬ (j : Int) < (N : Int) := by omega
      have eT : L.take j = L := by rw [e, unhide HN, List.take_length]
      rw [eT] at HLPr
      have hM := unhide HM
      have ok : m.tick.Ok := (unhide HI).ok
      have hlp := unhide HLPr
      obtain ⟨V1, hrun, hmp, hgr⟩ := put_own (w := wr.drew) (F := F) (r := { r with txt := r.txt ++ bytes L }) (v := .slice ai (r.txt.length + sz L) ci) (l := m.runs) (unhide HI).bmF hlp.map ⟨hlp.rows.fl, hlp.rows.own, hlp.rows.inF, hlp.rows.apart⟩ ok.sorted hM.1 rfl (by have := (ok.nums r hM.1).2; have := ok.made; omega) (by have q : m.runs.length ≤ m.made := ok.len; have q2 : m.made ≤ 16777216 := ok.made; omega) (by have := hlp.own; rw [List.length_append, bytes_len] at this; rw [List.length_append, bytes_len]; exact this) hlp.apart
      simp only [unhide HSH, hM.2] at hrun
      have hne : sb ≠ bm := fun e => by
        obtain ⟨es, cl, hb, _⟩ := hlp.map
        rw [← e, hlp.sto] at hb
        cases hb
      have hne2 : w2.heap.size ≠ bm := fun e => by
        obtain ⟨es, cl, hb, _⟩ := hlp.map
        rw [← e, hlp.cell] at hb
        cases hb
      have hsto : V1.heap[sb]? = some (.cells (stoC m.tick (.map (some bm))) 69 (0, 0)) := (hgr.block sb (Array.getElem?_eq_some_iff.1 hlp.sto).1 (fun e => hne (by cases e; rfl))).trans hlp.sto
      have hcell : V1.heap[w2.heap.size]? = some (.cells #[.slice ai (r.txt.length + sz L) ci, .bool false] 108 (0, 0)) := (hgr.block _ (Array.getElem?_eq_some_iff.1 hlp.cell).1 (fun e => hne2 (by cases e; rfl))).trans hlp.cell
      obtain ⟨j0, j1, jf⟩ := lp_cells hlp.cell
      obtain ⟨i0, i1, iF⟩ := lp_cells hcell
      obtain ⟨-, k1, -⟩ := cells_sto hlp.sto
      obtain ⟨-, -, -, k3, k4, -, kf⟩ := cells_sto hsto
      have et := app_tot (m := m.tick) ok hM.1 L
      have etr : tot m.tick.runs = tot m.runs := rfl
      have hU : tot m.runs + sz L ≤ 67108864 := by have := unhide HFT; have : m.cap ≤ 67108864 := ok.cap; omega
      have hnU := tot_mem hM.1
      have HFIN : Hid (Res F w sb (m.tick.app r L) ((V1.setCell ⟨sb, 3, none⟩ (.int .i64 ((tot m.runs : Int) + sz L))).setCell ⟨sb, 4, none⟩ (.int .i64 ((max m.peak (tot m.runs + sz L) : Nat) : Int)))) := by
        have h3 := set_heap1 (k := 3) hsto (.int .i64 ((tot m.runs : Int) + sz L))
        refine res_of (app_ok ok hM.1 (unhide HFT)) ?_ (Mp.setSb (Mp.setSb hmp hsto 3 _) h3 4 _) (fun b hb => ?_) (unhide HLT) (unhide HI).own ((((hlp.chg.drew).grown hgr (fun k hk => by cases hk; exact .inl (unhide HI).bmF)).setCell (.inl (unhide HI).own) _).setCell (.inl (unhide HI).own) _)
        · rw [set_heap1 h3]
          have e3 : ((tot (m.tick.app r L).runs : Nat) : Int) = (tot m.runs : Int) + sz L := by rw [et]; omega
          simp only [stoC, e3]
          rfl
        · rcases hb with hb | hb
          · exact .inl hb
          · rcases hlp.inF b hb with x | x
            · exact .inl x
            · refine .inr ⟨x, ?_⟩
              have := (hlp.own.lt b hb).2
              have := hgr.size
              simp [World.setCell]
              exact Nat.lt_of_lt_of_le (hlp.own.lt b hb).2 hgr.size
      simp only [Sto.tick] at k3 k4
      have hp1 : m.peak ≤ 67108864 := by have : m.peak ≤ m.cap := ok.peakle; have : m.cap ≤ 67108864 := ok.cap; omega
      generalize tot m.runs = U at *
      generalize sz L = S at *
      generalize m.peak = P at *
      clear hsto hcell hmp hgr hlp e eT et etr ok hM hne hne2
      go_wp2
      go_region
      all_goals
        go_wp2
        clear hrun j0 j1 jf k1
        go_region
        go_wp2
        refine gen_world ?_
        intro V hV
        rw [show (U : Int) + ((r.txt.length : Int) + (S : Int) - (r.txt.length : Int)) = (U : Int) + S by omega] at hV
        have HFV : Hid (∀ X : Int, X = ((max P (U + S) : Nat) : Int) → Res F w sb (m.tick.app r L) (V.setCell ⟨sb, 4, none⟩ (.int .i64 X))) := by
          intro X hX
          rw [hV, hX]
          exact (unhide HFIN).below (Below.refl _ _).drew
        have v3 : V.cell? ⟨sb, 3, none⟩ = some (.int .i64 ((U : Int) + S)) := by rw [hV]; go_simp
        have v4 : V.cell? ⟨sb, 4, none⟩ = some (.int .i64 (P : Int)) := by rw [hV]; go_simp
        have vf : ∀ i, V.frozen? ⟨sb, i, none⟩ = false := fun i => by rw [hV]; simp [kf]
        clear hV k3 k4 kf i0 i1 iF
        go_region
        all_goals go_wp2
        all_goals
          go_ret
          refine ⟨rfl, (unhide HFV _ ?_).below (Below.refl _ _).drew⟩
          omega
set_option maxRecDepth 100000 in
set_option maxHeartbeats 1000000 in
theorem append_any {w : World} {sb : Nat} {m : Sto} {F : Nat → Prop} {E : Nat → Addr} {k : Int} {v : Value} {L : List ByteArray} (h : At w sb m F) (G : Gs w E F) (hk1 : -9223372036854775808 ≤ k) (hk2 : k ≤ 9223372036854775807) (hL : Parts w v L F) :
    Calls Tryz.prog 45 #[.pointer (some ⟨sb, 0, none⟩), .int .i64 k, v] w fun e w' => e = .returned (errV E (app m k L).1) ∧ Res F w sb (app m k L).2 w' := by
  by_cases ha : m.ahead = 1
  · have HS := hide (step_yes h G ha)
    have HR : Hid (app m k L = (9, m.tick)) := hide (by unfold app; rw [if_pos ha])
    clear h G ha hL
    rw [unhide HR]
    go_enter Tryz.func45, Tryz.ntmps45
    go_wp2_with (go_at_call 55; refine (unhide HS).mono ?_; rintro e w1 ⟨rfl, h1, h2, h3⟩; clear h3; have H1 := hide h1; have H2 := hide h2; clear h1 h2)
    go_ret
    exact ⟨rfl, (unhide H1).res (unhide H2)⟩
  have HS := hide (step_no h ha)
  have HG : Hid (∀ w1, Chg F w w1 → Gs w1 E F) := fun w1 c => (G.chg c).sub G.hi
  rcases hl : look m.runs k with _ | r
  · have HR : Hid (app m k L = (3, m.tick)) := hide (by unfold app; rw [if_neg ha, hl])
    have HL := hide hl
    clear h G ha hl hL
    rw [unhide HR]
    go_enter Tryz.func45, Tryz.ntmps45
    go_wp2_with fail
    refine (unhide HS).mono ?_
    rintro e w1 ⟨rfl, h1, h2, h3⟩
    have HF := hide (open_none h1 (unhide HG w1 h2) hk1 hk2 (unhide HL))
    have H1 := hide (h1.res h2)
    clear h1 h2 h3
    go_wp2_with fail
    refine (unhide HF).mono ?_
    rintro e w2 ⟨rfl, hb⟩
    have H2 := hide ((unhide H1).below hb)
    clear hb
    go_wp2
    go_ret
    exact ⟨rfl, (unhide H2).below ((Below.refl _ _).alloc (Nat.le_refl _) _)⟩
  by_cases hs : r.shut = true
  · have HR : Hid (app m k L = (4, m.tick)) := hide (by unfold app; rw [if_neg ha, hl]; simp only [hs, if_true])
    have HL := hide hl
    have HSH := hide hs
    clear h G ha hl hs hL
    rw [unhide HR]
    go_enter Tryz.func45, Tryz.ntmps45
    go_wp2_with fail
    refine (unhide HS).mono ?_
    rintro e w1 ⟨rfl, h1, h2, h3⟩
    obtain ⟨bm, sl, fl, hin⟩ : ∃ bm sl fl, In w1 sb m.tick F bm sl fl := by
      rcases h1.open with ⟨_, he⟩ | hx
      · have := (look_mem (unhide HL)).1
        rw [show m.runs = [] from he] at this
        cases this
      · exact hx
    have HF := hide (open_shut hin (unhide HG w1 h2) hk1 hk2 (unhide HL) (unhide HSH))
    have H1 := hide (h1.res h2)
    clear h1 h2 h3 hin
    go_wp2_with fail
    refine (unhide HF).mono ?_
    rintro e w2 ⟨rfl, hb⟩
    have H2 := hide ((unhide H1).below hb)
    clear hb
    go_wp2
    go_ret
    exact ⟨rfl, (unhide H2).below ((Below.refl _ _).alloc (Nat.le_refl _) _)⟩
  have hs : r.shut = false := by simpa using hs
  by_cases hf : tot m.runs + sz L ≤ m.cap
  · have HR : app m k L = (0, m.tick.app r L) := by unfold app; rw [if_neg ha, hl]; simp only [hs, hf, if_true]; rfl
    rw [HR]
    exact append_ok h hk1 hk2 hL ha hl hs hf
  · have HR : Hid (app m k L = (7, m.tick)) := hide (by unfold app; rw [if_neg ha, hl]; simp only [hs, hf, if_false]; rfl)
    have HL := hide hl
    have HSH := hide hs
    have HFT := hide hf
    have HP := hide hL
    obtain ⟨ao, cp, rfl, hn, -⟩ := hL
    clear h G ha hl hs hf hn
    rw [unhide HR]
    go_enter Tryz.func45, Tryz.ntmps45
    go_wp2_with fail
    refine (unhide HS).mono ?_
    rintro e w1 ⟨rfl, h1, h2, h3⟩
    obtain ⟨bm, sl, fl, hin⟩ : ∃ bm sl fl, In w1 sb m.tick F bm sl fl := by
      rcases h1.open with ⟨_, he⟩ | hx
      · have := (look_mem (unhide HL)).1
        rw [show m.runs = [] from he] at this
        cases this
      · exact hx
    have hfo := open_some hin hk1 hk2 (unhide HL) (unhide HSH)
    obtain ⟨a, c, ev⟩ := own_slice (hin.rows.own r (look_mem (unhide HL)).1)
    rw [ev] at hfo
    have HF := hide hfo
    have HI := hide hin
    have H2 := hide h2
    have H1 := hide (h1.res h2)
    clear h1 h2 h3 hin hfo ev
    go_wp2_with fail
    refine (unhide HF).mono ?_
    rintro e w2 ⟨rfl, hb⟩
    have H22 : Hid (Chg F w w2) := (unhide H2).trans (Chg.of_below hb)
    have HRM : Hid (∀ o, Calls Tryz.prog 73 #[.pointer (some ⟨sb, 0, none⟩), .slice ao L.length cp] (w2.alloc o) fun e w' => e = .returned (.bool false) ∧ Below (w2.alloc o).heap.size (w2.alloc o) w') := fun o => by
      have q := room_any (((unhide HI).below hb).at.alloc o) ((unhide HP).chg ((unhide H22).alloc o)).strs
      rw [decide_eq_false (show ¬ tot m.tick.runs + sz L ≤ m.tick.cap from unhide HFT)] at q
      exact q
    have HGG : Hid (∀ o w3, Below (w2.alloc o).heap.size (w2.alloc o) w3 → w3.cell? ⟨5, 0, none⟩ = some (er E 7)) := fun o w3 hb3 => (unhide HG w3 (((unhide H22).alloc o).trans (Chg.of_below hb3))).full
    have H3 := hide ((unhide H1).below hb)
    clear hb
    go_wp2_with (go_at_call 73; refine (unhide HRM _).mono ?_; rintro e w3 ⟨rfl, hb3⟩; have hg := unhide HGG _ w3 hb3; have HB3 := hide hb3; clear hb3)
    go_ret
    exact ⟨rfl, ((unhide H3).below ((Below.refl _ _).alloc (Nat.le_refl _) _)).below (unhide HB3)⟩
end Rs
end Go.Proofs.YtohfhkdhccpoaaaGreatDoor
/- Layer 5: Seal. -/
namespace Go.Proofs.YtohfhkdhccpoaaaGreatDoor
open Go.RowKit
namespace Rs
def sel (m : Sto) (k : Int) : Nat × Sto :=
  if m.ahead = 1 then (9, m.tick) else match look m.runs k with
    | none => (3, m.tick)
    | some r => if r.shut then (4, m.tick) else (0, { m.tick with runs := repl m.runs { r with shut := true } })
theorem repl_ok {m : Sto} (h : m.Ok) {r0 r : Run} (h0 : r0 ∈ m.runs) (hn : r.num = r0.num) (ht : r.txt.length = r0.txt.length) : ({ m with runs := repl m.runs r } : Sto).Ok := by
  have e := tot_repl h.sorted h0 hn
  have et : tot (repl m.runs r) = tot m.runs := by omega
  refine ⟨h.cap, h.made, by simp only [et]; exact h.used, by simp only [et]; exact h.peak, h.peakle, h.ahead, repl_sorted _ h.sorted, fun x hx => ?_⟩
  rcases repl_mem hx with ⟨rfl, _⟩ | ⟨hx, _⟩
  · rw [hn]; exact h.nums r0 h0
  · exact h.nums x hx
theorem seal_nil (w : World) (k : Int) {E : Nat → Addr} {F : Nat → Prop} (G : Gs w E F) : Calls Tryz.prog 47 #[.pointer none, .int .i64 k] w fun e w' => e = .returned (errV E 1) ∧ Below w.heap.size w w' := by
  have HS := hide (step_nil w G)
  clear G
  go_enter Tryz.func47, Tryz.ntmps47
  go_wp2_with (go_at_call 55; refine (unhide HS).mono ?_; rintro e w1 ⟨rfl, rfl⟩)
  go_ret
  exact ⟨rfl, Below.refl _ _⟩
set_option maxRecDepth 100000 in
set_option maxHeartbeats 1000000 in
theorem seal_any {w : World} {sb : Nat} {m : Sto} {F : Nat → Prop} {E : Nat → Addr} {k : Int} (h : At w sb m F) (G : Gs w E F) (hk1 : -9223372036854775808 ≤ k) (hk2 : k ≤ 9223372036854775807) :
    Calls Tryz.prog 47 #[.pointer (some ⟨sb, 0, none⟩), .int .i64 k] w fun e w' => e = .returned (errV E (sel m k).1) ∧ Res F w sb (sel m k).2 w' := by
  by_cases ha : m.ahead = 1
  · have HS := hide (step_yes h G ha)
    have HR : Hid (sel m k = (9, m.tick)) := hide (by unfold sel; rw [if_pos ha])
    clear h G ha
    rw [unhide HR]
    go_enter Tryz.func47, Tryz.ntmps47
    go_wp2_with (go_at_call 55; refine (unhide HS).mono ?_; rintro e w1 ⟨rfl, h1, h2, h3⟩; clear h3; have H1 := hide h1; have H2 := hide h2; clear h1 h2)
    go_ret
    exact ⟨rfl, (unhide H1).res (unhide H2)⟩
  have HS := hide (step_no h ha)
  have HG : Hid (∀ w1, Chg F w w1 → Gs w1 E F) := fun w1 c => (G.chg c).sub G.hi
  rcases hl : look m.runs k with _ | r
  · have HR : Hid (sel m k = (3, m.tick)) := hide (by unfold sel; rw [if_neg ha, hl])
    have HL := hide hl
    clear h G ha hl
    rw [unhide HR]
    go_enter Tryz.func47, Tryz.ntmps47
    go_wp2_with fail
    refine (unhide HS).mono ?_
    rintro e w1 ⟨rfl, h1, h2, h3⟩
    have HF := hide (open_none h1 (unhide HG w1 h2) hk1 hk2 (unhide HL))
    have H1 := hide (h1.res h2)
    clear h1 h2 h3
    go_wp2_with fail
    refine (unhide HF).mono ?_
    rintro e w2 ⟨rfl, hb⟩
    have H2 := hide ((unhide H1).below hb)
    clear hb
    go_wp2
    go_ret
    exact ⟨rfl, (unhide H2).below ((Below.refl _ _).alloc (Nat.le_refl _) _)⟩
  · by_cases hs : r.shut = true
    · have HR : Hid (sel m k = (4, m.tick)) := hide (by unfold sel; rw [if_neg ha, hl]; simp only [hs, if_true])
      have HL := hide hl
      have HSH := hide hs
      clear h G ha hl hs
      rw [unhide HR]
      go_enter Tryz.func47, Tryz.ntmps47
      go_wp2_with fail
      refine (unhide HS).mono ?_
      rintro e w1 ⟨rfl, h1, h2, h3⟩
      obtain ⟨bm, sl, fl, hin⟩ : ∃ bm sl fl, In w1 sb m.tick F bm sl fl := by
        rcases h1.open with ⟨_, he⟩ | hx
        · have := (look_mem (unhide HL)).1
          rw [show m.runs = [] from he] at this
          cases this
        · exact hx
      have HF := hide (open_shut hin (unhide HG w1 h2) hk1 hk2 (unhide HL) (unhide HSH))
      have H1 := hide (h1.res h2)
      clear h1 h2 h3 hin
      go_wp2_with fail
      refine (unhide HF).mono ?_
      rintro e w2 ⟨rfl, hb⟩
      have H2 := hide ((unhide H1).below hb)
      clear hb
      go_wp2
      go_ret
      exact ⟨rfl, (unhide H2).below ((Below.refl _ _).alloc (Nat.le_refl _) _)⟩
    · have hs : r.shut = false := by simpa using hs
      have HR : Hid (sel m k = (0, { m.tick with runs := repl m.runs { r with shut := true } })) := hide (by unfold sel; rw [if_neg ha, hl]; simp only [hs]; rfl)
      have HL := hide hl
      have HSH := hide hs
      have HLT := hide h.lt
      clear h G ha hl hs
      rw [unhide HR]
      go_enter Tryz.func47, Tryz.ntmps47
      go_wp2_with fail
      refine (unhide HS).mono ?_
      rintro e w1 ⟨rfl, h1, h2, h3⟩
      obtain ⟨bm, sl, fl, hin⟩ : ∃ bm sl fl, In w1 sb m.tick F bm sl fl := by
        rcases h1.open with ⟨_, he⟩ | hx
        · have := (look_mem (unhide HL)).1
          rw [show m.runs = [] from he] at this
          cases this
        · exact hx
      have hf := open_some hin hk1 hk2 (unhide HL) (unhide HSH)
      have HM := look_mem (unhide HL)
      obtain ⟨a, c, ev⟩ := own_slice (hin.rows.own r HM.1)
      rw [ev] at hf
      have HF := hide hf
      have HEV := hide ev
      have HI := hide hin
      have H2 := hide h2
      clear h1 h2 h3 hin hf ev HM
      go_wp2_with fail
      refine (unhide HF).mono ?_
      rintro e w2 ⟨rfl, hb⟩
      have HI2 := hide ((unhide HI).below hb)
      have H22 : Hid (Chg F w w2) := (unhide H2).trans (Chg.of_below hb)
      have c1 := (cells_sto (unhide HI2).sto).2.1
      have hsb := (unhide HI2).lt _ (unhide HI2).own
      clear hb
      go_wp2
      refine gen_world ?_
      intro V hV
      have hin : In V sb m.tick F bm sl fl := by rw [hV]; exact (unhide HI2).alloc _
      have HM := look_mem (unhide HL)
      have ok := hin.ok
      obtain ⟨V1, hrun, hmp, hgr⟩ := (hin.mp.kept (w' := V.drew) (fun _ _ => rfl) (fun _ x => x)).put (r := { r with shut := true }) (v := sl r.num) ok.sorted HM.1 rfl (by have := (ok.nums r HM.1).2; have := ok.made; omega) (by have := ok.len; have := ok.made; omega) (hin.rows.own r HM.1) (fun g hg => hin.rows.inF r HM.1 g hg) (fun g hg x hx hne => hin.rows.apart r HM.1 x hx (Ne.symm hne) g hg)
      rw [unhide HEV, HM.2] at hrun
      have k1 := (cells_sto hin.sto).2.1
      have j0 : V.cell? ⟨w2.heap.size, 0, none⟩ = some (.slice a r.txt.length c) := by rw [hV, World.cell?_alloc_at _ _ _ _ rfl]; rfl
      have j1 : V.cell? ⟨w2.heap.size, 1, none⟩ = some (.bool true) := by rw [hV, World.cell?_alloc_at _ _ _ _ rfl]; rfl
      have HFIN : Hid (Res F w sb { m.tick with runs := repl m.runs { r with shut := true } } V1) := by
        have hne : sb ≠ bm := fun e => by
          obtain ⟨es, cl, hb, _⟩ := hin.map
          rw [← e, hin.sto] at hb
          cases hb
        refine res_of (repl_ok (m := m.tick) ok HM.1 rfl rfl) ?_ hmp (fun b hb => .inl hb) (unhide HLT) hin.own ((((unhide H22).alloc _).drew).grown (by rw [← hV]; exact hgr) (fun k hk => by cases hk; exact .inl hin.bmF))
        rw [hgr.block sb (hin.lt _ hin.own) (fun e => hne (by cases e; rfl))]
        show V.heap[sb]? = _
        rw [hin.sto]
        have e := tot_repl ok.sorted HM.1 (r := { r with shut := true }) rfl
        have et : tot (repl m.runs { r with shut := true }) = tot m.runs := by
          have e' : tot (repl m.runs { r with shut := true }) + r.txt.length = tot m.runs + r.txt.length := e
          omega
        simp only [stoC, et]
        rfl
      clear hV hin hmp hgr ok HM c1
      go_region
      all_goals
        go_wp2
        go_ret
        exact ⟨rfl, unhide HFIN⟩
end Rs
end Go.Proofs.YtohfhkdhccpoaaaGreatDoor
