/- Layer 5: the map of runs is written. No walk. -/
import Derived.Test.YtdcffkahijpcbabDoorRh
namespace Go.Proofs.YtdcffkahijpcbabDoor
open Go.RowKit
namespace Rs
theorem gen_world {P : Program} {c : Code} {Q : Exit → Act → World → Prop} {a : Act} {W : World} (h : ∀ V, V = W → Code.wp P c Q a V) : Code.wp P c Q a W := h W rfl
structure Mp (w : World) (bm : Nat) (sl : Nat → Value) (fl : Nat → Bool) (l : List Run) (F : Nat → Prop) : Prop where
  bmF : F bm
  map : w.ownsMap Tryd.prog 3 Rh bm l.length (dat (el sl fl) l)
  rows : Rows w sl fl l F
theorem In.mp {w : World} {sb : Nat} {m : Sto} {F : Nat → Prop} {bm : Nat} {sl : Nat → Value} {fl : Nat → Bool} (h : In w sb m F bm sl fl) : Mp w bm sl fl m.runs F := ⟨h.bmF, h.map, h.rows⟩
section
variable {w w' : World} {bm : Nat} {sl : Nat → Value} {fl : Nat → Bool} {l : List Run} {F G : Nat → Prop}
theorem Mp.kept (h : Mp w bm sl fl l F) (hb : ∀ b, F b → w'.heap[b]? = w.heap[b]?) (hG : ∀ b, F b → G b) : Mp w' bm sl fl l G := ⟨hG _ h.bmF, map_kept h.map (hb _ h.bmF), h.rows.kept hb hG⟩
theorem Mp.row_ne (h : Mp w bm sl fl l F) {r : Run} (hr : r ∈ l) {g : Nat} (hg : (sl r.num).ownBlock = some g) : g ≠ bm := by
  intro e
  obtain ⟨c, fz, hk⟩ := Lib.ownsRow_kind (h.rows.own r hr) g hg
  obtain ⟨es, cl, hb, _⟩ := h.map
  rw [e, hb] at hk
  cases hk
theorem Mp.new (h : Mp w bm sl fl l F) {n : Nat} (hn : ∀ r ∈ l, r.num < n) (hs : n ≤ 16777216) (hl : l.length ≤ 16777216) :
    ∃ w', (Instr.mapUpdate 79 (.map (some bm)) (.int .i64 (n : Int)) zc).run Tryd.prog w = .ok () w' ∧ Mp w' bm (upd sl n (.slice none 0 0)) (updB fl n false) (l ++ [⟨n, [], false⟩]) F ∧ w.grownBy w' (some bm) := by
  obtain ⟨w', h1, h2, h3⟩ := h.map.update (t := 79) (e := 114) (val := zc) (d := .held zc) (ps := []) law3 Tryd.underlying79 (by unfold maxLen; omega) (key3 (k := (n : Int)) (by omega) (by omega)) rfl
  rw [dat_new _ hn, el_upd] at h2
  refine ⟨w', h1, ⟨h.bmF, map_tight h2, ⟨fun r hr => ?_, fun r hr => ?_, fun r hr g hg => ?_, fun r hr r' hr' hne g hg => ?_⟩⟩, h3⟩
  · rcases List.mem_append.1 hr with hr | hr
    · rw [updB_ne _ _ (by have := hn r hr; omega)]; exact h.rows.fl r hr
    · simp at hr; subst hr; rw [updB_same]
  · rcases List.mem_append.1 hr with hr | hr
    · rw [upd_ne _ _ (by have := hn r hr; omega)]
      exact own_kept (h.rows.own r hr) fun g hg => h3.block g ((h.rows.own r hr).lt g hg).2 fun e => h.row_ne hr hg (by cases e; rfl)
    · simp at hr; subst hr; rw [upd_same]; exact World.ownsRow_nil w' 0 5 1
  · rcases List.mem_append.1 hr with hr | hr
    · rw [upd_ne _ _ (by have := hn r hr; omega)] at hg; exact h.rows.inF r hr g hg
    · simp at hr; subst hr; rw [upd_same] at hg; cases hg
  · rcases List.mem_append.1 hr with hr | hr
    · rw [upd_ne _ _ (by have := hn r hr; omega)] at hg
      rcases List.mem_append.1 hr' with hr' | hr'
      · rw [upd_ne _ _ (by have := hn r' hr'; omega)]
        exact h.rows.apart r hr r' hr' hne g hg
      · simp at hr'; subst hr'; rw [upd_same]; intro e; cases e
    · simp at hr; subst hr; rw [upd_same] at hg; cases hg
theorem Mp.put (h : Mp w bm sl fl l F) (hs : l.Pairwise fun a b => a.num < b.num) {r0 r : Run} (h0 : r0 ∈ l) (hn : r.num = r0.num) (hk : r0.num ≤ 16777216) (hl : l.length ≤ 16777216) {v : Value}
    (ho : w.ownsRow 0 5 1 v r.txt.length (r.txt.map encB)) (hF : ∀ g, v.ownBlock = some g → F g) (hA : ∀ g, v.ownBlock = some g → ∀ x ∈ l, x.num ≠ r0.num → (sl x.num).ownBlock ≠ some g) :
    ∃ w', (Instr.mapUpdate 79 (.map (some bm)) (.int .i64 (r0.num : Int)) (.agg #[v, .bool r.shut])).run Tryd.prog w = .ok () w' ∧ Mp w' bm (upd sl r0.num v) (updB fl r0.num r.shut) (repl l r) F ∧ w.grownBy w' (some bm) := by
  obtain ⟨w', h1, h2, h3⟩ := h.map.update (t := 79) (e := 114) (val := .agg #[v, .bool r.shut]) (d := .held (.agg #[v, .bool r.shut])) (ps := []) law3 Tryd.underlying79 (by unfold maxLen; omega) (key3 (k := (r0.num : Int)) (by omega) (by omega)) rfl
  rw [dat_put _ hs h0 hn, el_upd] at h2
  have hbm : ∀ g, v.ownBlock = some g → g ≠ bm := fun g hg e => by
    obtain ⟨c, fz, hk⟩ := Lib.ownsRow_kind ho g hg
    obtain ⟨es, cl, hb, _⟩ := h.map
    rw [e, hb] at hk
    cases hk
  refine ⟨w', h1, ⟨h.bmF, map_tight h2, ⟨fun x hx => ?_, fun x hx => ?_, fun x hx g hg => ?_, fun x hx y hy hne g hg => ?_⟩⟩, h3⟩
  · rcases repl_mem hx with ⟨rfl, _⟩ | ⟨hx, hxn⟩
    · rw [hn, updB_same]
    · rw [updB_ne _ _ (by omega)]; exact h.rows.fl x hx
  · rcases repl_mem hx with ⟨rfl, _⟩ | ⟨hx, hxn⟩
    · rw [hn, upd_same]
      exact own_kept ho fun g hg => h3.block g (ho.lt g hg).2 fun e => hbm g hg (by cases e; rfl)
    · rw [upd_ne _ _ (by omega)]
      exact own_kept (h.rows.own x hx) fun g hg => h3.block g ((h.rows.own x hx).lt g hg).2 fun e => h.row_ne hx hg (by cases e; rfl)
  · rcases repl_mem hx with ⟨rfl, _⟩ | ⟨hx, hxn⟩
    · rw [hn, upd_same] at hg; exact hF g hg
    · rw [upd_ne _ _ (by omega)] at hg; exact h.rows.inF x hx g hg
  · rcases repl_mem hx with ⟨rfl, _⟩ | ⟨hx, hxn⟩
    · rw [hn, upd_same] at hg
      rcases repl_mem hy with ⟨rfl, _⟩ | ⟨hy, hyn⟩
      · exact absurd rfl hne
      · rw [upd_ne _ _ (by omega)]; exact hA g hg y hy (by omega)
    · rw [upd_ne _ _ (by omega)] at hg
      have hx2 : x ∈ l := by assumption
      rcases repl_mem hy with ⟨e0, _⟩ | ⟨hy, hyn⟩
      · rw [e0, hn, upd_same]; intro e; exact hA g e x hx2 (by omega) hg
      · rw [upd_ne _ _ (by omega)]; exact h.rows.apart x hx2 y hy hne g hg
theorem Mp.del (h : Mp w bm sl fl l F) {k : Int} (h1 : -9223372036854775808 ≤ k) (h2 : k ≤ 9223372036854775807) (ty : TypeId) :
    ∃ w', (Builtin.delete_ #[79, 3] ty #[.map (some bm), .int .i64 k]).run Tryd.prog w = .ok (.tuple #[]) w' ∧ Mp w' bm sl fl (drop l k) F ∧ w.grownBy w' (some bm) := by
  obtain ⟨w', e1, e2, e3⟩ := h.map.drop (t := 79) (e := 114) law3 Tryd.underlying79 (key3 h1 h2) ty
  rw [dat_del] at e2
  have e3 := e3.grown
  refine ⟨w', e1, ⟨h.bmF, map_tight e2, ⟨fun r hr => h.rows.fl r (drop_mem hr).1, fun r hr => ?_, fun r hr => h.rows.inF r (drop_mem hr).1, fun r hr r' hr' => h.rows.apart r (drop_mem hr).1 r' (drop_mem hr').1⟩⟩, e3⟩
  exact own_kept (h.rows.own r (drop_mem hr).1) fun g hg => e3.block g ((h.rows.own r (drop_mem hr).1).lt g hg).2 fun e => h.row_ne (drop_mem hr).1 hg (by cases e; rfl)
theorem Mp.made (w : World) (hF : F w.heap.size) : Mp (w.alloc (.map #[] 0)) w.heap.size sl fl [] F :=
  ⟨hF, World.ownsMap_made w _ _ _, ⟨by simp, by simp, by simp, by simp⟩⟩
end
end Rs
end Go.Proofs.YtdcffkahijpcbabDoor
