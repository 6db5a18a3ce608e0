/- Layer 5: the failures' variables, and the simplest calls of a store. -/
import Derived.Test.YtdcffkahijpcbabDoorRw
import Derived.Stop.IfaceNil
import Derived.LaidEql
namespace Go.Proofs.YtdcffkahijpcbabDoor
open Go.RowKit
namespace Rs

abbrev er (E : Nat → Addr) (k : Nat) : Value := .iface 164 (.pointer (some (E k)))
structure Gs (w : World) (E : Nat → Addr) (F : Nat → Prop) : Prop where
  nil : w.cell? ⟨3, 0, none⟩ = some (er E 1)
  noRun : w.cell? ⟨7, 0, none⟩ = some (er E 3)
  shut : w.cell? ⟨8, 0, none⟩ = some (er E 4)
  full : w.cell? ⟨9, 0, none⟩ = some (er E 7)
  spent : w.cell? ⟨10, 0, none⟩ = some (er E 8)
  broken : w.cell? ⟨11, 0, none⟩ = some (er E 9)
  sz : 12 ≤ w.heap.size
  hi : ∀ b, F b → 12 ≤ b
theorem Gs.chg {w w' : World} {E : Nat → Addr} {F : Nat → Prop} (h : Gs w E F) (c : Chg F w w') : Gs w' E (Up F w w') := by
  have hb : ∀ g, g < 12 → w'.cell? ⟨g, 0, none⟩ = w.cell? ⟨g, 0, none⟩ := fun g hg => World.cell?_of_block (a := ⟨g, 0, none⟩) (c.block g (by have := h.sz; omega) fun e => by have := h.hi g e; omega)
  refine ⟨?_, ?_, ?_, ?_, ?_, ?_, Nat.le_trans h.sz c.size, fun b hb => ?_⟩
  · rw [hb _ (by decide)]; exact h.nil
  · rw [hb _ (by decide)]; exact h.noRun
  · rw [hb _ (by decide)]; exact h.shut
  · rw [hb _ (by decide)]; exact h.full
  · rw [hb _ (by decide)]; exact h.spent
  · rw [hb _ (by decide)]; exact h.broken
  · rcases hb with hb | hb
    · exact h.hi b hb
    · have := h.sz; omega
theorem Gs.sub {w : World} {E : Nat → Addr} {F G : Nat → Prop} (h : Gs w E F) (hs : ∀ b, G b → 12 ≤ b) : Gs w E G := ⟨h.nil, h.noRun, h.shut, h.full, h.spent, h.broken, h.sz, hs⟩
theorem cells_sto {w : World} {sb : Nat} {m : Sto} {mv : Value} (h : w.heap[sb]? = some (.cells (stoC m mv) 81 (0, 0))) :
    w.cell? ⟨sb, 0, none⟩ = some (.int .i64 m.cap) ∧ w.cell? ⟨sb, 1, none⟩ = some mv ∧ w.cell? ⟨sb, 2, none⟩ = some (.int .i64 m.made) ∧ w.cell? ⟨sb, 3, none⟩ = some (.int .i64 (tot m.runs)) ∧
    w.cell? ⟨sb, 4, none⟩ = some (.int .i64 m.peak) ∧ w.cell? ⟨sb, 5, none⟩ = some (.int .i64 m.ahead) ∧ ∀ k, w.frozen? ⟨sb, k, none⟩ = false := by
  refine ⟨?_, ?_, ?_, ?_, ?_, ?_, fun k => ?_⟩ <;> simp [World.cell?, World.frozen?, h, stoC]
def Sto.tick (m : Sto) : Sto := { m with ahead := m.ahead - 1 }
theorem Sto.Ok.tick {m : Sto} (h : m.Ok) : m.tick.Ok := ⟨h.cap, h.made, h.used, h.peak, h.peakle, by have := h.ahead; simp only [Sto.tick]; omega, h.sorted, h.nums⟩
theorem tick_zero {m : Sto} (h : m.ahead = 0) : m.tick = m := by cases m; simp only [Sto.tick] at *; subst h; rfl
/-- a cell of the store's own is written -/
theorem At.set {w : World} {sb : Nat} {m m' : Sto} {F : Nat → Prop} (h : At w sb m F) (k : Nat) (v : Value) (hr : m'.runs = m.runs) (ok : m'.Ok) (hc : ∀ mv, (stoC m mv).setIfInBounds k v = stoC m' mv) : At (w.setCell ⟨sb, k, none⟩ v) sb m' F := by
  obtain ⟨_, lt, hs, mv, h1, h2⟩ := h
  have ho : ∀ b, b ≠ sb → (w.setCell ⟨sb, k, none⟩ v).heap[b]? = w.heap[b]? := fun b hb => Below.heap_setCell _ _ _ _ hb
  refine ⟨ok, fun b hb => by simpa [World.setCell] using lt b hb, hs, mv, by rw [set_heap1 h1, hc], ?_⟩
  rcases h2 with ⟨e1, e2⟩ | ⟨bm, sl, fl, e1, e2, e3, e4⟩
  · exact .inl ⟨e1, by rw [hr]; exact e2⟩
  · refine .inr ⟨bm, sl, fl, e1, e2, ?_, ?_⟩
    · rw [hr]
      refine map_kept e3 (ho bm fun e => ?_)
      obtain ⟨es, cl, hb, _⟩ := e3
      rw [e, h1] at hb
      cases hb
    · rw [hr]
      exact ⟨e4.fl, fun r hr => own_kept (e4.own r hr) fun g hg => ho g fun e => by
        obtain ⟨c, fz, hk⟩ := Lib.ownsRow_kind (e4.own r hr) g hg
        rw [e, h1] at hk
        injection hk with hk
        injection hk with _ hk _
        exact absurd hk (by decide), e4.inF, e4.apart⟩
theorem At.chg {w : World} {sb : Nat} {m : Sto} {F : Nat → Prop} (h : At w sb m F) (k : Nat) (v : Value) : Chg F w (w.setCell ⟨sb, k, none⟩ v) := (Chg.refl F w).setCell (.inl h.own) v

/-! step -/
theorem step_nil (w : World) {E : Nat → Addr} {F : Nat → Prop} (G : Gs w E F) : Calls Tryd.prog 60 #[.pointer none] w fun e w' => e = .returned (er E 1) ∧ w' = w := by
  have hg := G.nil
  clear G
  go_enter Tryd.func60, Tryd.ntmps60
  go_wp2
  go_ret
  exact ⟨rfl, rfl⟩
theorem step_no {w : World} {sb : Nat} {m : Sto} {F : Nat → Prop} (h : At w sb m F) (ha : m.ahead ≠ 1) :
    Calls Tryd.prog 60 #[.pointer (some ⟨sb, 0, none⟩)] w fun e w' => e = .returned .nilIface ∧ At w' sb m.tick F ∧ Chg F w w' ∧ w'.heap.size = w.heap.size := by
  have ok := h.ok
  have h1 := ok.ahead
  obtain ⟨mv, hs, _⟩ := h.map
  obtain ⟨_, _, _, _, _, c5, fz⟩ := cells_sto hs
  have H := hide h
  clear h hs
  by_cases h0 : m.ahead = 0
  · have HT := hide (tick_zero h0)
    have h0' : (m.ahead : Int) = 0 := by omega
    rw [h0'] at c5
    clear h0 h0' ha h1 ok
    go_enter Tryd.func60, Tryd.ntmps60
    go_wp2
    go_ret
    exact ⟨rfl, by rw [unhide HT]; exact unhide H, Chg.refl _ _, rfl⟩
  · have g0 : ¬ (m.ahead : Int) = 0 := by omega
    have g1 : ¬ ((m.ahead : Int) - 1) = 0 := by omega
    have HA := hide ((unhide H).set (m' := m.tick) 5 (.int .i64 ((m.ahead : Int) - 1)) rfl ok.tick (fun mv => by
      have e : ((m.ahead - 1 : Nat) : Int) = (m.ahead : Int) - 1 := by omega
      simp [stoC, Sto.tick, e]))
    have HC := hide ((unhide H).chg 5 (.int .i64 ((m.ahead : Int) - 1)))
    clear ok
    go_enter Tryd.func60, Tryd.ntmps60
    go_wp2
    go_ret
    exact ⟨rfl, unhide HA, unhide HC, by simp [World.setCell]⟩
theorem step_yes {w : World} {E : Nat → Addr} {sb : Nat} {m : Sto} {F : Nat → Prop} (h : At w sb m F) (G : Gs w E F) (ha : m.ahead = 1) :
    Calls Tryd.prog 60 #[.pointer (some ⟨sb, 0, none⟩)] w fun e w' => e = .returned (er E 9) ∧ At w' sb m.tick F ∧ Chg F w w' ∧ w'.heap.size = w.heap.size := by
  have ok := h.ok
  have hg := (G.chg (h.chg 5 (.int .i64 0))).broken
  obtain ⟨mv, hs, _⟩ := h.map
  obtain ⟨_, _, _, _, _, c5, fz⟩ := cells_sto hs
  have e1 : (m.ahead : Int) = 1 := by omega
  rw [e1] at c5
  have HA := hide (h.set (m' := m.tick) 5 (.int .i64 0) rfl ok.tick (fun mv => by simp [stoC, Sto.tick, ha]))
  have HC := hide (h.chg 5 (.int .i64 0))
  clear h hs G ha e1 ok
  go_enter Tryd.func60, Tryd.ntmps60
  go_wp2
  go_ret
  exact ⟨rfl, unhide HA, unhide HC, by simp [World.setCell]⟩
theorem used_nil (w : World) : Calls Tryd.prog 27 #[.pointer none] w fun e w' => e = .returned (.int .i64 0) ∧ w' = w := by
  go_enter Tryd.func27, Tryd.ntmps27
  go_wp2
  go_ret
  exact ⟨rfl, rfl⟩
theorem used_any {w : World} {sb : Nat} {m : Sto} {F : Nat → Prop} (h : At w sb m F) : Calls Tryd.prog 27 #[.pointer (some ⟨sb, 0, none⟩)] w fun e w' => e = .returned (.int .i64 (tot m.runs)) ∧ w' = w := by
  obtain ⟨mv, hs, _⟩ := h.map
  obtain ⟨_, _, _, c3, _, _, fz⟩ := cells_sto hs
  clear h hs
  go_enter Tryd.func27, Tryd.ntmps27
  go_wp2
  go_ret
  exact ⟨rfl, rfl⟩
end Rs
end Go.Proofs.YtdcffkahijpcbabDoor
