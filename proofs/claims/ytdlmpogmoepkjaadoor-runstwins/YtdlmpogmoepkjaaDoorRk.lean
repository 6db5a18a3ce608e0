/- Layer 5: the waking call. -/
import Derived.Test.YtdlmpogmoepkjaaDoorRb
import Derived.Deep.RegionWith
namespace Go.Proofs.YtdlmpogmoepkjaaDoor
open Go.RowKit
namespace Rs
def m1 : Sto := ⟨5, [⟨1, [], false⟩], 1, 0, 0⟩
def m2 : Sto := ⟨5, [⟨1, [97, 98, 99], false⟩], 1, 3, 0⟩
theorem wk1 : crt (newS 5) = ((1, 0), m1) := by rfl
theorem wk2 : app m1 1 [⟨#[97, 98]⟩, ⟨#[99]⟩] = (0, m2) := by rfl
theorem wk3 : app m2 1 [⟨#[100, 101, 102]⟩] = (7, m2) := by rfl
/-- a store, and the failures, wherever it lies -/
def Sit (w : World) (E : Nat → Addr) (sb : Nat) (m : Sto) (w' : World) : Prop := ∃ F, At w' sb m F ∧ Gs w' E F ∧ (∀ b, F b → w.heap.size ≤ b) ∧ Below w.heap.size w w'
theorem Sit.res {w w1 w2 : World} {E : Nat → Addr} {sb : Nat} {m' : Sto} {F : Nat → Prop} (G : Gs w1 E F) (hF : ∀ b, F b → w.heap.size ≤ b) (hb : Below w.heap.size w w1) (h : Res F w1 sb m' w2) : Sit w E sb m' w2 :=
  ⟨_, h.1, G.chg h.2, fun b hb2 => hb2.elim (hF b) fun x => Nat.le_trans hb.size x.1, hb.trans (h.2.below hb.size hF)⟩
theorem Sit.below {w w1 w2 : World} {E : Nat → Addr} {sb : Nat} {m : Sto} (h : Sit w E sb m w1) (hb : Below w1.heap.size w1 w2) : Sit w E sb m w2 := by
  obtain ⟨F, h1, h2, h3, h4⟩ := h
  exact ⟨F, h1.kept (fun b hF => hb.block b (h1.lt b hF)) (fun _ x => x) (fun b hF => Nat.lt_of_lt_of_le (h1.lt b hF) hb.size), (h2.chg (Chg.of_below hb)).sub h2.hi, h3, h4.trans (hb.mono h4.size)⟩
theorem sit_new {w : World} {E : Nat → Addr} {F : Nat → Prop} (G : Gs w E F) (c : Int) (h1 : -9223372036854775808 ≤ c) (h2 : c ≤ 9223372036854775807) :
    Calls Tryd.prog 6 #[.int .i64 c] w fun e w' => e = .returned (.pointer (some ⟨w.heap.size, 0, none⟩)) ∧ Sit w E w.heap.size (newS c) w' := by
  refine (new_any c w h1 h2).mono ?_
  rintro e w' ⟨rfl, h3, h4, h5⟩
  refine ⟨rfl, _, h3, ((G.sub (F := F) (G := fun _ => False) (fun _ h => h.elim)).chg (Chg.of_below h4)).sub fun b hb => ?_, fun b hb => by rw [hb]; exact Nat.le_refl _, h4⟩
  rw [hb]; exact G.sz
theorem sit_create {w w1 : World} {E : Nat → Addr} {sb : Nat} {m : Sto} (h : Sit w E sb m w1) :
    Calls Tryd.prog 17 #[.pointer (some ⟨sb, 0, none⟩)] w1 fun e w' => e = .returned (.tuple #[.int .i64 (crt m).1.1, errV E (crt m).1.2]) ∧ Sit w E sb (crt m).2 w' := by
  obtain ⟨F, h1, h2, h3, h4⟩ := h
  refine (create_any h1 h2).mono ?_
  rintro e w' ⟨rfl, h5⟩
  exact ⟨rfl, Sit.res h2 h3 h4 h5⟩
theorem sit_append {w w1 W : World} {E : Nat → Addr} {sb : Nat} {m : Sto} {k : Int} {v : Value} {L : List ByteArray} (h : Sit w E sb m w1) (hk1 : -9223372036854775808 ≤ k) (hk2 : k ≤ 9223372036854775807) (hb : Below w1.heap.size w1 W) (hL : Strs W v L) (hn : ∀ g off n c, v = .slice (some ⟨g, off, none⟩) n c → w1.heap.size ≤ g ∨ g < w.heap.size) :
    Calls Tryd.prog 18 #[.pointer (some ⟨sb, 0, none⟩), .int .i64 k, v] W fun e w' => e = .returned (errV E (app m k L).1) ∧ Sit w E sb (app m k L).2 w' := by
  obtain ⟨F, h1, h2, h3, h4⟩ := h
  obtain ⟨ao, cp, rfl, hl, hc⟩ := hL
  have h1' : At W sb m F := h1.kept (fun b hF => hb.block b (h1.lt b hF)) (fun _ x => x) (fun b hF => Nat.lt_of_lt_of_le (h1.lt b hF) hb.size)
  have h2' : Gs W E F := (h2.chg (Chg.of_below hb)).sub h2.hi
  have h4' : Below w.heap.size w W := h4.trans (hb.mono h4.size)
  refine (append_any h1' h2' hk1 hk2 ⟨ao, cp, rfl, hl, fun h0 => ?_⟩).mono ?_
  · obtain ⟨g, off, e, hg, hcc⟩ := hc h0
    refine ⟨g, off, e, hg, fun hF => ?_, hcc⟩
    subst e
    rcases hn g off _ _ rfl with q | q
    · have := h1.lt g hF; omega
    · have := h3 g hF; omega
  · rintro e w' ⟨rfl, h5⟩
    exact ⟨rfl, Sit.res h2' h3 h4' h5⟩
theorem strs_new {W : World} {g : Nat} {L : List ByteArray} (h : W.heap[g]? = some (.cells (L.map Value.string).toArray 9 (0, 0))) (hl : L.length ≤ 9223372036854775807) : Strs W (.slice (some ⟨g, 0, none⟩) L.length L.length) L := by
  refine ⟨_, _, rfl, hl, fun _ => ⟨g, 0, rfl, (Array.getElem?_eq_some_iff.1 h).1, fun j x hx => ?_⟩⟩
  simp [World.cell?, h, hx]
theorem sit_used {w w1 W : World} {E : Nat → Addr} {sb : Nat} {m : Sto} (h : Sit w E sb m w1) (hb : Below w1.heap.size w1 W) : Calls Tryd.prog 14 #[.pointer (some ⟨sb, 0, none⟩)] W fun e w' => e = .returned (.int .i64 (tot m.runs)) ∧ w' = W := by
  obtain ⟨F, h1, _⟩ := h.below hb
  exact used_any h1
theorem eq_err (W : World) (a : Addr) : (binOp .eql 49 (.iface 106 (.pointer (some a))) (.iface 106 (.pointer (some a)))).run Tryd.prog W = .ok (.bool true) W := by
  obtain ⟨i, hi, hc⟩ := Option.map_eq_some_iff.1 (show (Tryd.prog.info? 106).map (·.comparable) = some true by kernel_rfl)
  obtain ⟨j, hj, _⟩ := Option.map_eq_some_iff.1 (show (Tryd.prog.info? 122).map (·.size) = some 1 by kernel_rfl)
  exact run_eql_iface_ptr_same W a Tryd.underlying49 Tryd.underlying106 hi hc hj
theorem Sit.old {w w1 : World} {E : Nat → Addr} {sb : Nat} {m : Sto} (h : Sit w E sb m w1) : Below w.heap.size w w1 := by
  obtain ⟨F, _, _, _, h⟩ := h
  exact h
theorem Sit.full {w w1 : World} {E : Nat → Addr} {sb : Nat} {m : Sto} (h : Sit w E sb m w1) : w1.cell? ⟨0, 0, none⟩ = some (er E 7) ∧ 0 < w1.heap.size := by
  obtain ⟨F, _, h2, _, _⟩ := h
  exact ⟨h2.full, by have := h2.sz; omega⟩
set_option maxRecDepth 100000 in
set_option maxHeartbeats 2000000 in
theorem wakes_any (w : World) {E : Nat → Addr} {F : Nat → Prop} (G : Gs w E F) : Calls Tryd.prog 8 #[] w fun e w' => e = .returned (.bool true) ∧ Below w.heap.size w w' := by
  have HN := hide (sit_new G 5 (by decide) (by decide))
  clear G
  go_enter Tryd.func8, Tryd.ntmps8
  go_wp2_with fail
  refine (unhide HN).mono ?_
  rintro e w1 ⟨rfl, h1⟩
  have HC := hide (sit_create h1)
  clear h1
  rw [wk1] at HC
  go_wp2_with fail
  refine (unhide HC).mono ?_
  rintro e w2 ⟨rfl, h2⟩
  have HB2 := hide h2
  have H2 : Hid (∀ W, Below w2.heap.size w2 W → W.heap[w2.heap.size]? = some (.cells #[.string ⟨#[97, 98]⟩, .string ⟨#[99]⟩] 9 (0, 0)) → Calls Tryd.prog 18 #[.pointer (some ⟨w.heap.size, 0, none⟩), .int .i64 1, .slice (some ⟨w2.heap.size, 0, none⟩) 2 2] W fun e w' => e = .returned .nilIface ∧ Hid (Sit w E w.heap.size m2 w')) := fun W hb hh => by
    have q := sit_append (k := 1) (L := [⟨#[97, 98]⟩, ⟨#[99]⟩]) h2 (by decide) (by decide) hb (strs_new hh (by decide)) (fun g off n c e => by injection e with e; injection e with e; injection e with e _ _; exact .inl (by omega))
    rw [wk2] at q
    exact q
  clear h2
  simp only [errV_zero]
  have tok1 : True := trivial
  have tok2 : True := trivial
  have heq := eq_err
  go_wp2_with fail
  go_region_with (first
    | (go_at_call 18; have _t := tok1; refine (unhide H2 _ (by (repeat (first | exact Below.refl _ _ | refine Below.drew ?_ | refine Below.alloc ?_ (by first | (simp; done) | (simp; omega)) _ | refine Below.setCell ?_ (by first | (simp; done) | (simp; omega)) _))) (by exact (MapKept.heap_alloc _ _).1)).mono ?_; rintro e w3 ⟨rfl, h3⟩; clear tok1; have hg3 := (unhide h3).full.1; have hg4 := (unhide h3).full.2; have HU : Hid (∀ W, Below w3.heap.size w3 W → Calls Tryd.prog 14 #[.pointer (some ⟨w.heap.size, 0, none⟩)] W fun e w' => e = .returned (.int .i64 3) ∧ w' = W) := fun W hb => sit_used (unhide h3) hb; have H4 : Hid (∀ W, Below w3.heap.size w3 W → W.heap[w3.heap.size]? = some (.cells #[.string ⟨#[100, 101, 102]⟩] 9 (0, 0)) → Calls Tryd.prog 18 #[.pointer (some ⟨w.heap.size, 0, none⟩), .int .i64 1, .slice (some ⟨w3.heap.size, 0, none⟩) 1 1] W fun e w' => e = .returned (er E 7) ∧ Hid (Sit w E w.heap.size m2 w')) := (fun W hb hh => by
        have q := sit_append (k := 1) (L := [⟨#[100, 101, 102]⟩]) (unhide h3) (by decide) (by decide) hb (strs_new hh (by decide)) (fun g off n c e => by injection e with e; injection e with e; injection e with e _ _; exact .inl (by omega))
        rw [wk3] at q
        exact q))
    | (go_at_call 14; refine (unhide HU _ (by (repeat (first | exact Below.refl _ _ | refine Below.drew ?_ | refine Below.alloc ?_ (by first | (simp; done) | (simp; omega)) _ | refine Below.setCell ?_ (by first | (simp; done) | (simp; omega)) _)))).mono ?_; rintro e w4 ⟨rfl, rfl⟩)
    | (go_at_call 18; have _t := tok2; refine (unhide H4 _ (by (repeat (first | exact Below.refl _ _ | refine Below.drew ?_ | refine Below.alloc ?_ (by first | (simp; done) | (simp; omega)) _ | refine Below.setCell ?_ (by first | (simp; done) | (simp; omega)) _))) (by exact (MapKept.heap_alloc _ _).1)).mono ?_; rintro e w5 ⟨rfl, h5⟩; clear tok2; have hg5 := (unhide h5).full.1))
  all_goals
    go_wp2
    go_ret
    refine ⟨rfl, ?_⟩
    (repeat (first | exact (unhide h5).old | refine Below.drew ?_))
end Rs
end Go.Proofs.YtdlmpogmoepkjaaDoor
