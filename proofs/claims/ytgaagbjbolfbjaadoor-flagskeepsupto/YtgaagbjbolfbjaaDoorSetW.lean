/- Contracts: the law's twin, and Has, With and Count of a set of flags. -/
import Derived.Test.YtgaagbjbolfbjaaDoorSoO
import Derived.Test.YtgaagbjbolfbjaaDoorShCn
import Derived.Laws.AppendOwn
import Derived.Laws.AppendOwnNone
namespace Go.Proofs.YtgaagbjbolfbjaaDoor
open Go.Sort Go.RowKit
namespace So

theorem nil_owns (W : World) (n : Nat) (e : TypeId) : W.ownsRow n e 1 (.slice none 0 0) 0 [] := ⟨rfl, .inl ⟨rfl, rfl⟩⟩
theorem below_none {W w' : World} (hg : W.grownBy w' none) : Go.RowKit.Below W.heap.size W w' := (Go.RowKit.Below.refl _ W).grown hg (Nat.le_refl _) (fun k e => by cases e)
theorem ones (l : List Int) : ∀ u ∈ l.map encF, u.oneCell' = true := by
  intro u hu
  obtain ⟨x, _, rfl⟩ := List.mem_map.1 hu
  rfl
/-- a list that came in: nil, or an address with what lies there -/
theorem FArg.cases {W : World} {v : Value} {l : List Int} (h : FArg W v l) : (v = .slice none 0 0 ∧ l = []) ∨ ∃ ad c, v = .slice (some ad) l.length c ∧ l.length ≤ c ∧ c ≤ maxLen ∧ ∀ W', Go.RowKit.Below W.heap.size W W' → ∀ j u, (l.map encF)[j]? = some u → W'.cell? (ad.add j) = some u := by
  obtain ⟨ao, cap, rfl, h1, h2, h3, h4⟩ := h
  cases ao with
  | none =>
    have hc := h3 rfl
    have : l = [] := List.eq_nil_of_length_eq_zero (by omega)
    subst this
    left
    exact ⟨by simp [hc], rfl⟩
  | some ad =>
    right
    refine ⟨ad, cap, rfl, h1, h2, fun W' hB j u hu => ?_⟩
    simp only [List.getElem?_map, Option.map_eq_some_iff] at hu
    obtain ⟨x, hx, rfl⟩ := hu
    have hj : j < l.length := (List.getElem?_eq_some_iff.1 hx).1
    obtain ⟨g, off, e, hg, hc⟩ := h4 (by omega)
    cases e
    rw [Go.WideShapes.add_plain]
    exact (hB.cell (p := ⟨g, off + j, none⟩) hg).trans (hc j x hx)

set_option maxRecDepth 100000 in
set_option maxHeartbeats 2000000 in
theorem twin_any (v : Value) (L : List Int) (w : World) (hA : FArg w v L) (hn : L.length ≤ 1099511627776) :
    Calls Tryd.prog 4 #[v] w fun e w' => ∃ u, e = .returned u ∧ FArg w' u L ∧ ((u = .slice none 0 0 ∧ L = []) ∨ FRow w.heap.size w' u L) ∧ Go.RowKit.Below w.heap.size w w' := by
  obtain ⟨i0, hi, hz0, hz1, hz2⟩ := info_parts infoF
  rcases hA.cases with ⟨rfl, rfl⟩ | ⟨ad, c, rfl, hc, hm, hcell⟩
  · go_enter Tryd.func4, Tryd.ntmps4
    go_wp2_with (at_builtin; refine wpList_append_own_none rfl _ _ 22 rfl w.heap.size 25 i0 1 Tryd.underlying22 hi _ _ _ rfl (nil_owns _ _ _) rfl ?_)
    go_ret
    exact ⟨_, rfl, ⟨none, 0, rfl, Nat.le_refl _, Nat.zero_le _, fun _ => rfl, fun h => absurd h (by simp)⟩, .inl (by simp), Go.RowKit.Below.refl _ _⟩
  · have HC := hide (hcell w (Go.RowKit.Below.refl _ _))
    have HO := hide (ones L)
    have HL : Hid ((L.map encF).length = L.length * 1) := by rw [Hid, List.length_map, Nat.mul_one]
    have HF : Hid (∀ W u, W.ownsRow w.heap.size 25 1 u L.length (L.map encF) → FArg W u L ∧ ((u = .slice none 0 0 ∧ L = []) ∨ FRow w.heap.size W u L)) := fun W u h => farg_of_owns h
    clear hcell hA
    generalize L.map encF = news at *
    generalize hnn : L.length = n at *
    go_enter Tryd.func4, Tryd.ntmps4
    go_wp2_with (at_builtin; refine wpList_append_own _ rfl _ _ 22 rfl w.heap.size 25 i0 (.int .u16 0) 1 2 Tryd.underlying22 hi hz0 hz1 hz2 rfl (by decide) _ _ _ rfl (nil_owns _ _ _) ad n c news rfl (unhide HL) (unhide HC) (unhide HO) (by unfold maxLen; omega) (by omega) (Nat.le_refl _) ?_; intro v1 w1 hown1 hgrow1 hnil1; clear hnil1; rw [Nat.zero_add, List.nil_append] at hown1; have HOW := hide hown1; have HGR := hide (below_none hgrow1); clear hown1 hgrow1)
    go_ret
    obtain ⟨f1, f2⟩ := unhide HF _ _ (unhide HOW)
    exact ⟨_, rfl, f1, f2, unhide HGR⟩

theorem getBang (l : List Int) (j : Nat) (h : j < l.length) : l[j]? = some l[j]! := by rw [List.getElem?_eq_getElem h, getElem!_pos l j h]
/-- is it among them? -/
def hasB (l : List Int) (x : Int) : Bool := l.any fun y => decide (x = y)
theorem hasB_iff {l : List Int} {x : Int} : hasB l x = true ↔ x ∈ l := by
  unfold hasB
  simp [List.any_eq_true]
set_option maxHeartbeats 2000000 in
theorem has_any (v : Value) (l : List Int) (x : Int) (w : World) (hA : FArg w v l) :
    Calls Tryd.prog 16 #[v, .int .u16 x] w fun e w' => e = .returned (.bool (hasB l x)) ∧ w' = w := by
  have hC : Calls Tryd.prog 21 #[v, .int .u16 x] w fun e w' => e = .returned (.bool (hasB l x)) ∧ w' = w := by
    obtain ⟨ao, cap, rfl, h1, h2, h3, h4⟩ := hA
    by_cases h0 : 0 < l.length
    · obtain ⟨g, off, rfl, _, hc⟩ := h4 h0
      have h := Tryd.flag_Contains g off l.length cap l x w (Nat.le_refl _) (by unfold maxLen at h2; omega) (fun j hj => hc j _ (getBang l j hj))
      rw [List.take_length] at h
      exact h
    · have : l = [] := List.eq_nil_of_length_eq_zero (by omega)
      subst this
      exact Tryd.flag_Contains_empty ao cap (.int .u16 x) w
  have HC := hide hC
  clear hC hA
  generalize hasB l x = b at *
  go_enter Tryd.func16, Tryd.ntmps16
  go_wp2_with (go_at_call 21; refine (unhide HC).mono ?_; rintro e w1 ⟨rfl, hw1⟩; obtain rfl := hw1.symm)
  go_ret
  exact ⟨rfl, rfl⟩
theorem wpList_append_run {P : Program} {w : World} {ops : Array Oper} {rest : List Oper} {o : Oper} {a : Act} {Q : Exit → Act → World → Prop} (hgd : o.guard = none) (s x : Operand) (t t' : TypeId)
    (ho : o.op = .call { callee := .builtin .append, args := #[s, x], argTypes := #[t, t'] }) (v f : Value) (hs : a.eval s = v) (hx : a.eval x = f) (v2 : Value) (w2 : World) (hrun : (Builtin.append_ #[t, t'] o.type #[v, f]).run P w = .ok v2 w2)
    (h : wpList P ops Q rest (a.put o.dst v2) w2) : wpList P ops Q (o :: rest) a w := by
  refine wpList_plain hgd fun K hK => ?_
  unfold Oper.wp
  simp [execOp, ho, resolve, invoke, builtin, hs, hx, hrun, Result.andThen]
  exact hK _ _ h
/-- whichever of the two slice types the second operand bears -/
theorem append_types (t t' ty e e' : TypeId) (ht : Tryd.prog.underlying t = some (.slice e)) (ht' : Tryd.prog.underlying t' = some (.slice e')) (b : Option Addr) (n c : Nat) (x : Value) (W : World) : (Builtin.append_ #[t, t'] ty #[.slice b n c, x]).run Tryd.prog W = (Builtin.append_ #[t, t] ty #[.slice b n c, x]).run Tryd.prog W := by
  simp [Builtin.append_, run_underlying ht, run_underlying ht']
/-- flags put behind a row: what the builtin leaves -/
theorem append_run (t t' ty : TypeId) (ht : Tryd.prog.underlying t = some (.slice 25)) (ht' : Tryd.prog.underlying t' = some (.slice 25)) (v f : Value) (S F : List Int) (n₀ : Nat) (W : World) (hS : FRow n₀ W v S) (hF : FArg W f F) (hn : S.length + F.length ≤ 1099511627776) (hb : n₀ ≤ W.heap.size) :
    ∃ u W2, (Builtin.append_ #[t, t'] ty #[v, f]).run Tryd.prog W = .ok u W2 ∧ FArg W2 u (S ++ F) ∧ Go.RowKit.Below n₀ W W2 := by
  obtain ⟨i0, hi, hz0, hz1, hz2⟩ := info_parts infoF
  obtain ⟨g0, c0, ev, _⟩ := hS.cells
  have HT : ∀ x, (Builtin.append_ #[t, t'] ty #[v, x]).run Tryd.prog W = (Builtin.append_ #[t, t] ty #[v, x]).run Tryd.prog W := fun x => by rw [ev]; exact append_types t t' ty _ _ ht ht' _ _ _ x W
  rw [HT]
  rcases hF.cases with ⟨rfl, rfl⟩ | ⟨ad, c, rfl, hc, hm, hcell⟩
  · refine ⟨v, W, ?_, by rw [List.append_nil]; exact hS.arg, Go.RowKit.Below.refl _ _⟩
    exact run_append_owned_none (P := Tryd.prog) (w := W) n₀ t ty 25 i0 1 ht hi v S.length (S.map encF) hS.owns
  · obtain ⟨v2, w2, hrun, hown, hgrow, _⟩ := run_append_own (P := Tryd.prog) W n₀ t ty 25 i0 (.int .u16 0) 1 2 ht hi hz0 hz1 hz2 rfl (by decide) v S.length (S.map encF) hS.owns ad F.length c (F.map encF) (by simp) (hcell W (Go.RowKit.Below.refl _ _)) (ones F) (by unfold maxLen; omega) (by omega) hb
    exact ⟨v2, w2, hrun, (farg_of_owns (by simpa using hown)).1, (Go.RowKit.Below.refl _ W).grown hgrow hb (fun k e => (hS.owns.lt k e).1)⟩

set_option maxRecDepth 100000 in
set_option maxHeartbeats 2000000 in
theorem with_any (v f : Value) (S F : List Int) (w : World) (hA : FArg w v S) (hF : FArg w f F) (hn : S.length + F.length ≤ 1099511627776) :
    Calls Tryd.prog 5 #[v, f] w fun e w' => ∃ u, e = .returned u ∧ FRow w.heap.size w' u (setOf (S ++ F)) ∧ Go.RowKit.Below w.heap.size w w' := by
  have HO := hide (own_any v S w hA (by omega))
  have HOF : Hid (∀ W u, Go.RowKit.Below w.heap.size w W → FArg W u (S ++ F) → Calls Tryd.prog 7 #[u] W fun e w' => ∃ u, e = .returned u ∧ FRow w.heap.size w' u (setOf (S ++ F)) ∧ Go.RowKit.Below w.heap.size w w') := fun W u hB hA => by
    refine (of_set u (S ++ F) W hA (by simp; omega)).mono ?_
    rintro e w' ⟨u, rfl, h2, h3⟩
    exact ⟨u, rfl, h2.low hB.size, hB.trans (h3.mono hB.size)⟩
  have HAP : Hid (∀ W u, FRow w.heap.size W u S → Go.RowKit.Below w.heap.size w W → ∃ u2 W2, (Builtin.append_ #[26, 22] 26 #[u, f]).run Tryd.prog W = .ok u2 W2 ∧ FArg W2 u2 (S ++ F) ∧ Go.RowKit.Below w.heap.size w W2) := fun W u hS hB => by
    obtain ⟨u2, W2, h1, h2, h3⟩ := append_run 26 22 26 Tryd.underlying26 Tryd.underlying22 u f S F w.heap.size W hS (hF.below hB) hn hB.size
    exact ⟨u2, W2, h1, h2, hB.trans h3⟩
  clear hA hF hn
  go_enter Tryd.func5, Tryd.ntmps5
  go_wp2_with (first
    | (go_at_call 14; refine (unhide HO).mono ?_; rintro e w1 ⟨u, rfl, hF, hB⟩; obtain ⟨u2, w2, hrun, h2, hB2⟩ := unhide HAP _ _ hF hB; have HRUN := hide hrun; have HX := hide (unhide HOF _ _ hB2 h2); clear hF hB h2 hB2 hrun)
    | (at_builtin; refine wpList_append_run rfl _ _ 26 22 rfl _ _ rfl rfl u2 w2 (unhide HRUN) ?_)
    | (go_at_call 7; refine (unhide HX).mono ?_; rintro e w3 ⟨u3, rfl, h3⟩; have H3 := hide h3; clear h3))
  go_ret
  exact ⟨u3, rfl, unhide H3⟩
end So
end Go.Proofs.YtgaagbjbolfbjaaDoor
