/- Layer 15: rules put behind rules; RulesChain and RulesPeel. -/
import Derived.Test.YtjcchogilbekoaaTe7
namespace Go.Proofs.Ytjcchogilbekoaa
open Go.RowKit Go.Shelf
namespace Rv

def ccs : List RuB → List Value
  | [] => []
  | x :: t => x.cs ++ ccs t
theorem ccs_len : ∀ L : List RuB, (ccs L).length = L.length * 7
  | [] => rfl
  | x :: t => by rw [ccs, List.length_append, ccs_len t, List.length_cons]; show 7 + _ = _; omega
theorem ccs_append : ∀ (A B : List RuB), ccs A ++ ccs B = ccs (A ++ B)
  | [], B => by simp [ccs]
  | y :: t, B => by rw [ccs, List.append_assoc, ccs_append t B]; rfl
theorem ccs_get : ∀ (L : List RuB) (j : Nat) (x : RuB) (i : Nat), L[j]? = some x → i < 7 → (ccs L)[j * 7 + i]? = x.cs[i]?
  | [], _, _, _, h, _ => by simp at h
  | y :: t, 0, x, i, h, hi => by
    obtain rfl : y = x := by simpa using h
    rw [ccs, Nat.zero_mul, Nat.zero_add, List.getElem?_append_left (by show i < 7; exact hi)]
  | y :: t, j + 1, x, i, h, hi => by
    have h : t[j]? = some x := by simpa using h
    rw [ccs, List.getElem?_append_right (by show 7 ≤ _; omega), show (j + 1) * 7 + i - y.cs.length = j * 7 + i by show (j + 1) * 7 + i - 7 = _; omega, ccs_get t j x i h hi]
theorem ccs_at : ∀ (L : List RuB) (q : Nat) (u : Value), (ccs L)[q]? = some u → ∃ x i, L[q / 7]? = some x ∧ i = q % 7 ∧ x.cs[i]? = some u := fun L q u h => by
  have hq : q < L.length * 7 := by rw [← ccs_len]; exact (List.getElem?_eq_some_iff.1 h).1
  obtain ⟨x, hx⟩ : ∃ x, L[q / 7]? = some x := ⟨_, List.getElem?_eq_getElem (by omega)⟩
  refine ⟨x, q % 7, hx, rfl, ?_⟩
  rw [← ccs_get L (q / 7) x (q % 7) hx (by omega), show q / 7 * 7 + q % 7 = q by omega]
  exact h
theorem ccs_one : ∀ (L : List RuB), ∀ u ∈ ccs L, u.oneCell' = true
  | [], u, h => by cases h
  | x :: t, u, h => by
    rcases List.mem_append.1 h with h | h
    · simp [RuB.cs] at h
      rcases h with rfl | rfl | rfl | rfl | rfl | rfl | rfl <;> rfl
    · exact ccs_one t u h
theorem cs_lt {x : RuB} {i : Nat} {u : Value} (h : x.cs[i]? = some u) : i < 7 := (List.getElem?_eq_some_iff.1 h).1
theorem rat_of {n : Nat} {w : World} {v : Value} {L : List RuB} (h : w.ownsRow n 26 7 v L.length (ccs L)) : RulesAt w v L w.heap.size := by
  rcases h.2 with ⟨e1, e2⟩ | ⟨g, c, cur, e1, h1, hg, r⟩
  · exact ⟨none, 0, by rw [e1, e2], fun h0 => by omega⟩
  · refine ⟨_, c, e1, fun _ => ⟨g, 0, rfl, (Array.getElem?_eq_some_iff.1 hg).1, fun j x hj i u hu => ?_⟩⟩
    have := h.cells (g := g) (by rw [e1]; rfl) (j * 7 + i) u (by rw [ccs_get L j x i hj (cs_lt hu)]; exact hu)
    rw [Go.WideShapes.add_plain, Nat.zero_add] at this
    rw [Nat.zero_add]; exact this
theorem infoAR : (Try.prog.info? 26).map (fun i => (i.zero, i.size, i.bytes)) = some (some (.agg #[.int .i64 0, .int .u16 0, .bool false, .string ByteArray.empty, .string ByteArray.empty, .string ByteArray.empty, .slice none 0 0]), 7, 88) := by kernel_rfl
theorem wpList_append_run {P : Program} {w : World} {ops : Array Oper} {rest : List Oper} {o : Oper} {a : Act} {Q : Exit → Act → World → Prop} (hgd : o.guard = none) (s x : Operand) (t t' : TypeId)
    (ho : o.op = .call { callee := .builtin .append, args := #[s, x], argTypes := #[t, t'] }) (v f : Value) (hs : a.eval s = v) (hx : a.eval x = f) (v2 : Value) (w2 : World) (hrun : (Builtin.append_ #[t, t'] o.type #[v, f]).run P w = .ok v2 w2)
    (h : wpList P ops Q rest (a.put o.dst v2) w2) : wpList P ops Q (o :: rest) a w := by
  refine wpList_plain hgd fun K hK => ?_
  unfold Oper.wp
  simp [execOp, ho, resolve, invoke, builtin, hs, hx, hrun, Result.andThen]
  exact hK _ _ h
/-- rules put behind a row of one's own -/
theorem rules_append {W : World} {n : Nat} {u v : Value} {A L : List RuB} (ho : W.ownsRow n 26 7 u A.length (ccs A)) (hv : RulesAt W v L W.heap.size) (hz : A.length + L.length ≤ 1048576) (hb : n ≤ W.heap.size) :
    ∃ u2 W2, (Builtin.append_ #[36, 36] 36 #[u, v]).run Try.prog W = .ok u2 W2 ∧ W2.ownsRow n 26 7 u2 (A ++ L).length (ccs (A ++ L)) ∧ Below n W W2 := by
  obtain ⟨i0, hi, hz0, hz1, hz2⟩ := info_parts infoAR
  obtain ⟨ao, c, rfl, hat⟩ := hv
  by_cases h0 : 0 < L.length
  · obtain ⟨g, off, rfl, hg, hcell⟩ := hat h0
    obtain ⟨v2, w2, hrun, hown, hgrow, _⟩ := run_append_own (P := Try.prog) W n 36 36 26 i0 (.agg #[.int .i64 0, .int .u16 0, .bool false, .string ByteArray.empty, .string ByteArray.empty, .string ByteArray.empty, .slice none 0 0]) 7 88 Try.underlying36 hi hz0 hz1 hz2 rfl (by decide) u A.length (ccs A) ho ⟨g, off, none⟩ L.length c (ccs L) (ccs_len L) (fun q y hq => by
      obtain ⟨x, i, hx, rfl, hy⟩ := ccs_at L q y hq
      rw [Go.WideShapes.add_plain, show off + q = off + q / 7 * 7 + q % 7 by omega]
      exact hcell _ x hx _ y hy) (ccs_one L) (by unfold maxLen; omega) (by omega) hb
    exact ⟨v2, w2, hrun, by rw [List.length_append, ← ccs_append]; exact hown, (Below.refl _ W).grown hgrow hb (fun k e => (ho.lt k e).1)⟩
  · obtain rfl : L = [] := List.eq_nil_of_length_eq_zero (by omega)
    rw [List.append_nil]
    refine ⟨u, W, ?_, ho, Below.refl _ _⟩
    rw [show ([] : List RuB).length = 0 from rfl]
    rcases ho.2 with ⟨rfl, e0⟩ | ⟨g, cap, cur, rfl, _, _, hnc, _⟩
    · cases ao with
      | none => simp [Builtin.append_, run_underlying Try.underlying36, sizeOf, typeInfo, hi, Builtin.lenOf, Builtin.firstCells]
      | some a => simp [Builtin.append_, run_underlying Try.underlying36, sizeOf, typeInfo, hi, Builtin.lenOf, run_firstCells_some W i0.size 0 a 0 c [] (by simp) (fun j u h => by simp at h)]
    · cases ao with
      | none => simp [Builtin.append_, run_underlying Try.underlying36, sizeOf, typeInfo, hi, Builtin.lenOf, Builtin.firstCells, hnc, storeCells]
      | some a => simp [Builtin.append_, run_underlying Try.underlying36, sizeOf, typeInfo, hi, Builtin.lenOf, run_firstCells_some W i0.size 0 a 0 c [] (by simp) (fun j u h => by simp at h), hnc, storeCells]
set_option maxRecDepth 100000 in
set_option maxHeartbeats 4000000 in
theorem chain_law {v : Value} {L : List RuB} (s : ByteArray) (w : World) (h : RulesAt w v L w.heap.size) (hz : L.length ≤ 1048576) (hs : s.size + tw L ≤ 1048576) :
    Calls Try.prog 5 #[.string s, v] w fun e w' => e = .returned (.bool true) ∧ Below w.heap.size w w' := by
  obtain ⟨u, W2, hrun, hown, hb0⟩ := rules_append (W := w) (n := w.heap.size) (A := []) (World.ownsRow_nil _ _ _ _) h (by simp; omega) (Nat.le_refl _)
  rw [List.nil_append] at hown
  have HRUN := hide hrun
  have HB0 := hide hb0
  have HC := hide (chain_any s W2 (rat_of hown) (by omega) (by omega))
  have HRS : Hid (∀ W, Below w.heap.size w W → Calls Try.prog 18 #[v] W fun e w' => ∃ u, e = .returned u ∧ DAt w' u L ∧ Below W.heap.size W w') := hide (fun W hB => (refs_any W ((h.below hB).mono hB.size) hz).mono (by
    rintro e w' ⟨u, rfl, ho, hb⟩
    exact ⟨u, rfl, dat_of ho, hb⟩))
  have HD := hide (fun W u (hd : DAt W u L) => dchain_any s W hd hz (by omega))
  obtain ⟨ao, c, rfl, _⟩ := h
  clear hrun hb0 hown hs hz
  generalize Ta.chain s.data.toList (L.map RuB.r) = R at *
  cases R with
  | none =>
    simp only [Pt.ansV] at HC HD
    go_enter Try.func5, Try.ntmps5
    go_wp2_with (first
      | (at_builtin; refine wpList_append_run rfl _ _ 36 36 rfl _ _ rfl rfl u W2 (unhide HRUN) ?_)
      | (go_at_call 16; refine (unhide HC).mono ?_; rintro e w1 ⟨rfl, hb1⟩; have HB1 := hide ((unhide HB0).trans (hb1.mono (unhide HB0).size)); clear hb1)
      | (go_at_call 18; refine (unhide HRS _ (unhide HB1)).mono ?_; rintro e w2 ⟨u2, rfl, hd2, hb2⟩; have HD2 := hide hd2; have HB2 := hide ((unhide HB1).trans (hb2.mono (unhide HB1).size)); clear hd2 hb2)
      | (go_at_call 17; refine (unhide HD _ _ (unhide HD2)).mono ?_; rintro e w3 ⟨rfl, hb3⟩; have HB3 := hide ((unhide HB2).trans (hb3.mono (unhide HB2).size)); clear hb3)
      | (go_at_call 12; refine (Pt.wakes15_any _).mono ?_; rintro e w4 ⟨rfl, hb4⟩; have HB4 := hide ((unhide HB3).trans (hb4.mono (unhide HB3).size)); clear hb4))
    go_ret
    exact ⟨by simp, unhide HB4⟩
  | some y =>
    simp only [Pt.ansV] at HC HD
    go_enter Try.func5, Try.ntmps5
    go_wp2_with (first
      | (at_builtin; refine wpList_append_run rfl _ _ 36 36 rfl _ _ rfl rfl u W2 (unhide HRUN) ?_)
      | (go_at_call 16; refine (unhide HC).mono ?_; rintro e w1 ⟨rfl, hb1⟩; have HB1 := hide ((unhide HB0).trans (hb1.mono (unhide HB0).size)); clear hb1)
      | (go_at_call 18; refine (unhide HRS _ (unhide HB1)).mono ?_; rintro e w2 ⟨u2, rfl, hd2, hb2⟩; have HD2 := hide hd2; have HB2 := hide ((unhide HB1).trans (hb2.mono (unhide HB1).size)); clear hd2 hb2)
      | (go_at_call 17; refine (unhide HD _ _ (unhide HD2)).mono ?_; rintro e w3 ⟨rfl, hb3⟩; have HB3 := hide ((unhide HB2).trans (hb3.mono (unhide HB2).size)); clear hb3)
      | (go_at_call 12; refine (Pt.wakes15_any _).mono ?_; rintro e w4 ⟨rfl, hb4⟩; have HB4 := hide ((unhide HB3).trans (hb4.mono (unhide HB3).size)); clear hb4))
    go_ret
    exact ⟨by simp, unhide HB4⟩
set_option maxRecDepth 100000 in
set_option maxHeartbeats 4000000 in
theorem peel_law {v : Value} {L : List RuB} (s : ByteArray) (w : World) (h : RulesAt w v L w.heap.size) (hz : L.length ≤ 1048576) (hs : s.size + tw L ≤ 1048576) :
    Calls Try.prog 6 #[.string s, v] w fun e w' => e = .returned (.bool true) ∧ Below w.heap.size w w' := by
  obtain ⟨u, W2, hrun, hown, hb0⟩ := rules_append (W := w) (n := w.heap.size) (A := []) (World.ownsRow_nil _ _ _ _) h (by simp; omega) (Nat.le_refl _)
  rw [List.nil_append] at hown
  have HRUN := hide hrun
  have HB0 := hide hb0
  have HC := hide (peel_any s W2 (rat_of hown) (by omega) (by omega))
  have HRS : Hid (∀ W, Below w.heap.size w W → Calls Try.prog 18 #[v] W fun e w' => ∃ u, e = .returned u ∧ DAt w' u L ∧ Below W.heap.size W w') := hide (fun W hB => (refs_any W ((h.below hB).mono hB.size) hz).mono (by
    rintro e w' ⟨u, rfl, ho, hb⟩
    exact ⟨u, rfl, dat_of ho, hb⟩))
  have HD := hide (fun W u (hd : DAt W u L) => dpeel_any s W hd hz (by omega))
  obtain ⟨ao, c, rfl, _⟩ := h
  clear hrun hb0 hown hs hz
  generalize Ta.peel s.data.toList (L.map RuB.r) = R at *
  cases R with
  | none =>
    simp only [Pt.ansV] at HC HD
    go_enter Try.func6, Try.ntmps6
    go_wp2_with (first
      | (at_builtin; refine wpList_append_run rfl _ _ 36 36 rfl _ _ rfl rfl u W2 (unhide HRUN) ?_)
      | (go_at_call 19; refine (unhide HC).mono ?_; rintro e w1 ⟨rfl, hb1⟩; have HB1 := hide ((unhide HB0).trans (hb1.mono (unhide HB0).size)); clear hb1)
      | (go_at_call 18; refine (unhide HRS _ (unhide HB1)).mono ?_; rintro e w2 ⟨u2, rfl, hd2, hb2⟩; have HD2 := hide hd2; have HB2 := hide ((unhide HB1).trans (hb2.mono (unhide HB1).size)); clear hd2 hb2)
      | (go_at_call 20; refine (unhide HD _ _ (unhide HD2)).mono ?_; rintro e w3 ⟨rfl, hb3⟩; have HB3 := hide ((unhide HB2).trans (hb3.mono (unhide HB2).size)); clear hb3)
      | (go_at_call 12; refine (Pt.wakes15_any _).mono ?_; rintro e w4 ⟨rfl, hb4⟩; have HB4 := hide ((unhide HB3).trans (hb4.mono (unhide HB3).size)); clear hb4))
    go_ret
    exact ⟨by simp, unhide HB4⟩
  | some y =>
    simp only [Pt.ansV] at HC HD
    go_enter Try.func6, Try.ntmps6
    go_wp2_with (first
      | (at_builtin; refine wpList_append_run rfl _ _ 36 36 rfl _ _ rfl rfl u W2 (unhide HRUN) ?_)
      | (go_at_call 19; refine (unhide HC).mono ?_; rintro e w1 ⟨rfl, hb1⟩; have HB1 := hide ((unhide HB0).trans (hb1.mono (unhide HB0).size)); clear hb1)
      | (go_at_call 18; refine (unhide HRS _ (unhide HB1)).mono ?_; rintro e w2 ⟨u2, rfl, hd2, hb2⟩; have HD2 := hide hd2; have HB2 := hide ((unhide HB1).trans (hb2.mono (unhide HB1).size)); clear hd2 hb2)
      | (go_at_call 20; refine (unhide HD _ _ (unhide HD2)).mono ?_; rintro e w3 ⟨rfl, hb3⟩; have HB3 := hide ((unhide HB2).trans (hb3.mono (unhide HB2).size)); clear hb3)
      | (go_at_call 12; refine (Pt.wakes15_any _).mono ?_; rintro e w4 ⟨rfl, hb4⟩; have HB4 := hide ((unhide HB3).trans (hb4.mono (unhide HB3).size)); clear hb4))
    go_ret
    exact ⟨by simp, unhide HB4⟩
end Rv
end Go.Proofs.Ytjcchogilbekoaa
