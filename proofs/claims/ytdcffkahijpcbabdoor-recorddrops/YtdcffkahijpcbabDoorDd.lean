/- Layer 5: the document's Break, Seal, Live. -/
import Derived.Test.YtdcffkahijpcbabDoorDc
namespace Go.Proofs.YtdcffkahijpcbabDoor
open Go.RowKit
namespace Rs
theorem break_doc {w : World} {sb : Nat} {m : Sto} {F : Nat → Prop} {rv : Value} {sl : Nat → Value} (h : DIn w sb m F rv sl) (n : Int) (hn : n ≤ 9223372036854775807) :
    Calls Tryd.prog 20 #[.pointer (some ⟨sb, 0, none⟩), .int .i64 n] w fun e w' => e = .returned (.tuple #[]) ∧ DIn w' sb (m.brk n) F rv sl ∧ Chg F w w' ∧ w'.heap.size = w.heap.size := by
  obtain ⟨c0, c1, c2, c3, c4, fz⟩ := dcells h.sto
  have HA : Hid (∀ x : Int, x = max n 0 → DIn (w.setCell ⟨sb, 3, none⟩ (.int .i64 x)) sb (m.brk n) F rv sl ∧ Chg F w (w.setCell ⟨sb, 3, none⟩ (.int .i64 x)) ∧ (w.setCell ⟨sb, 3, none⟩ (.int .i64 x)).heap.size = w.heap.size) := fun x hx => by
    refine ⟨h.set (m' := m.brk n) 3 _ rfl (brk_ok h.ok hn) ?_, (Chg.refl F w).setCell (.inl h.own) _, by simp⟩
    have e : ((n.toNat : Nat) : Int) = x := by omega
    simp [stoD, Sto.brk, e]
  clear h hn
  by_cases hl : n < 0
  · go_enter Tryd.func20, Tryd.ntmps20
    go_wp2
    go_end0
    exact ⟨rfl, unhide HA 0 (by omega)⟩
  · go_enter Tryd.func20, Tryd.ntmps20
    go_wp2
    go_end0
    exact ⟨rfl, unhide HA n (by omega)⟩
theorem repl_set {l : List Run} (hs : l.Pairwise fun a b => a.num < b.num) {i : Nat} {r r' : Run} (hi : l[i]? = some r) (hn : r'.num = r.num) : repl l r' = l.set i r' := by
  apply List.ext_getElem?
  intro j
  rw [List.getElem?_set]
  unfold repl
  rw [List.getElem?_map]
  by_cases e : i = j
  · subst e
    rw [if_pos rfl, if_pos (List.getElem?_eq_some_iff.1 hi).1, hi, Option.map_some, if_pos hn.symm]
  · rw [if_neg e]
    rcases hj : l[j]? with _ | x
    · rfl
    · rw [Option.map_some, if_neg]
      intro ex
      rcases Nat.lt_or_gt_of_ne e with a | a
      · have := sorted_get hs hi hj a; omega
      · have := sorted_get hs hj hi a; omega
theorem rowD_shut {sl : Nat → Value} {l : List Run} {i : Nat} {r : Run} {b : Bool} (h : l[i]? = some r) : (rowD sl l).set (i * 3 + 2) (.bool b) = rowD sl (l.set i { r with shut := b }) := by
  induction l generalizing i with
  | nil => simp at h
  | cons x t ih =>
    rcases i with _ | i
    · have : x = r := by simpa using h
      subst this
      rfl
    · have := ih (i := i) (by simpa using h)
      rw [show (i + 1) * 3 + 2 = i * 3 + 2 + 1 + 1 + 1 by omega, rowD_cons]
      simp [rowD_cons, this]
theorem kind_ne {w : World} {sb : Nat} {C : Array Value} {t : TypeId} {z : Nat × Nat} (hs : w.heap[sb]? = some (.cells C t z)) {e : TypeId} {size n : Nat} {u : Value} {xs : List Value} (he : e ≠ t) (ho : w.ownsRow 0 e size u n xs) : ∀ g, u.ownBlock = some g → g ≠ sb := fun g hg eq => by
  rcases ho.2 with ⟨e1, _⟩ | ⟨g', cap, cur, e1, _, hx, _⟩
  · rw [e1] at hg; cases hg
  · rw [e1] at hg
    have hg' : g' = g := by injection hg
    rw [hg', eq, hs] at hx
    injection hx with hx
    injection hx with _ hx _
    exact he hx.symm
theorem DIn.setRow {w : World} {sb g n c : Nat} {m m' : Sto} {F : Nat → Prop} {sl : Nat → Value} (h : DIn w sb m F (.slice (some ⟨g, 0, none⟩) n c) sl) (hn : n = m.runs.length) (j : Nat) (u : Value) (ok : m'.Ok) (hst : ∀ rv, stoD m' rv = stoD m rv) (hlen : m'.runs.length = m.runs.length) (hrow : (rowD sl m.runs).set j u = rowD sl m'.runs) (ht : ∀ r ∈ m'.runs, ∃ r0 ∈ m.runs, r.num = r0.num ∧ r.txt = r0.txt) : DIn (w.setCell ⟨g, j, none⟩ u) sb m' F (.slice (some ⟨g, 0, none⟩) n c) sl := by
  subst hn
  obtain ⟨cur, hcur⟩ : ∃ cur, w.heap[g]? = some (.cells cur 131 (0, 0)) := by
    rcases id h.row.2 with ⟨e, _⟩ | ⟨g', cap, cur, e, _, hx, _⟩
    · cases e
    · injection e with e _ _
      injection e with e
      injection e with e _ _
      exact ⟨cur, by rw [e]; exact hx⟩
  have hsb : sb ≠ g := fun e => by
    have := h.sto
    rw [e, hcur] at this
    injection this with this
    injection this with _ this _
    exact absurd this (by decide)
  refine ⟨ok, fun b hb => by simpa using h.lt b hb, h.own, by rw [Below.heap_setCell _ _ _ _ hsb, hst]; exact h.sto, by rw [hlen, ← hrow]; exact (h.row.stored j u).1, h.rowF, fun r hr => ?_, fun r hr => ?_, fun r hr r' hr' => ?_⟩
  · obtain ⟨r0, h0, e1, e2⟩ := ht r hr
    rw [e1, e2]
    exact own_kept (h.txt r0 h0) fun g' hg' => Below.heap_setCell _ _ _ _ (kind_ne hcur (by decide) (h.txt r0 h0) g' hg')
  · obtain ⟨r0, h0, e1, _⟩ := ht r hr
    rw [e1]
    exact h.txF r0 h0
  · obtain ⟨r0, h0, e1, _⟩ := ht r hr
    obtain ⟨r1, h1, e2, _⟩ := ht r' hr'
    rw [e1, e2]
    exact h.apart r0 h0 r1 h1
set_option maxRecDepth 100000 in
theorem seal_doc {w : World} {sb : Nat} {m : Sto} {F : Nat → Prop} {rv : Value} {sl : Nat → Value} (h : DIn w sb m F rv sl) (k : Int) :
    Calls Tryd.prog 54 #[.pointer (some ⟨sb, 0, none⟩), .int .i64 k] w fun e w' => e = .returned (.int .i64 (sel m k).1) ∧ DIn w' sb (sel m k).2 F rv sl ∧ Chg F w w' ∧ w'.heap.size = w.heap.size := by
  have HR := hide (refused_any h)
  by_cases ha : m.ahead = 1
  · have e : sel m k = (9, m.tick) := by unfold sel; rw [if_pos ha]
    rw [e]
    rw [show decide (m.ahead = 1) = true by simp [ha]] at HR
    clear h e
    go_enter Tryd.func54, Tryd.ntmps54
    go_wp2_with (go_at_call 65; refine (unhide HR).mono ?_; rintro e w1 ⟨rfl, hd1⟩; have HD := hide hd1; clear hd1)
    go_ret
    exact ⟨rfl, unhide HD⟩
  · rw [show decide (m.ahead = 1) = false by simp [ha]] at HR
    rcases hl : look m.runs k with _ | r
    · have e : sel m k = (3, m.tick) := by unfold sel; rw [if_neg ha, hl]
      rw [e]
      have HL := hide hl
      clear h e hl
      go_enter Tryd.func54, Tryd.ntmps54
      go_wp2_with (first | (go_at_call 65; refine (unhide HR).mono ?_; rintro e w1 ⟨rfl, hd1⟩; have HD := hide hd1; clear hd1) | (go_at_call 69; refine (fit_none (unhide HD).1 (unhide HL)).mono ?_; rintro e w2 ⟨rfl, rfl⟩))
      go_ret
      exact ⟨rfl, unhide HD⟩
    · obtain ⟨i, hi, hn, hil⟩ := look_at_i hl
      have HI := hide hi
      cases hs : r.shut
      · have e : sel m k = (0, { m.tick with runs := repl m.runs { r with shut := true } }) := by unfold sel; rw [if_neg ha, hl]; simp [hs]
        rw [e]
        obtain ⟨ao, cc, rfl, hat⟩ := h.at
        obtain ⟨g, rfl, hg, hF, -⟩ := hat (by omega)
        have HST : Hid (∀ w1, DIn w1 sb m.tick F (.slice (some ⟨g, 0, none⟩) m.runs.length cc) sl → Chg F w w1 → w1.heap.size = w.heap.size → w1.cell? ⟨sb, 4, none⟩ = some (.slice (some ⟨g, 0, none⟩) m.runs.length cc) ∧ w1.cell? ⟨g, i * 3 + 2, none⟩ = some (.bool false) ∧ w1.frozen? ⟨g, i * 3 + 2, none⟩ = false ∧ DIn (w1.setCell ⟨g, i * 3 + 2, none⟩ (.bool true)) sb { m.tick with runs := repl m.runs { r with shut := true } } F (.slice (some ⟨g, 0, none⟩) m.runs.length cc) sl ∧ Chg F w (w1.setCell ⟨g, i * 3 + 2, none⟩ (.bool true)) ∧ (w1.setCell ⟨g, i * 3 + 2, none⟩ (.bool true)).heap.size = w.heap.size) := fun w1 d1 hc1 hz1 => by
          have hsr := d1.ok.sorted
          have e2 : repl m.runs { r with shut := true } = m.runs.set i { r with shut := true } := repl_set hsr (unhide HI) rfl
          refine ⟨(dcells d1.sto).2.2.2.2.1, ?_, d1.row.frozenAt _, d1.setRow rfl (i * 3 + 2) _ ?_ (fun _ => rfl) ?_ ?_ ?_, hc1.setCell (.inl hF) _, by simpa using hz1⟩
          · have := d1.row.cellAt (i * 3 + 2) (by show i * 3 + 2 < m.runs.length * 3; omega)
            rw [this, ← hs]
            exact (rowD_get (sl := sl) (unhide HI)).2.2
          · exact repl_ok (m := m.tick) d1.ok (List.mem_of_getElem? (unhide HI)) rfl rfl
          · show (repl m.runs _).length = m.runs.length
            rw [e2]; simp
          · show (rowD sl m.runs).set (i * 3 + 2) _ = rowD sl (repl m.runs _)
            rw [rowD_shut (unhide HI), e2]
          · intro x hx
            rcases repl_mem hx with ⟨rfl, _⟩ | ⟨hx, _⟩
            · exact ⟨r, List.mem_of_getElem? (unhide HI), rfl, rfl⟩
            · exact ⟨x, hx, rfl, rfl⟩
        have hiz : (i : Int) < (m.runs.length : Int) := by omega
        have hi0 : 0 ≤ (i : Int) := by omega
        have HN := hide hn
        have HSH := hide hs
        clear h e hl hat hi hs
        subst hn
        go_enter Tryd.func54, Tryd.ntmps54
        go_wp2_with (first | (go_at_call 65; refine (unhide HR).mono ?_; rintro e w1 ⟨rfl, hd1⟩; have HD := hide hd1; obtain ⟨x4, xb, xf, hfin⟩ := unhide HST w1 hd1.1 hd1.2.1 hd1.2.2; have HFI := hide hfin; clear hd1 hfin) | (go_at_call 69; have q := fit_some (unhide HD).1 (unhide HI); rw [unhide HSH] at q; simp only [Bool.false_eq_true, if_false] at q; refine q.mono ?_; clear q; rintro e w2 ⟨rfl, rfl⟩))
        go_ret
        exact ⟨rfl, unhide HFI⟩
      · have e : sel m k = (4, m.tick) := by unfold sel; rw [if_neg ha, hl]; simp [hs]
        rw [e]
        have HSH := hide hs
        clear h e hl hi hs
        subst hn
        go_enter Tryd.func54, Tryd.ntmps54
        go_wp2_with (first | (go_at_call 65; refine (unhide HR).mono ?_; rintro e w1 ⟨rfl, hd1⟩; have HD := hide hd1; clear hd1) | (go_at_call 69; have q := fit_some (unhide HD).1 (unhide HI); rw [unhide HSH] at q; simp only [if_true] at q; refine q.mono ?_; clear q; rintro e w2 ⟨rfl, rfl⟩))
        go_ret
        exact ⟨rfl, unhide HD⟩
end Rs
end Go.Proofs.YtdcffkahijpcbabDoor
