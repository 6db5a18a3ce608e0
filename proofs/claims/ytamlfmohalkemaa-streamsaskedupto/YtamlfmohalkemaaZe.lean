/- Layer 8: List of a stream. -/
import Derived.Test.YtamlfmohalkemaaZd
namespace Go.Proofs.Ytamlfmohalkemaa
open Go.RowKit Go.Shelf
namespace Sm
attribute [local go_sem] Oper.semAt_some

/-- what List has: the most, and the list up to now -/
structure LsI (n : Nat) (most : Int) (full : Bool) (pre : List Tx) (T : Nat → Prop) (W : World) : Prop where
  st : ∃ v, (∀ b, T b ↔ b = n + 1 ∨ b = n + 1 + 1 ∨ v.ownBlock = some b) ∧ Boxed W (n + 1) 3 (.int .i64 most) ∧ Boxed W (n + 1 + 1) 24 v ∧ Own W v pre ∧ (∀ g, v.ownBlock = some g → n + 3 ≤ g)
  len : if full then (pre.length : Int) = most else (pre.length : Int) < most
theorem LsI.fit {n B : Nat} {most : Int} {full : Bool} (hB : B ≤ n) : Fit B (LsI n most full) := by
  refine ⟨fun {s T W b} h hb => ?_, fun {s T W W'} h c => ?_⟩
  · obtain ⟨⟨v, e, b1, b2, ho, hn⟩, _⟩ := h
    rcases (e b).1 hb with q | q | q
    · subst q; exact ⟨by omega, b1.lt⟩
    · subst q; exact ⟨by omega, b2.lt⟩
    · exact ⟨by have := hn b q; omega, (own_lt ho q).2⟩
  · obtain ⟨⟨v, e, b1, b2, ho, hn⟩, hl⟩ := h
    exact ⟨⟨v, e, (c.block _ b1.lt (fun q => q ((e _).2 (.inl rfl)))).trans b1, (c.block _ b2.lt (fun q => q ((e _).2 (.inr (.inl rfl))))).trans b2,
      ho.kept fun g hg => c.block g (own_lt ho hg).2 (fun q => q ((e _).2 (.inr (.inr hg)))), hn⟩, hl⟩

theorem gen_in {F : Fence} {n : Nat} {P : Program} {c : Code} {Q : Exit → Act → World → Prop} {a : Act} {W : World} (h : ∀ V, V = W → Code.wpIn F n P c Q a V) : Code.wpIn F n P c Q a W := h W rfl
set_option maxRecDepth 100000 in
set_option maxHeartbeats 2000000 in
theorem list_any {v : Value} {L : List Tx} {B : Nat} {w₀ w : World} (h : Gives Try.prog v L B w₀) (hb : Below B w₀ w) (hB : B ≤ w.heap.size) (hz : L.length ≤ 8796093022208) (most : Int) :
    Calls Try.prog 17 #[.agg #[v], .int .i64 most] w fun e w' => ∃ sl, e = .returned sl ∧ Own w' sl (L.take most.toNat) ∧ (∀ g, sl.ownBlock = some g → w.heap.size ≤ g) ∧ Below w.heap.size w w' := by
  by_cases hm : most < 1
  · go_enter Try.func17, Try.ntmps17
    go_wp2
    go_ret
    refine ⟨_, rfl, ?_, (fun g hg => by cases hg), by (repeat (first | exact Below.refl _ _ | refine Below.drew ?_ | refine Below.alloc ?_ (by first | (simp; done) | (simp; omega)) _ | refine Below.setCell ?_ (by first | (simp; done) | (simp; omega)) _))⟩
    have e : most.toNat = 0 := by omega
    rw [e]
    exact World.ownsRow_nil _ _ _ _
  · have H := hide h
    have HB := hide hb
    clear h hb
    refine (callsIn_wide (n := 8)).1 ?_
    refine callsIn_of_wp_marks Try.func17 rfl trivial ?_ rfl
    simp only [Try.ntmps17, List.size_toArray, List.length_cons, List.length_nil, Nat.reduceAdd, Nat.reduceSub, Array.replicate_succ, Array.replicate_zero, List.push_toArray, List.append_toArray, List.nil_append, List.cons_append]
    gi_wp2_with (refine ⟨trivial, ?_⟩; gi_at_call 19; refine (callsIn_wide.2 (all_any (unhide H) _)).mono ?_; rintro e w' ⟨gf, lb, rfl, hwk, rfl⟩)
    have HW := hide hwk
    clear hwk
    refine gen_in ?_
    intro V hV
    have bM : Boxed V (w.heap.size + 1) 3 (.int .i64 most) := by
      have := ((Boxed.new (w.alloc (.cells #[v] 27)) 3 (.int .i64 most)).alloc (.cells #[.slice none 0 0] 24)).alloc (.cells #[v] 27)
      rw [World.size_alloc] at this
      rw [hV]; exact this
    have bL : Boxed V (w.heap.size + 1 + 1) 24 (.slice none 0 0) := by
      have := (Boxed.new ((w.alloc (.cells #[v] 27)).alloc (.cells #[.int .i64 most] 3)) 24 (.slice none 0 0)).alloc (.cells #[v] 27)
      rw [World.size_alloc, World.size_alloc] at this
      rw [hV]; exact this
    have hVw : Below w.heap.size w V := by rw [hV]; (repeat (first | exact Below.refl _ _ | refine Below.drew ?_ | refine Below.alloc ?_ (by first | (simp; done) | (simp; omega)) _ | refine Below.setCell ?_ (by first | (simp; done) | (simp; omega)) _))
    have hVs : w.heap.size + 4 ≤ V.heap.size := by rw [hV]; simp
    clear hV
    have hVB : Below B w₀ V := (unhide HB).trans (hVw.mono hB)
    refine range_law (unhide HW) rfl hVB (by omega) rfl (LsI w.heap.size most false) (fun c pre T W => c = .exit 0 ∧ LsI w.heap.size most true pre T W) (LsI.fit hB) (fun c => ⟨fun h hb => (LsI.fit hB).foot h.2 hb, fun h k => ⟨h.1, (LsI.fit hB).abide h.2 k⟩⟩)
      (fun b => b = w.heap.size + 1 ∨ b = w.heap.size + 1 + 1) ⟨⟨.slice none 0 0, fun b => by simp [Value.ownBlock], bM, bL, World.ownsRow_nil _ _ _ _, fun g hg => by cases hg⟩, by simp; omega⟩
      (fun x => { tmps := #[.agg #[v], .int .i64 most, .pointer (some ⟨w.heap.size, 0, none⟩), .pointer (some ⟨w.heap.size + 1, 0, none⟩), .slice none 0 0, .pointer (some ⟨w.heap.size + 1 + 1, 0, none⟩), .string x, .int .i64 most, .bool false, .agg #[v], .func (.func gf) #[] lb, .string x, undef, undef, undef, undef, undef, undef, undef, undef, undef], defers := [] }) ?assign ?body ?done ?stop
    case assign =>
      intro l x W K hK
      gi_wp2
      exact hK
    case body =>
      rintro l pre x T W ⟨⟨sl, eT, b1, b2, ho, hn⟩, hlen⟩ hpre hch
      have hlz : pre.length + 1 ≤ 8796093022208 := by have := hpre.length_le; simp at this; omega
      obtain ⟨g, c, W1, hrun, ho1, hc1, hu1, hd1⟩ := push_tx x ho hlz 24 24 Try.underlying24
      obtain ⟨a0, c0, rfl⟩ := ho.slice
      have n1 : (Value.slice a0 pre.length c0).ownBlock ≠ some (w.heap.size + 1) := fun e => by have := hn _ e; omega
      have n2 : (Value.slice a0 pre.length c0).ownBlock ≠ some (w.heap.size + 1 + 1) := fun e => by have := hn _ e; omega
      have m1 : Boxed W1 (w.heap.size + 1) 3 (.int .i64 most) := (hc1.block _ b1.lt n1).trans b1
      have m2 : Boxed W1 (w.heap.size + 1 + 1) 24 (.slice a0 pre.length c0) := (hc1.block _ b2.lt n2).trans b2
      have q1 := m1.other (B' := w.heap.size + 1 + 1) (by omega) (.slice (some ⟨g, 0, none⟩) (pre.length + 1) c)
      have q2 := m2.set (.slice (some ⟨g, 0, none⟩) (pre.length + 1) c)
      have hg : g ≠ w.heap.size + 1 + 1 := fun e => hd1 _ b2.lt n2 e.symm
      have q3 : Own (W1.setCell ⟨w.heap.size + 1 + 1, 0, none⟩ (.slice (some ⟨g, 0, none⟩) (pre.length + 1) c)) (.slice (some ⟨g, 0, none⟩) (pre.length + 1) c) (pre ++ [x]) :=
        ho1.kept fun g' hg' => by
          have e0 : g = g' := by injection hg'
          subst e0
          exact Below.heap_setCell _ _ _ _ hg
      have hWs : w.heap.size + 4 ≤ W.heap.size := Nat.le_trans hVs hch.size
      have fin : ∀ (full : Bool), (if full then ((pre ++ [x]).length : Int) = most else ((pre ++ [x]).length : Int) < most) → ∃ T', Chg T W (W1.setCell ⟨w.heap.size + 1 + 1, 0, none⟩ (.slice (some ⟨g, 0, none⟩) (pre.length + 1) c)) ∧ (∀ b, T' b → Up T W (W1.setCell ⟨w.heap.size + 1 + 1, 0, none⟩ (.slice (some ⟨g, 0, none⟩) (pre.length + 1) c)) b) ∧ LsI w.heap.size most full (pre ++ [x]) T' (W1.setCell ⟨w.heap.size + 1 + 1, 0, none⟩ (.slice (some ⟨g, 0, none⟩) (pre.length + 1) c)) := fun full hf => by
        refine ⟨fun b => b = w.heap.size + 1 ∨ b = w.heap.size + 1 + 1 ∨ b = g, (hc1.mono fun k hk => (eT k).2 (.inr (.inr hk))).setCell (.inl ((eT _).2 (.inr (.inl rfl)))) _, fun b hb => ?_, ⟨_, fun b => by simp [Value.ownBlock, eq_comm], q1, q2, q3, fun g' hg' => ?_⟩, hf⟩
        · have hsz : (W1.setCell ⟨w.heap.size + 1 + 1, 0, none⟩ (.slice (some ⟨g, 0, none⟩) (pre.length + 1) c)).heap.size = W1.heap.size := by simp [World.setCell]
          rcases hb with e | e | e
          · exact .inl ((eT _).2 (.inl e))
          · exact .inl ((eT _).2 (.inr (.inl e)))
          · subst e
            rcases hu1 with e | e
            · exact .inl ((eT _).2 (.inr (.inr e)))
            · exact .inr ⟨e.1, by rw [hsz]; exact e.2⟩
        · have : g = g' := by injection hg'
          subst this
          rcases hu1 with e | e
          · exact hn _ e
          · omega
      have FIN := hide fin
      have hcW := b2.cell
      have hc1' := m2.cell
      have hf1' := m2.frozen
      have hcM := q1.cell
      have hcL := q2.cell
      have hlen' : (pre.length : Int) < most := by simpa using hlen
      clear fin q1 q2 q3 m1 m2 n1 n2 hc1 hu1 hd1 ho1 ho hn eT b1 b2 hg hlen hpre
      have HAP := hide hrun
      clear hrun
      by_cases hfull : (pre.length : Int) + 1 = most
      · gi_wp2_with (gi_at_builtin; refine in_append_run rfl _ _ 24 24 rfl _ _ rfl rfl (.slice (some ⟨g, 0, none⟩) (pre.length + 1) c) W1 (unhide HAP) ?_)
        obtain ⟨T', x1, x2, x3⟩ := unhide FIN true (by simpa using hfull)
        exact ⟨T', x1, x2, rfl, x3⟩
      · gi_wp2_with (gi_at_builtin; refine in_append_run rfl _ _ 24 24 rfl _ _ rfl rfl (.slice (some ⟨g, 0, none⟩) (pre.length + 1) c) W1 (unhide HAP) ?_)
        exact unhide FIN false (by simp; omega)
    case done =>
      rintro D T W hD hTD ⟨⟨sl, eT, b1, b2, ho, hn⟩, hlen⟩ hch hup hK
      have hc := b2.cell
      have e : L.take most.toNat = L := List.take_of_length_le (by have : (L.length : Int) < most := by simpa using hlen
                                                                   omega)
      have hfo : Own (W.putObj D (.deferred none)) sl (L.take most.toNat) := by
        rw [e]; exact ownsRow_putObj ho _ hK rfl
      have hfb : Below w.heap.size w (W.putObj D (.deferred none)) :=
        (hVw.trans (hch.below hVw.size (fun b hb => by rcases hb with e | e <;> omega))).trans ((Chg.refl (fun b => w.heap.size ≤ b) W).putObj (.inl (Nat.le_trans hVw.size hD)) _ |>.below (by have := hch.size; omega) (fun _ h => h))
      have hfn : ∀ g, sl.ownBlock = some g → w.heap.size ≤ g := fun g hg => by have := hn g hg; omega
      have HF := hide (⟨hfo, hfn, hfb⟩ : _ ∧ _ ∧ _)
      clear hfo hfb hfn e eT b1 b2 hn hlen
      obtain ⟨a0, c0, rfl⟩ := ho.slice
      clear ho
      gi_wp2
      refine ⟨by simp, .inl ⟨_, _, rfl, run_takeDeferred hK, ?_⟩⟩
      exact ⟨_, results_tmp rfl _ _ _, .slice a0 L.length c0, rfl, unhide HF⟩
    case stop =>
      rintro D c pre T W hD hTD hpre ⟨rfl, ⟨sl, eT, b1, b2, ho, hn⟩, hlen⟩ hch hup hK
      have hc := b2.cell
      have e : L.take most.toNat = pre := by
        have : (pre.length : Int) = most := by simpa using hlen
        have e2 : most.toNat = pre.length := by omega
        rw [e2]
        exact (List.prefix_iff_eq_take.1 hpre).symm
      have hfo : Own (W.putObj D (.deferred none)) sl (L.take most.toNat) := by
        rw [e]; exact ownsRow_putObj ho _ hK rfl
      have hfb : Below w.heap.size w (W.putObj D (.deferred none)) :=
        (hVw.trans (hch.below hVw.size (fun b hb => by rcases hb with e | e <;> omega))).trans ((Chg.refl (fun b => w.heap.size ≤ b) W).putObj (.inl (Nat.le_trans hVw.size hD)) _ |>.below (by have := hch.size; omega) (fun _ h => h))
      have hfn : ∀ g, sl.ownBlock = some g → w.heap.size ≤ g := fun g hg => by have := hn g hg; omega
      have HF := hide (⟨hfo, hfn, hfb⟩ : _ ∧ _ ∧ _)
      clear hfo hfb hfn e eT b1 b2 hn hlen
      obtain ⟨a0, c0, rfl⟩ := ho.slice
      clear ho
      gi_wp2
      refine ⟨by simp, .inl ⟨_, _, rfl, run_takeDeferred hK, ?_⟩⟩
      exact ⟨_, results_tmp rfl _ _ _, .slice a0 pre.length c0, rfl, unhide HF⟩
end Sm
end Go.Proofs.Ytamlfmohalkemaa
