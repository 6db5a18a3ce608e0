/- Layer 15: through with Undo as its step. -/
import Derived.Test.YtjcchogilbekoabTe3
namespace Go.Proofs.Ytjcchogilbekoab
open Go.RowKit Go.Shelf
namespace Rv
attribute [local go_sem] Oper.semAt_some

set_option maxRecDepth 100000 in
set_option maxHeartbeats 2000000 in
theorem through_und {K : List (Nat × RuB)} {gf : FuncId} {lb : Array Value} {B : Nat} {w₀ w : World} (hv : Walks ar Try.prog gf lb K B w₀) (hb : Below B w₀ w) (hB : B ≤ w.heap.size) (s : ByteArray)
    (hsz : ∀ pre x m, pre ++ [x] <+: K → fold Ta.und s.data.toList (rs pre) = some m → m.length + x.2.st.size + x.2.ad.size ≤ 9223372036854775807) :
    Calls Try.prog 11 #[.func (.func 9) #[] #[], .string s, .func (.func gf) #[] lb] w fun e w' => e = .returned (Pt.ansV (fold Ta.und s.data.toList (rs K))) ∧ Below w.heap.size w w' := by
  have HW := hide hv
  have HB := hide hb
  have HZ := hide hsz
  clear hv hb hsz
  refine (callsIn_wide (n := 8)).1 ?_
  refine callsIn_of_wp_marks Try.func11 rfl trivial ?_ rfl
  simp only [Try.ntmps11, List.size_toArray, List.length_cons, List.length_nil, Nat.reduceAdd, Nat.reduceSub, Array.replicate_succ, Array.replicate_zero, List.push_toArray, List.append_toArray, List.nil_append, List.cons_append]
  gi_wp2
  refine gen_in ?_
  intro V hV
  have b0 : Boxed V w.heap.size 32 (.func (.func 9) #[] #[]) := by
    have := (((Boxed.new w 32 (.func (.func 9) #[] #[])).alloc (.cells #[.string s] 9)).alloc (.cells #[.string ⟨#[]⟩] 9)).alloc (.cells #[.bool false] 4)
    rw [hV]; exact this
  have b1 : Boxed V (w.heap.size + 1) 9 (.string s) := by
    have := ((Boxed.new (w.alloc (.cells #[.func (.func 9) #[] #[]] 32)) 9 (.string s)).alloc (.cells #[.string ⟨#[]⟩] 9)).alloc (.cells #[.bool false] 4)
    rw [World.size_alloc] at this
    rw [hV]; exact this
  have b2 : Boxed V (w.heap.size + 1 + 1) 9 (.string ⟨#[]⟩) := by
    have := (Boxed.new ((w.alloc (.cells #[.func (.func 9) #[] #[]] 32)).alloc (.cells #[.string s] 9)) 9 (.string ⟨#[]⟩)).alloc (.cells #[.bool false] 4)
    rw [World.size_alloc, World.size_alloc] at this
    rw [hV]; exact this
  have b3 : Boxed V (w.heap.size + 1 + 1 + 1) 4 (.bool false) := by
    have := Boxed.new (((w.alloc (.cells #[.func (.func 9) #[] #[]] 32)).alloc (.cells #[.string s] 9)).alloc (.cells #[.string ⟨#[]⟩] 9)) 4 (.bool false)
    rw [World.size_alloc, World.size_alloc, World.size_alloc] at this
    rw [hV]; exact this
  have hVw : Below w.heap.size w V := by rw [hV]; (repeat (first | exact Below.refl _ _ | refine Below.drew ?_ | refine Below.alloc ?_ (by first | (simp; done) | (simp; omega)) _ | refine Below.setCell ?_ (by first | (simp; done) | (simp; omega)) _))
  have hVs : w.heap.size + 4 ≤ V.heap.size := by rw [hV]; simp
  clear hV
  have hVB : Below B w₀ V := (unhide HB).trans (hVw.mono hB)
  refine range_law (unhide HW) rfl hVB (by omega) (fun _ => rfl) (ThI w.heap.size (.func (.func 9) #[] #[]) fun pre m => fold Ta.und s.data.toList (rs pre) = some m.data.toList) (fun c pre T W => c = .ret ∧ ThI w.heap.size (.func (.func 9) #[] #[]) (fun pre _ => fold Ta.und s.data.toList (rs pre) = none) pre T W) (ThI.fit hB) (fun c => ⟨fun h hb => (ThI.fit hB).foot h.2 hb, fun h k => ⟨h.1, (ThI.fit hB).abide h.2 k⟩⟩)
    (fun b => w.heap.size ≤ b ∧ b < w.heap.size + 4) ⟨fun b => Iff.rfl, b0, ⟨s, b1, rfl⟩, b2, b3⟩
    (fun bx x => { tmps := #[.func (.func 9) #[] #[], .string s, .func (.func gf) #[] lb, .pointer (some ⟨w.heap.size, 0, none⟩), .pointer (some ⟨w.heap.size + 1, 0, none⟩), undef, .pointer (some ⟨w.heap.size + 1 + 1, 0, none⟩), .pointer (some ⟨w.heap.size + 1 + 1 + 1, 0, none⟩), undef, .pointer (some ⟨bx, 0, none⟩), undef, undef, .func (.func gf) #[] lb, .int .i64 (x.1 : Int), .agg #[.int .i64 x.2.k, .int .u16 x.2.fl, .bool x.2.cr, .string x.2.st, .string x.2.ad, .string x.2.cd, .slice x.2.ao x.2.nl x.2.nc], undef, undef, undef, undef, undef, undef, undef, undef, undef, undef, undef], defers := [] })
    (fun x => .cells #[.int .i64 x.2.k, .int .u16 x.2.fl, .bool x.2.cr, .string x.2.st, .string x.2.ad, .string x.2.cd, .slice x.2.ao x.2.nl x.2.nc] 26) ?assign ?body ?done ?stop
  case assign =>
    rintro l ⟨i, x⟩ W K hK
    simp only [ar, RuB.v]
    gi_wp2
    exact hK
  case body =>
    rintro l pre ⟨i, x⟩ T W bx ⟨eT, b0, ⟨m, b1, hm⟩, b2, b3⟩ hbx nbx hnb hpre hch
    have HT := hide (Pt.und_any x.k x.fl x.cr x.st x.ad x.cd x.ao x.nl x.nc m W (by have := unhide HZ pre (i, x) m.data.toList hpre hm; simpa using this))
    have q : ∀ j u, [Value.int .i64 x.k, .int .u16 x.fl, .bool x.cr, .string x.st, .string x.ad, .string x.cd, .slice x.ao x.nl x.nc][j]? = some u → W.cell? ⟨bx, j, none⟩ = some u := fun j u hu => by
      simp only [World.cell?, hbx]
      simpa using hu
    have q0 := q 0 _ rfl
    have q1 := q 1 _ rfl
    have q2 := q 2 _ rfl
    have q3 := q 3 _ rfl
    have q4 := q 4 _ rfl
    have q5 := q 5 _ rfl
    have q6 := q 6 _ rfl
    have f0 := b0.cell
    have f1 := b1.cell
    have hx2 : fold Ta.und s.data.toList (rs (pre ++ [(i, x)])) = Ta.und (Pt.ruR x.k x.st x.ad x.cd) m.data.toList := by
      rw [rs_snoc, fold_snoc, hm]; rfl
    have hbel : ∀ w1, Below W.heap.size W w1 → Boxed w1 w.heap.size 32 (.func (.func 9) #[] #[]) ∧ Boxed w1 (w.heap.size + 1) 9 (.string m) ∧ Boxed w1 (w.heap.size + 1 + 1) 9 (.string ⟨#[]⟩) ∧ Boxed w1 (w.heap.size + 1 + 1 + 1) 4 (.bool false) :=
      fun w1 h => ⟨(h.block _ b0.lt).trans b0, (h.block _ b1.lt).trans b1, (h.block _ b2.lt).trans b2, (h.block _ b3.lt).trans b3⟩
    have HBE := hide hbel
    have HX := hide hx2
    have HT0 := hide eT
    clear q hbx nbx hnb hpre hch hm b0 b1 b2 b3 hbel hx2 eT
    cases hx : Ta.und (Pt.ruR x.k x.st x.ad x.cd) m.data.toList with
    | none =>
      rw [hx] at HX HT
      simp only [Pt.ansV] at HT
      have HF : Hid (∀ w1, Below W.heap.size W w1 → ∃ T', Chg T W ((w1.setCell ⟨w.heap.size + 1 + 1, 0, none⟩ (.string ⟨#[]⟩)).setCell ⟨w.heap.size + 1 + 1 + 1, 0, none⟩ (.bool false)) ∧ (∀ b, T' b → Up T W ((w1.setCell ⟨w.heap.size + 1 + 1, 0, none⟩ (.string ⟨#[]⟩)).setCell ⟨w.heap.size + 1 + 1 + 1, 0, none⟩ (.bool false)) b) ∧ Code.ret = Code.ret ∧ ThI w.heap.size (.func (.func 9) #[] #[]) (fun pre _ => fold Ta.und s.data.toList (rs pre) = none) (pre ++ [(i, x)]) T' ((w1.setCell ⟨w.heap.size + 1 + 1, 0, none⟩ (.string ⟨#[]⟩)).setCell ⟨w.heap.size + 1 + 1 + 1, 0, none⟩ (.bool false))) := hide (fun w1 hb => by
        obtain ⟨d0, d1, d2, d3⟩ := unhide HBE w1 hb
        refine ⟨T, ((Chg.of_below hb).setCell (.inl ((unhide HT0 _).2 ⟨by simp; omega, by simp⟩)) _).setCell (.inl ((unhide HT0 _).2 ⟨by simp; omega, by simp⟩)) _, fun b hb => .inl hb, rfl, unhide HT0, (d0.other (by omega) _).other (by omega) _, ⟨m, (d1.other (by omega) _).other (by omega) _, unhide HX⟩, (d2.set _).other (by omega) _, (d3.other (by omega) _).set _⟩)
      clear hx HX HT0
      gi_wp2_with (refine ⟨trivial, ?_⟩; gi_at_call 9; refine (CallsIn.inRound l (callsIn_wide.2 (unhide HT))).mono ?_; rintro e w1 ⟨rfl, hb1⟩; obtain ⟨d0, d1, d2, d3⟩ := unhide HBE w1 hb1; have g2 := d2.cell; have k2 := d2.frozen; have d3' := d3.other (B' := w.heap.size + 1 + 1) (by omega) (.string ⟨#[]⟩); have g3 := d3'.cell; have k3 := d3'.frozen; have HF1 := hide (unhide HF w1 hb1); clear hb1 d0 d1 d2 d3 d3')
      obtain ⟨T', a1, a2, _, a4⟩ := unhide HF1
      exact ⟨T', a1, a2, rfl, a4⟩
    | some y =>
      rw [hx] at HX HT
      simp only [Pt.ansV] at HT
      have HF : Hid (∀ w1, Below W.heap.size W w1 → ∃ T', Chg T W (w1.setCell ⟨w.heap.size + 1, 0, none⟩ (.string (Pt.str y))) ∧ (∀ b, T' b → Up T W (w1.setCell ⟨w.heap.size + 1, 0, none⟩ (.string (Pt.str y))) b) ∧ ThI w.heap.size (.func (.func 9) #[] #[]) (fun pre m => fold Ta.und s.data.toList (rs pre) = some m.data.toList) (pre ++ [(i, x)]) T' (w1.setCell ⟨w.heap.size + 1, 0, none⟩ (.string (Pt.str y)))) := hide (fun w1 hb => by
        obtain ⟨d0, d1, d2, d3⟩ := unhide HBE w1 hb
        refine ⟨T, (Chg.of_below hb).setCell (.inl ((unhide HT0 _).2 ⟨by simp, by simp⟩)) _, fun b hb => .inl hb, unhide HT0, d0.other (by omega) _, ⟨Pt.str y, d1.set _, by rw [unhide HX, Pt.str_list]⟩, d2.other (by omega) _, d3.other (by omega) _⟩)
      clear hx HX HT0
      gi_wp2_with (refine ⟨trivial, ?_⟩; gi_at_call 9; refine (CallsIn.inRound l (callsIn_wide.2 (unhide HT))).mono ?_; rintro e w1 ⟨rfl, hb1⟩; obtain ⟨d0, d1, d2, d3⟩ := unhide HBE w1 hb1; have g1 := d1.cell; have k1 := d1.frozen; have HF1 := hide (unhide HF w1 hb1); clear hb1 d0 d1 d2 d3)
      exact unhide HF1
  case done =>
    rintro D T W hD hTD ⟨eT, b0, ⟨m, b1, hm⟩, b2, b3⟩ hch hup hK
    have c1 := b1.cell
    have c2 := b2.cell
    have k2 := b2.frozen
    have d3 := b3.other (B' := w.heap.size + 1 + 1) (by omega) (.string m)
    have c3 := d3.cell
    have k3 := d3.frozen
    have e2 := ((b2.set (.string m)).other (B' := w.heap.size + 1 + 1 + 1) (by omega) (.bool true)).cell
    have e3 := (d3.set (.bool true)).cell
    have hK2 : ((W.setCell ⟨w.heap.size + 1 + 1, 0, none⟩ (.string m)).setCell ⟨w.heap.size + 1 + 1 + 1, 0, none⟩ (.bool true)).heap[D]? = some (.deferred (some [])) :=
      (Below.heap_setCell _ _ _ _ (fun e => hTD ((eT _).2 ⟨by rw [e]; simp; omega, by rw [e]; simp⟩))).trans ((Below.heap_setCell _ _ _ _ (fun e => hTD ((eT _).2 ⟨by rw [e]; simp; omega, by rw [e]; simp⟩))).trans hK)
    have HF := hide (back_below hVw (fun b hb => hb.1) ((hch.setCell (p := ⟨w.heap.size + 1 + 1, 0, none⟩) (.inl ⟨by simp; omega, by simp⟩) (.string m)).setCell (p := ⟨w.heap.size + 1 + 1 + 1, 0, none⟩) (.inl ⟨by simp; omega, by simp⟩) (.bool true)) hD)
    have HM := hide hm
    clear eT b0 b1 b2 b3 d3 hm
    gi_wp2
    refine ⟨by simp, .inl ⟨_, _, rfl, run_takeDeferred hK2, ?_⟩⟩
    refine ⟨_, results_pair rfl (g := w.heap.size + 1 + 1) (g2 := w.heap.size + 1 + 1 + 1) (s := m) (b := true) rfl rfl ?_ ?_, by rw [unhide HM]; simp [Pt.ansV, Pt.rstr_self], unhide HF⟩
    · exact cell_kept e2 (grownBy_putObj' _ D (.deferred none)) (fun r e => by cases e; exact ⟨_, hK2, rfl⟩)
    · exact cell_kept e3 (grownBy_putObj' _ D (.deferred none)) (fun r e => by cases e; exact ⟨_, hK2, rfl⟩)
  case stop =>
    rintro D c pre T W hD hTD hpre ⟨rfl, eT, b0, ⟨m, b1, hm⟩, b2, b3⟩ hch hup hK
    have c2 := b2.cell
    have c3 := b3.cell
    have hno : fold Ta.und s.data.toList (rs K) = none := by
      obtain ⟨r, hr⟩ := hpre
      rw [← hr]
      unfold rs
      rw [List.map_append]
      exact fold_stop _ _ _ _ hm
    have HN := hide hno
    have HF := hide (back_below hVw (fun b hb => hb.1) hch hD)
    clear eT b0 b1 b2 b3 hm hno
    gi_wp2
    refine ⟨by simp, .inl ⟨_, _, rfl, run_takeDeferred hK, ?_⟩⟩
    refine ⟨_, results_pair rfl (g := w.heap.size + 1 + 1) (g2 := w.heap.size + 1 + 1 + 1) (s := ⟨#[]⟩) (b := false) rfl rfl ?_ ?_, by rw [unhide HN]; rfl, unhide HF⟩
    · exact cell_kept c2 (grownBy_putObj' _ D (.deferred none)) (fun r e => by cases e; exact ⟨_, hK, rfl⟩)
    · exact cell_kept c3 (grownBy_putObj' _ D (.deferred none)) (fun r e => by cases e; exact ⟨_, hK, rfl⟩)
end Rv
end Go.Proofs.Ytjcchogilbekoab
