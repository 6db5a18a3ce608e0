/- Layer 8: the walk of StreamsWalks. -/
import Derived.Deep.RegionHeld3
import Derived.Laws.EntriesVeiled
import Derived.Stop.RegionWithIn
import Derived.Test.YtamlfmohalkemaaZw
import Derived.Test.YtamlfmohalkemaaZp
namespace Go.Proofs.Ytamlfmohalkemaa
open Go.RowKit Go.Shelf
namespace Sm
attribute [local go_sem] Oper.semAt_some
theorem gen_callsIn {F : Fence} {n : Nat} {P : Program} {f : FuncId} {args : Array Value} {W : World} {R : Ending → World → Prop} (h : ∀ V, V = W → CallsIn F n P f args V R) : CallsIn F n P f args W R := h W rfl
theorem undef_yields : yielded.match_1 (fun _ => Option Bool) (some undef) (fun b => some b) (fun _ => none) = none := rfl
attribute [local go_sem] undef_yields
theorem wide_fn (f : FuncId) : Fence.wide.fn f = True := eq_true trivial
attribute [local go_sem] wide_fn true_and
theorem eq_seq (gf : FuncId) (lb : Array Value) (W : World) : Sem.run Try.prog (binOp .eql 39 (.func (.func gf) #[] lb) .nilFunc) W = .ok (.bool false) W := by kernel_rfl
theorem runion {w : World} {va vc : Value} {A C : List Tx} (ha : RowAt w va A w.heap.size) (hc : RowAt w vc C w.heap.size) (hA : Rs A) (hC : Rs C) (hz : A.length + C.length ≤ 8796093022208) :
    Calls Try.prog 10 #[va, vc] w fun e w' => ∃ a c, e = .returned (.slice a (ofS (A ++ C)).length c) ∧ Own w' (.slice a (ofS (A ++ C)).length c) (ofS (A ++ C)) ∧ (∀ g, (Value.slice a (ofS (A ++ C)).length c).ownBlock = some g → w.heap.size ≤ g) ∧ Below w.heap.size w w' := by
  have HM := hide (merge_any ha hc hA hC hz)
  obtain ⟨aa, ca, rfl, -⟩ := ha
  obtain ⟨ac, cc, rfl, -⟩ := hc
  go_enter Try.func10, Try.ntmps10
  go_wp2_with (go_at_call 28; refine (unhide HM).mono ?_; rintro e w1 ⟨a, c, rfl, h1, h2, h3⟩; have HF := hide (⟨h1, h2, h3⟩ : _ ∧ _ ∧ _); clear h1 h2 h3)
  go_ret
  exact ⟨_, _, rfl, unhide HF⟩
/-- what stands throughout the three turns -/
structure WS (w w5 : World) (b8 : Nat) (stop : Int) (sv wv : Value) (U : List Tx) (V : World) : Prop where
  bl : Below w.heap.size w V
  b5 : Below w5.heap.size w5 V
  st : Boxed V w.heap.size 3 (.int .i64 stop)
  re : Boxed V (w.heap.size + 1) 4 (.bool false)
  s : Boxed V w5.heap.size 27 sv
  wt : Boxed V b8 24 wv
  row : RowAt V wv U V.heap.size
theorem WS.below {w w5 : World} {b8 : Nat} {stop : Int} {sv wv : Value} {U : List Tx} {V V' : World} (h : WS w w5 b8 stop sv wv U V) (hb : Below V.heap.size V V') : WS w w5 b8 stop sv wv U V' :=
  ⟨h.bl.trans (hb.mono h.bl.size), h.b5.trans (hb.mono h.b5.size), bx_below h.st hb h.st.lt, bx_below h.re hb h.re.lt, bx_below h.s hb h.s.lt, bx_below h.wt hb h.wt.lt, (h.row.below hb).mono hb.size⟩
def colD (D : Nat) : Deferred := { target := .collected D, args := #[] }
/-- the loops' blocks for deferred calls -/
structure DS (lo : Nat) (Dl : List Nat) (W : World) : Prop where
  nd : Dl.Nodup
  at_ : ∀ D ∈ Dl, lo ≤ D ∧ W.heap[D]? = some (.deferred (some []))
theorem DS.lt {lo : Nat} {Dl : List Nat} {W : World} (h : DS lo Dl W) {D : Nat} (hD : D ∈ Dl) : D < W.heap.size := (Array.getElem?_eq_some_iff.1 (h.at_ D hD).2).1
theorem DS.more {lo : Nat} {Dl : List Nat} {V W : World} {D : Nat} (h : DS lo Dl V) (hb : Below V.heap.size V W) (hD : V.heap.size ≤ D) (hlo : lo ≤ V.heap.size) (hK : W.heap[D]? = some (.deferred (some []))) : DS lo (D :: Dl) W := by
  refine ⟨List.nodup_cons.2 ⟨fun q => by have := h.lt q; omega, h.nd⟩, fun E hE => ?_⟩
  rcases List.mem_cons.1 hE with e | e
  · subst e; exact ⟨by omega, hK⟩
  · exact ⟨(h.at_ E e).1, (hb.block E (h.lt e)).trans (h.at_ E e).2⟩
set_option maxRecDepth 100000 in
set_option maxHeartbeats 16000000 in
theorem walks_walk {w : World} {va vb : Value} {A B : List Tx} {G G' : Nat → Prop} (h : CRow w va A G) (k : CRow w vb B G') (hz : A.length ≤ 1048576) (kz : B.length ≤ 1048576) (stop : Int) :
    Calls Try.prog 4 #[va, vb, .int .i64 stop] w fun e w' => e = .returned (.bool true) ∧ Below w.heap.size w w' := by
  have H := hide h
  have K := hide k
  obtain ⟨ao, cA, rfl, -⟩ := h
  obtain ⟨bo, cB, rfl, -⟩ := k
  refine (callsIn_wide (n := 8)).1 ?_
  refine callsIn_of_wp_marks Try.func4 rfl trivial ?_ rfl
  simp only [Try.ntmps4, List.size_toArray, List.length_cons, List.length_nil, Nat.reduceAdd, Nat.reduceSub, Array.replicate_succ, Array.replicate_zero, List.push_toArray, List.append_toArray, List.nil_append, List.cons_append]
  have b0 : Below w.heap.size w ((w.alloc (.cells #[.int .i64 stop] 3)).alloc (.cells #[.bool false] 4)) := by (repeat (first | exact Below.refl _ _ | refine Below.drew ?_ | refine Below.alloc ?_ (by first | (simp; done) | (simp; omega)) _ | refine Below.setCell ?_ (by first | (simp; done) | (simp; omega)) _))
  have x0 : Boxed ((w.alloc (.cells #[.int .i64 stop] 3)).alloc (.cells #[.bool false] 4)) w.heap.size 3 (.int .i64 stop) := (Boxed.new w _ _).alloc _
  have y0 : Boxed ((w.alloc (.cells #[.int .i64 stop] 3)).alloc (.cells #[.bool false] 4)) (w.heap.size + 1) 4 (.bool false) := by
    have := Boxed.new (w.alloc (.cells #[.int .i64 stop] 3)) 4 (.bool false)
    rwa [World.size_alloc] at this
  have HX := hide (⟨b0, x0, y0⟩ : _ ∧ _ ∧ _)
  have hv0 : ((w.alloc (.cells #[.int .i64 stop] 3)).alloc (.cells #[.bool false] 4)).heap.size = w.heap.size + 2 := by simp
  have CT1 := hide (twin_any ((unhide H).below b0).row (by omega))
  clear b0 x0 y0
  gi_wp2_with fail
  refine gen_callsIn ?_
  intro V hV
  rw [← hV] at HX CT1 hv0
  clear hV
  obtain ⟨b0, x0, y0⟩ := unhide HX
  refine (callsIn_wide.2 (unhide CT1)).mono ?_
  rintro e w1 ⟨a1, c1, rfl, ho1, hn1, hb1⟩
  have CT2 := hide (of_any (own_row ho1) (by omega))
  have b1 := hide hb1
  clear ho1 hn1 hb1 CT1
  gi_wp2_with fail
  refine (callsIn_wide.2 (unhide CT2)).mono ?_
  rintro e w2 ⟨g2, m2, rfl, hw2, hb2⟩
  have S2 : Hid (Sts w2 (.func (.func g2) #[] m2) (ofS A)) := (St.new hw2 (ofS_rs A) (by have := ofS_len A; omega)).s
  have b2 := hide ((unhide b1).trans (hb2.mono (unhide b1).size))
  have bw2 := hide (b0.trans ((unhide b2).mono b0.size))
  have CT3 := hide (twin_any ((unhide K).below (unhide bw2)).row (by omega))
  clear hw2 hb2 CT2 b1
  gi_wp2_with fail
  refine (callsIn_wide.2 (unhide CT3)).mono ?_
  rintro e w3 ⟨a3, c3, rfl, ho3, hn3, hb3⟩
  have CT4 := hide (of_any (own_row ho3) (by omega))
  have b3 := hide hb3
  clear ho3 hn3 hb3 CT3
  gi_wp2_with fail
  refine (callsIn_wide.2 (unhide CT4)).mono ?_
  rintro e w4 ⟨g4, m4, rfl, hw4, hb4⟩
  have hs4 : St w4 (.func (.func g4) #[] m4) (ofS B) := St.new hw4 (ofS_rs B) (by have := ofS_len B; omega)
  have b34 := (unhide b3).trans (hb4.mono (unhide b3).size)
  have hl4 : (ofS A).length + (ofS B).length ≤ 4194304 := by have := ofS_len A; have := ofS_len B; omega
  have CT5 := hide (St.union2 (unhide S2 w4 b34) hs4 hl4)
  have b4 := hide ((unhide b2).trans (b34.mono (unhide b2).size))
  clear hw4 hb4 hs4 b34 CT4 S2 b2 b3
  gi_wp2_with fail
  refine (callsIn_wide.2 (unhide CT5)).mono ?_
  rintro e w5 ⟨g5, m5, rfl, hs5, hb5⟩
  have b5 := (unhide b4).trans (hb5.mono (unhide b4).size)
  have bw5 := hide (b0.trans (b5.mono b0.size))
  have HX5 : Hid (Boxed w5 w.heap.size 3 (.int .i64 stop) ∧ Boxed w5 (w.heap.size + 1) 4 (.bool false)) := ⟨bx_below x0 b5 x0.lt, bx_below y0 b5 y0.lt⟩
  have hv5 : w.heap.size + 2 ≤ w5.heap.size := by have := b5.size; omega
  have HS5 := hide hs5
  have b5a := (Below.refl _ w5).alloc (Nat.le_refl _) (.cells #[.func (.func g5) #[] m5] 27)
  have CT6 := hide (rof (((unhide H).below (unhide bw5)).below b5a) (by omega))
  have B5A := hide b5a
  clear b5a hb5 b5 b4 x0 y0 b0 HX hs5 CT5 bw2 hv0
  gi_wp2_with fail
  refine (callsIn_wide.2 (unhide CT6)).mono ?_
  rintro e w6 ⟨a6, c6, rfl, ho6, hn6, hb6⟩
  have b6 := hide ((unhide B5A).trans (hb6.mono (unhide B5A).size))
  have bs6 : Hid (Boxed w6 w5.heap.size 27 (.func (.func g5) #[] m5)) := bx_below (Boxed.new w5 _ _) hb6 (by simp)
  have CT7 := hide (rof ((unhide K).below ((unhide bw5).trans ((unhide b6).mono (unhide bw5).size))) (by omega))
  have HO6 := hide ho6
  clear ho6 hn6 hb6 CT6
  gi_wp2_with fail
  refine (callsIn_wide.2 (unhide CT7)).mono ?_
  rintro e w7 ⟨a7, c7, rfl, ho7, hn7, hb7⟩
  have b7 := hide ((unhide b6).trans (hb7.mono (unhide b6).size))
  have bs7 : Hid (Boxed w7 w5.heap.size 27 (.func (.func g5) #[] m5)) := bx_below (unhide bs6) hb7 (unhide bs6).lt
  have CT8 := hide (runion (own_row ((unhide HO6).below hb7)) (own_row ho7) (ofS_rs A) (ofS_rs B) (by omega))
  clear ho7 hn7 hb7 CT7 b6 bs6 HO6
  gi_wp2_with fail
  refine (callsIn_wide.2 (unhide CT8)).mono ?_
  rintro e w8 ⟨a8, c8, rfl, ho8, hn8, hb8⟩
  have b8 := hide ((unhide b7).trans (hb8.mono (unhide b7).size))
  have bs8 := bx_below (unhide bs7) hb8 (unhide bs7).lt
  have HO8 := hide ho8
  have HBS8 := hide bs8
  have ks := (bs8.alloc (.cells #[.slice a8 (ofS (ofS A ++ ofS B)).length c8] 24)).cell
  clear ho8 hn8 hb8 CT8 b7 bs7 bs8
  gi_wp2_with fail
  obtain ⟨⟨B0, hB0, hgv⟩, hrs, hln⟩ := unhide HS5
  refine (callsIn_wide.2 (all_any hgv _)).mono ?_
  rintro e w9 ⟨gf, lb, rfl, hwk, rfl⟩
  have HWK := hide hwk
  have HGV := hide hgv
  have qs := eq_seq gf lb
  have hb9 : Below w8.heap.size w8 ((w8.alloc (.cells #[.slice a8 (ofS (ofS A ++ ofS B)).length c8] 24)).alloc (.cells #[.func (.func g5) #[] m5] 27)) := by (repeat (first | exact Below.refl _ _ | refine Below.drew ?_ | refine Below.alloc ?_ (by first | (simp; done) | (simp; omega)) _ | refine Below.setCell ?_ (by first | (simp; done) | (simp; omega)) _))
  have HB9 := hide hb9
  have HW9 : Hid (Boxed ((w8.alloc (.cells #[.slice a8 (ofS (ofS A ++ ofS B)).length c8] 24)).alloc (.cells #[.func (.func g5) #[] m5] 27)) w8.heap.size 24 (.slice a8 (ofS (ofS A ++ ofS B)).length c8)) := (Boxed.new w8 _ _).alloc _
  have HWA := hide (wakes_true ((w8.alloc (.cells #[.slice a8 (ofS (ofS A ++ ofS B)).length c8] 24)).alloc (.cells #[.func (.func g5) #[] m5] 27)))
  clear hwk hgv HS5 ks hb9
  gi_wp2_with fail
  refine (callsIn_wide.2 (unhide HWA)).mono ?_
  rintro e V ⟨rfl, hbV⟩
  have c8V := (unhide HB9).trans (hbV.mono (unhide HB9).size)
  have b5V := (unhide b8).trans (c8V.mono (unhide b8).size)
  have hWS : WS w w5 w8.heap.size stop (.func (.func g5) #[] m5) (.slice a8 (ofS (ofS A ++ ofS B)).length c8) (ofS (ofS A ++ ofS B)) V :=
    ⟨(unhide bw5).trans (b5V.mono (unhide bw5).size), b5V, bx_below (unhide HX5).1 b5V (unhide HX5).1.lt, bx_below (unhide HX5).2 b5V (unhide HX5).2.lt, bx_below (unhide HBS8) c8V (unhide HBS8).lt, bx_below (unhide HW9) hbV (unhide HW9).lt, own_row ((unhide HO8).below c8V)⟩
  have HWS := hide hWS
  clear c8V b5V hWS hbV HB9 HW9 HWA b8 bw5 HX5 HBS8 HO8 H K qs
  generalize ofS (ofS A ++ ofS B) = U at *
  gi_wp2_with fail
  refine wpIn_loop (fun a W => ∃ (k : Nat) (Dl : List Nat) (u10 u11 u35 u36 u37 u67 u68 u69 u70 u71 u72 u73 u74 u75 u76 u77 u78 u79 u80 : Value), k ≤ 3 ∧ Dl.length = k ∧ Hid (WS w w5 w8.heap.size stop (.func (.func g5) #[] m5) (.slice a8 U.length c8) U W) ∧ Hid (DS w5.heap.size Dl W) ∧ a = { tmps := #[.slice ao A.length cA, .slice bo B.length cB, .int .i64 stop, undef, undef, .pointer (some ⟨w.heap.size, 0, none⟩), .pointer (some ⟨w.heap.size + 1, 0, none⟩), .pointer (some ⟨w5.heap.size, 0, none⟩), .pointer (some ⟨w8.heap.size, 0, none⟩), .func (.func gf) #[] lb, u10, u11, undef, .slice ao A.length cA, .slice a1 A.length c1, .agg #[.func (.func g2) #[] m2], .slice bo B.length cB, .slice a3 B.length c3, .agg #[.func (.func g4) #[] m4], .slice (some ⟨w4.heap.size, 0, none⟩) 2 2, .agg #[.func (.func g5) #[] m5], .slice ao A.length cA, .slice a6 (ofS A).length c6, .slice bo B.length cB, .slice a7 (ofS B).length c7, .slice a8 U.length c8, .agg #[.func (.func g5) #[] m5], .func (.func gf) #[] lb, .func (.func gf) #[] lb, .bool false, .bool false, .bool true, .bool false, .bool false, .int .i64 (k : Int), u35, u36, u37, undef, undef, undef, undef, undef, undef, undef, undef, undef, undef, undef, undef, undef, undef, undef, undef, undef, undef, undef, undef, undef, undef, undef, undef, undef, undef, undef, undef, undef, u67, u68, u69, u70, u71, u72, u73, u74, u75, u76, u77, u78, u79, u80], defers := Dl.map colD }) (fun a _ => 3 - (intOf (a.tmps.getD 34 undef)).toNat) ?_ ?_
  · exact ⟨0, [], undef, undef, undef, undef, undef, undef, undef, undef, undef, undef, undef, undef, undef, undef, undef, undef, undef, undef, undef, by omega, rfl, HWS, ⟨List.nodup_nil, fun _ h => by cases h⟩, rfl⟩
  clear HWS V
  rintro _ V ⟨k, Dl, u10, u11, u35, u36, u37, u67, u68, u69, u70, u71, u72, u73, u74, u75, u76, u77, u78, u79, u80, hk3, hDl, HWS, HDS, rfl⟩
  have hn8 := (unhide HWS).wt.lt
  by_cases hk : k < 3
  case neg =>
    have hkz : ¬ (k : Int) < 3 := by omega
    have r1 := (unhide HWS).re.cell
    have r2 := (unhide HWS).re.frozen
    gi_wp2_with fail
    obtain ⟨D0, D1, D2, rfl⟩ : ∃ a b c, Dl = [a, b, c] := by
      rcases Dl with _ | ⟨a, _ | ⟨b, _ | ⟨c, _ | ⟨d, t⟩⟩⟩⟩
      · simp at hDl; omega
      · simp at hDl; omega
      · simp at hDl; omega
      · exact ⟨a, b, c, rfl⟩
      · simp at hDl; omega
    obtain ⟨nd, hat⟩ := unhide HDS
    obtain ⟨l0, h0⟩ := hat D0 (by simp)
    obtain ⟨l1, h1⟩ := hat D1 (by simp)
    obtain ⟨l2, h2⟩ := hat D2 (by simp)
    have n01 : D0 ≠ D1 := fun e => by subst e; simp at nd
    have n02 : D0 ≠ D2 := fun e => by subst e; simp at nd
    have n12 : D1 ≠ D2 := fun e => by subst e; simp at nd
    have rb := (unhide HWS).re.set (.bool true)
    have hX : Below w.heap.size w (V.setCell ⟨w.heap.size + 1, 0, none⟩ (.bool true)) := (unhide HWS).bl.setCell (p := ⟨w.heap.size + 1, 0, none⟩) (by show w.heap.size ≤ w.heap.size + 1; omega) _
    have sX : (V.setCell ⟨w.heap.size + 1, 0, none⟩ (.bool true)).heap.size = V.heap.size := by simp [World.setCell]
    have K0 : (V.setCell ⟨w.heap.size + 1, 0, none⟩ (.bool true)).heap[D0]? = some (.deferred (some [])) := (Below.heap_setCell _ _ _ _ (by show D0 ≠ w.heap.size + 1; omega)).trans h0
    have K1 : (V.setCell ⟨w.heap.size + 1, 0, none⟩ (.bool true)).heap[D1]? = some (.deferred (some [])) := (Below.heap_setCell _ _ _ _ (by show D1 ≠ w.heap.size + 1; omega)).trans h1
    have K2 : (V.setCell ⟨w.heap.size + 1, 0, none⟩ (.bool true)).heap[D2]? = some (.deferred (some [])) := (Below.heap_setCell _ _ _ _ (by show D2 ≠ w.heap.size + 1; omega)).trans h2
    generalize V.setCell ⟨w.heap.size + 1, 0, none⟩ (.bool true) = X at *
    have K1' : (X.putObj D0 (.deferred none)).heap[D1]? = some (.deferred (some [])) := (World.putObj_heap_other (by omega)).trans K1
    have K2' : ((X.putObj D0 (.deferred none)).putObj D1 (.deferred none)).heap[D2]? = some (.deferred (some [])) := (World.putObj_heap_other (by omega)).trans ((World.putObj_heap_other (by omega)).trans K2)
    have rb' : Boxed (((X.putObj D0 (.deferred none)).putObj D1 (.deferred none)).putObj D2 (.deferred none)) (w.heap.size + 1) 4 (.bool true) := (World.putObj_heap_other (by omega)).trans ((World.putObj_heap_other (by omega)).trans ((World.putObj_heap_other (by omega)).trans rb))
    have hF : Below w.heap.size w (((X.putObj D0 (.deferred none)).putObj D1 (.deferred none)).putObj D2 (.deferred none)) := by
      refine hX.trans (((((Chg.refl (fun b => w5.heap.size ≤ b) X).putObj (.inl l0) _).putObj (.inl l1) _).putObj (.inl l2) _).below hX.size (fun b hb => ?_))
      have : w5.heap.size ≤ b := hb
      omega
    refine ⟨by simp, .inl ⟨_, _, rfl, run_takeDeferred K0, ?_⟩⟩
    refine ⟨by simp, .inl ⟨_, _, rfl, run_takeDeferred K1', ?_⟩⟩
    refine ⟨by simp, .inl ⟨_, _, rfl, run_takeDeferred K2', ?_⟩⟩
    exact ⟨_, results_bool rfl (g := w.heap.size + 1) (b := true) rfl rb'.cell, rfl, hF⟩
  have hkz : (k : Int) < 3 := by omega
  gi_wp2_with fail
  refine gen_in ?_
  intro R0 hR0
  have tb0 : Boxed R0 V.heap.size 3 (.int .i64 (k : Int)) := by rw [hR0]; exact (Boxed.new V _ _).alloc _
  have ab0 : Boxed R0 (V.heap.size + 1) 3 (.int .i64 (([] : List Tx).length : Int)) := by
    have := Boxed.new (V.alloc (.cells #[.int .i64 (k : Int)] 3)) 3 (.int .i64 0)
    rw [World.size_alloc] at this
    rw [hR0]; exact this
  have hRV0 : Below V.heap.size V R0 := by rw [hR0]; (repeat (first | exact Below.refl _ _ | refine Below.drew ?_ | refine Below.alloc ?_ (by first | (simp; done) | (simp; omega)) _ | refine Below.setCell ?_ (by first | (simp; done) | (simp; omega)) _))
  clear hR0
  have hRs0 : B0 ≤ V.heap.size := Nat.le_trans hB0 (unhide HWS).b5.size
  have hRB0 : Below B0 w5 R0 := ((unhide HWS).b5.mono hB0).trans (hRV0.mono hRs0)
  refine range_law (unhide HWK) rfl hRB0 (Nat.le_trans hRs0 hRV0.size) rfl (CtI (V.heap.size + 1)) (fun c pre T W => (c = .exit 2 ∧ (k : Int) = 1 ∧ (pre.length : Int) = stop) ∧ CtI (V.heap.size + 1) pre T W) (CtI.fit (by omega)) (fun c => ⟨fun h hb => (CtI.fit (by omega)).foot h.2 hb, fun h k => ⟨h.1, (CtI.fit (by omega) (B := B0)).abide h.2 k⟩⟩)
    (fun b => b = V.heap.size + 1) ⟨fun b => Iff.rfl, ab0⟩ ?a1 ?assign ?body ?done ?stop
  case assign =>
    intro l x W K hK
    gi_wp2
    exact hK
  case body =>
    rintro l pre x T W ⟨eT, b1⟩ hpre hch
    have hWV : Below V.heap.size V W := hRV0.trans (hch.below hRV0.size (fun b hb => by have e : b = V.heap.size + 1 := hb; omega))
    have ws := (unhide HWS).below hWV
    have tbW : Boxed W V.heap.size 3 (.int .i64 (k : Int)) := (hch.block _ tb0.lt (fun e => by have e : V.heap.size = V.heap.size + 1 := e; omega)).trans tb0
    have hpl := hpre.length_le
    rw [List.length_append, List.length_singleton] at hpl
    have hx : U[pre.length]? = some x := by
      obtain ⟨r, hr⟩ := hpre
      rw [← hr]; simp
    obtain ⟨ao8, cc8, e8, hat⟩ := ws.row
    injection e8 with e8a e8b e8c
    subst e8a e8c
    clear e8b
    obtain ⟨gg, off, rfl, hg, hc⟩ := hat (by omega)
    have cx : W.cell? ⟨gg, off + pre.length, none⟩ = some (.string x) := hc _ _ hx
    have vs := (unhide HWS)
    have n1 := vs.st.lt
    have n2 := vs.s.lt
    have n3 := vs.wt.lt
    have c1 := b1.cell
    have f1 := b1.frozen
    have c2 := ws.wt.cell
    have q0 := b1.set (.int .i64 ((pre.length : Int) + 1))
    have q1 := (ws.st.other (B' := V.heap.size + 1) (by omega) (.int .i64 ((pre.length : Int) + 1))).cell
    have q2 := (ws.s.other (B' := V.heap.size + 1) (by omega) (.int .i64 ((pre.length : Int) + 1))).cell
    have q3 := (ws.wt.other (B' := V.heap.size + 1) (by omega) (.int .i64 ((pre.length : Int) + 1))).cell
    have q4 := (tbW.other (B' := V.heap.size + 1) (by omega) (.int .i64 ((pre.length : Int) + 1))).cell
    have q5 := q0.cell
    have HFI : Hid (∀ W', Below (W.setCell ⟨V.heap.size + 1, 0, none⟩ (.int .i64 ((pre.length : Int) + 1))).heap.size (W.setCell ⟨V.heap.size + 1, 0, none⟩ (.int .i64 ((pre.length : Int) + 1))) W' → ∃ T', Chg T W W' ∧ (∀ b, T' b → Up T W W' b) ∧ CtI (V.heap.size + 1) (pre ++ [x]) T' W') := fun W' hW' => by
      have c0 : Chg T W (W.setCell ⟨V.heap.size + 1, 0, none⟩ (.int .i64 ((pre.length : Int) + 1))) := (Chg.refl T W).setCell (.inl ((eT _).2 rfl)) _
      refine ⟨T, c0.on (G := fun _ => False) (Chg.of_below hW') (fun i hi => hi.elim), fun b hb => .inl hb, eT, ?_⟩
      have e : (((pre ++ [x]).length : Nat) : Int) = (pre.length : Int) + 1 := by simp
      rw [e]
      exact bx_below q0 hW' q0.lt
    have HCN : Hid (∀ W', Below (W.setCell ⟨V.heap.size + 1, 0, none⟩ (.int .i64 ((pre.length : Int) + 1))).heap.size (W.setCell ⟨V.heap.size + 1, 0, none⟩ (.int .i64 ((pre.length : Int) + 1))) W' → Calls Try.prog 20 #[.agg #[.func (.func g5) #[] m5]] W' fun e w' => e = .returned (.int .i64 (U.length : Int)) ∧ Below (W.setCell ⟨V.heap.size + 1, 0, none⟩ (.int .i64 ((pre.length : Int) + 1))).heap.size (W.setCell ⟨V.heap.size + 1, 0, none⟩ (.int .i64 ((pre.length : Int) + 1))) w' ∧ w'.cell? ⟨w8.heap.size, 0, none⟩ = some (.slice (some ⟨gg, off, none⟩) U.length c8) ∧ w'.cell? ⟨V.heap.size, 0, none⟩ = some (.int .i64 (k : Int))) := fun W' hW' => by
      have h1 : Below B0 w5 W := (ws.b5.mono hB0)
      have h2 : Below B0 w5 (W.setCell ⟨V.heap.size + 1, 0, none⟩ (.int .i64 ((pre.length : Int) + 1))) := h1.setCell (by show B0 ≤ V.heap.size + 1; omega) _
      have sz : B0 ≤ (W.setCell ⟨V.heap.size + 1, 0, none⟩ (.int .i64 ((pre.length : Int) + 1))).heap.size := by simp only [World.setCell]; simp; exact Nat.le_trans hRs0 hWV.size
      have szW : (W.setCell ⟨V.heap.size + 1, 0, none⟩ (.int .i64 ((pre.length : Int) + 1))).heap.size = W.heap.size := by simp [World.setCell]
      refine (count_any (unhide HGV) (h2.trans (hW'.mono sz)) (Nat.le_trans sz hW'.size) (by omega)).mono ?_
      rintro e w' ⟨rfl, hb⟩
      have hb2 := hW'.trans (hb.mono hW'.size)
      exact ⟨rfl, hb2, (hb2.cell (p := ⟨w8.heap.size, 0, none⟩) (by show w8.heap.size < _; rw [szW]; have := hWV.size; omega)).trans q3, (hb2.cell (p := ⟨V.heap.size, 0, none⟩) (by show V.heap.size < _; rw [szW]; exact tbW.lt)).trans q4⟩
    clear hpre hch hWV ws tbW hx hat hc b1 eT q0 vs
    by_cases hst : (pre.length : Int) + 1 = stop
    · subst hst
      gi_wp2_with fail
      have HC2 := hide (unhide HCN _ ((Below.refl _ _).drew))
      gi_region_with (gi_at_call 20; refine (CallsIn.inRound l (callsIn_wide.2 (unhide HC2))).mono ?_; rintro e w2 ⟨rfl, hb2, k3, k4⟩; have HB2 := hide hb2; clear hb2)
      all_goals
        by_cases hk1 : (k : Int) = 1
        · gi_wp2
          obtain ⟨T', y1, y2, y3⟩ := unhide HFI _ (unhide HB2)
          exact ⟨T', y1, y2, ⟨rfl, hk1, by simp⟩, y3⟩
        · gi_wp2
          exact unhide HFI _ (unhide HB2)
    · gi_wp2_with fail
      gi_region_with fail
      all_goals
        gi_wp2
        exact unhide HFI _ ((Below.refl _ _).drew)
  case done =>
    rintro D T W hD hTD ⟨eT, b1⟩ hch hup hK
    have hWV : Below V.heap.size V W := hRV0.trans (hch.below hRV0.size (fun b hb => by have e : b = V.heap.size + 1 := hb; omega))
    have WSW := hide ((unhide HWS).below hWV)
    have DSW := hide ((unhide HDS).more hWV (Nat.le_trans hRV0.size hD) (unhide HWS).b5.size hK)
    have c1 := b1.cell
    have c2 := (unhide WSW).wt.cell
    clear hD hTD eT b1 hch hup hK hWV
    gi_wp2
    refine ⟨⟨k + 1, D :: Dl, _, _, _, _, _, _, _, _, _, _, _, _, _, _, _, _, _, _, _, by omega, by simp; omega, WSW, DSW, rfl⟩, ?_⟩
    simp [intOf]
    omega
  case stop =>
    rintro D c pre T W hD hTD hpre ⟨⟨rfl, hk1, hst⟩, eT, b1⟩ hch hup hK
    have hWV : Below V.heap.size V W := hRV0.trans (hch.below hRV0.size (fun b hb => by have e : b = V.heap.size + 1 := hb; omega))
    have WSW := hide ((unhide HWS).below hWV)
    have DSW := hide ((unhide HDS).more hWV (Nat.le_trans hRV0.size hD) (unhide HWS).b5.size hK)
    have tbW : Boxed W V.heap.size 3 (.int .i64 (k : Int)) := (hch.block _ tb0.lt (fun e => by have e : V.heap.size = V.heap.size + 1 := e; omega)).trans tb0
    obtain rfl : k = 1 := by omega
    subst hst
    have c1 := b1.cell
    have c2 := (unhide WSW).wt.cell
    have c3 := (unhide WSW).st.cell
    have c4 := tbW.cell
    clear hD hTD eT b1 hch hup hK hWV tbW
    by_cases hpu : (pre.length : Int) = (U.length : Int)
    · gi_wp2
      refine ⟨⟨1 + 1, D :: Dl, _, _, _, _, _, _, _, _, _, _, _, _, _, _, _, _, _, _, _, by omega, by simp; omega, WSW, DSW, rfl⟩, ?_⟩
      simp [intOf]
    · gi_wp2
      refine ⟨⟨1 + 1, D :: Dl, _, _, _, _, _, _, _, _, _, _, _, _, _, _, _, _, _, _, _, by omega, by simp; omega, WSW, DSW, rfl⟩, ?_⟩
      simp [intOf]
end Sm
end Go.Proofs.Ytamlfmohalkemaa
