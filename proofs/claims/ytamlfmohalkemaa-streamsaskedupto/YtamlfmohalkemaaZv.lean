/- Layer 8: Union: a walk through a heap of cursors. -/
import Derived.Sort.LoopGhostIn
import Derived.Lib.Walk
import Derived.Lib.SliceRun
import Derived.Test.YtamlfmohalkemaaZu
namespace Go.Proofs.Ytamlfmohalkemaa
open Go.RowKit Go.Shelf
namespace Sm
open Hpc (Cu Cx Les LessV HAt HIn Res Its)
attribute [local go_sem] Oper.semAt_some

theorem Ba.flat {w W : World} {hb : Nat} {Ls : List (List Tx)} {R F : Nat → Prop} {hR : ∀ b, R b → b < W.heap.size} {I : List Cu} (h : BA w hb Ls W R F hR I) : Sm.flat I = Ls.flatten := by
  have e : Sm.flat I = (I.map (·.L)).flatten := by unfold Sm.flat; rw [List.flatMap_def]
  rw [e, h.ls]
  exact List.flatten_filter_not_isEmpty
theorem tot_flat (I : List Cu) : tot I = (flat I).length := by simp [tot, flat, List.length_flatMap]
/-- in the midst of a union's walk: these were given, this is under way, these are left -/
structure US (W W₁ : World) (hb : Nat) (R : Nat → Prop) (hR : ∀ b, R b → b < W₁.heap.size) (U : List Tx) (J : Inv) (T₀ : Nat → Prop) (done pend : List Tx) (I : List Cu) (p : Nat) (F T : Nat → Prop) (V : World) : Prop where
  at_ : HAt (uC R W₁ hR) V hb lessA clt I p F
  zs : ∀ i ∈ I, Zc R W₁ i
  il : I.length ≤ 1048576
  pt : p + tot I ≤ 4398046511104
  eq : U = done ++ pend ++ ofS (flat I)
  inv : J done T V
  chg : Chg T₀ W V
  up : ∀ b, T b → Up T₀ W V b
  fw : ∀ b, F b → W.heap.size ≤ b
  df : ∀ b, T b → ¬ F b
  dr : ∀ b, T b → ¬ R b
theorem US.take {B : Nat} {W W₁ : World} {hb : Nat} {R : Nat → Prop} {hR : ∀ b, R b → b < W₁.heap.size} {U : List Tx} {J : Inv} {T₀ : Nat → Prop} {done : List Tx} {I I' : List Cu} {p p' : Nat} {F T : Nat → Prop} {V V' : World} {t : Tx} (fJ : Fit B J)
    (h : US W W₁ hb R hR U J T₀ done [] I p F T V) (e : ofS (flat I) = t :: ofS (flat I')) (hr : Res (uC R W₁ hR) F V hb lessA clt I' p' V') (hz : ∀ i ∈ I', Zc R W₁ i) (hi : I'.length ≤ 1048576) (hp : p' + tot I' ≤ 4398046511104) :
    US W W₁ hb R hR U J T₀ done [t] I' p' (Hp.Up F V V') T V' := by
  obtain ⟨k1, k2⟩ := hr
  have c : Chg F V V' := ⟨k2.os, k2.tape, k2.output, k2.size, k2.block⟩
  have s1 := h.chg.size
  have s2 := c.size
  refine ⟨k1, hz, hi, hp, ?_, fJ.abide h.inv (c.mono fun k hk q => h.df k q hk), ?_, fun b hb => ?_, fun b hb => ?_, fun b hb q => ?_, h.dr⟩
  · rw [h.eq, e]; simp
  · exact ⟨c.os.trans h.chg.os, c.tape.trans h.chg.tape, c.output.trans h.chg.output, Nat.le_trans s1 s2, fun i hi hn => (c.block i (by omega) fun q => by have := h.fw i q; omega).trans (h.chg.block i hi hn)⟩
  · rcases h.up b hb with q | q
    · exact .inl q
    · exact .inr ⟨q.1, by omega⟩
  · rcases hb with q | q
    · exact h.fw b q
    · omega
  · rcases q with q | q
    · exact h.df b hb q
    · have := (fJ.foot h.inv hb).2; omega
theorem US.yield {W W₁ : World} {hb : Nat} {R : Nat → Prop} {hR : ∀ b, R b → b < W₁.heap.size} {U : List Tx} {J Jx : Inv} {T₀ : Nat → Prop} {done : List Tx} {I : List Cu} {p : Nat} {F T : Nat → Prop} {V V' : World} {t : Tx} {e : Ending}
    (h : US W W₁ hb R hR U J T₀ done [t] I p F T V) (hp : RndPost J Jx (done ++ [t]) T V e V') :
    (e = .returned (.bool true) ∧ ∃ T', US W W₁ hb R hR U J T₀ (done ++ [t]) [] I p F T' V') ∨ (e = .returned (.bool false) ∧ Ended U J Jx T₀ W V') := by
  obtain ⟨T', c, u, hh⟩ := hp
  have c1 : Chg T₀ W V' := h.chg.on c h.up
  have u1 : ∀ b, T' b → Up T₀ W V' b := Up.on h.chg c h.up u
  have hkw : ∀ b, R b → V.heap[b]? = W₁.heap[b]? := h.at_.kw
  have hlt : ∀ b, R b → b < V.heap.size := fun b q => lt_of_block (hkw b q) (hR b q)
  rcases hh with ⟨rfl, hj⟩ | ⟨rfl, hj⟩
  · refine .inl ⟨rfl, T', ?_, h.zs, h.il, h.pt, by rw [h.eq]; simp, hj, c1, u1, h.fw, fun b hb q => ?_, fun b hb q => ?_⟩
    · refine h.at_.kept (fun b hb => c.block b (h.at_.lt b hb) fun q => h.df b q hb) (fun _ x => x) (fun b hb => Nat.lt_of_lt_of_le (h.at_.lt b hb) c.size) (fun b hb => ?_) h.at_.fn c.size
      exact (c.block b (hlt b hb) fun q => h.dr b q hb).trans (hkw b hb)
    · rcases u b hb with x | x
      · exact h.df b x q
      · have := h.at_.lt b q; omega
    · rcases u b hb with x | x
      · exact h.dr b x q
      · have := hlt b q; omega
  · exact .inr ⟨rfl, T', c1, u1, .inr ⟨done ++ [t], by rw [h.eq]; exact List.prefix_append _ _, hj⟩⟩
theorem US.over {W W₁ : World} {hb : Nat} {R : Nat → Prop} {hR : ∀ b, R b → b < W₁.heap.size} {U : List Tx} {J Jx : Inv} {T₀ : Nat → Prop} {done : List Tx} {p : Nat} {F T : Nat → Prop} {V : World} (h : US W W₁ hb R hR U J T₀ done [] [] p F T V) : Ended U J Jx T₀ W V :=
  ⟨T, h.chg, h.up, .inl (by have e := h.eq; have : ofS (flat []) = [] := List.eq_nil_iff_forall_not_mem.2 fun x hx => by { rw [ofS_mem] at hx; simp [flat] at hx }; rw [this] at e; simp at e; rw [e]; exact h.inv)⟩
set_option maxRecDepth 100000 in
set_option maxHeartbeats 4000000 in
theorem union1_walks {w₀ : World} {B bp : Nat} {pv : Value} {Ps : List (Value × List Tx)} (hp : PRow w₀ pv Ps B) (hbp : bp < B) (hbc : Boxed w₀ bp 23 pv) (hg : ∀ p ∈ Ps, Gives Try.prog p.1 p.2 B w₀ ∧ Rs p.2) (hz : Ps.length ≤ 1048576) (ht : (lsOf Ps).flatten.length ≤ 4398040000000) :
    Walks Try.prog 30 #[.pointer (some ⟨bp, 0, none⟩)] (ofS (lsOf Ps).flatten) B w₀ := by
  refine ⟨enters_of Try.func30 (by kernel_rfl) rfl, fun l J Jx W T₀ hW hs fJ fX hY h0 => ?_⟩
  have hT0 : ∀ b, T₀ b → B ≤ b ∧ b < W.heap.size := fun b hb => fJ.foot h0 hb
  have hcW : W.cell? ⟨bp, 0, none⟩ = some pv := (bx_below hbc hW hbp).cell
  have hlen : ∀ p ∈ Ps, p.2.length ≤ 8796093022208 := fun p hp => by
    have h1 : p.2.length ≤ (lsOf Ps).flatten.length := (List.sublist_flatten_of_mem (List.mem_map.2 ⟨p, hp, rfl⟩)).length_le
    omega
  have HBA : Hid (Calls Try.prog 31 #[pv] W fun e w' => ∃ hb, e = .returned (.pointer (some ⟨hb, 0, none⟩)) ∧ Ba W hb (lsOf Ps) w') := begin_all (hp.below hW) hW hs (fun p q => ⟨(hg p q).1, (hg p q).2, hlen p q⟩) hz
  obtain ⟨ao, cap, rfl, -⟩ := hp
  have HY := hide hY
  have FJ := hide fJ
  have FX := hide fX
  have H0 := hide h0
  clear hY fJ fX h0 hlen hbc hg
  refine (callsIn_wide (n := 8)).1 ?_
  refine callsIn_of_wp Try.func30 rfl trivial ?_ rfl
  simp only [Try.ntmps30, List.size_toArray, List.length_cons, List.length_nil, Nat.reduceAdd, Nat.reduceSub, Array.replicate_succ, Array.replicate_zero, List.push_toArray, List.append_toArray, List.nil_append, List.cons_append]
  gi_wp2_with (refine ⟨trivial, ?_⟩; gi_at_call 31; refine (callsIn_wide.2 (unhide HBA)).mono ?_; rintro e w1 ⟨hb, rfl, hba⟩; obtain ⟨R, F, hR, I, hba⟩ := hba; have HB := hide hba; clear hba)
  have HUS : Hid (∃ I p F T, US W w1 hb R hR (ofS (lsOf Ps).flatten) J T₀ [] [] I p F T w1 ∧ (ofS (flat I)).length ≤ (ofS (flat I)).length) := by
    obtain ⟨b1, b2, b3, b4, b5, b6⟩ := unhide HB
    have hI : I.length ≤ Ps.length := by
      have := congrArg List.length b3
      rw [List.length_map] at this
      rw [this]
      refine Nat.le_trans (List.length_filter_le _ _) ?_
      simp [lsOf]
    have hfl := Ba.flat (unhide HB)
    refine ⟨I, I.length, F, T₀, ⟨b1, b2, by omega, ?_, ?_, (unhide FJ).abide (unhide H0) (Chg.of_below b6), Chg.of_below b6, fun b q => .inl q, b5, fun b q r => ?_, fun b q r => ?_⟩, Nat.le_refl _⟩
    · rw [tot_flat, hfl]; omega
    · rw [hfl]; rfl
    · have := (hT0 b q).2; have := b5 b r; omega
    · have := (hT0 b q).2; have := b4 b r; omega
  clear HB HBA hcW hz ht I F
  gi_loopg [6] (ofS (lsOf Ps).flatten).length (fun kk s6 wr => Hid (∃ done I p F T, US W w1 hb R hR (ofS (lsOf Ps).flatten) J T₀ done [] I p F T wr ∧ (ofS (flat I)).length ≤ kk))
  case atStart =>
    obtain ⟨I, p, F, T, h, _⟩ := unhide HUS
    exact ⟨[], I, p, F, T, h, by have := congrArg List.length h.eq; simp at this; omega⟩
  case round =>
    obtain ⟨done, I, p, F, T, hu, hk⟩ := unhide hrel
    clear hrel HUS
    have HU := hide hu
    have hil := hu.il
    have HLN := hide (Hpc.len_any hu.at_)
    rcases I with _ | ⟨i, I⟩
    · clear hu
      gi_wp2_with (refine ⟨trivial, ?_⟩; gi_at_call 32; refine (callsIn_wide.2 (unhide HLN)).mono ?_; rintro e w2 ⟨rfl, hw1⟩; have hw2 := hw1.symm; subst hw2; clear hw1)
      go_end0
      exact ⟨⟨_, rfl⟩, US.over (unhide HU)⟩
    · have HTL := hide (take_least hu.at_ hu.zs (by simp) hu.il hu.pt)
      generalize hii : i :: I = I1 at *
      have hl0 : (0 : Int) < (I1.length : Int) := by rw [← hii]; simp
      clear hu hii
      gi_wp2_with (first | (refine ⟨trivial, ?_⟩; gi_at_call 32; refine (callsIn_wide.2 (unhide HLN)).mono ?_; rintro e w2 ⟨rfl, hw1⟩; have hw2 := hw1.symm; subst hw2; clear hw1) | (refine ⟨trivial, ?_⟩; gi_at_call 33; refine (callsIn_wide.2 (unhide HTL)).mono ?_; rintro e w3 ⟨t, I', p', rfl, ho, hres, hz', hi', hp'⟩; have hus := (unhide HU).take (unhide FJ) ho hres hz' hi' hp'; obtain ⟨fn, tmps, assign, body, hy, hRR⟩ := (unhide HY done t T w3 hus.inv (by rw [hus.eq]; exact List.prefix_append _ _) hus.chg).at 7; have HRR := hide hRR; have HUS := hide hus; have HLE := hide ho; clear ho hres hz' hi' hp' hus hRR))
      refine (unhide HRR).mono ?_
      rintro e W3 hp
      have hlen : (ofS (flat I')).length + 1 = (ofS (flat I1)).length := by rw [unhide HLE]; simp
      rcases US.yield (unhide HUS) hp with ⟨rfl, T', hu'⟩ | ⟨rfl, hE⟩
      · have HU' := hide hu'
        clear hp hu'
        gi_wp2
        gi_roundg (ofS (flat I')).length
        case rel => exact ⟨done ++ [t], I', p', _, T', unhide HU', Nat.le_refl _⟩
        case measure => omega
      · have HE := hide hE
        clear hp hE
        gi_wp2
        refine bodyPost_ret (results_none rfl _ _ _) rfl ?_
        exact ⟨⟨_, rfl⟩, unhide HE⟩
/-- streams in a row of its own -/
def PRow' (w : World) (v : Value) (Ps : List (Value × List Tx)) (B : Nat) : Prop := ∃ ao cap, v = .slice ao Ps.length cap ∧ (0 < Ps.length → ∃ g off, ao = some ⟨g, off, none⟩ ∧ B ≤ g ∧ g < w.heap.size ∧ ∀ (j : Nat) p, Ps[j]? = some p → w.cell? ⟨g, off + j, none⟩ = some p.1)
theorem infoSt : (Try.prog.info? 27).map (fun i => (i.zero, i.size, i.bytes)) = some (some (.agg #[.nilFunc]), 1, 8) := by kernel_rfl
set_option maxRecDepth 100000 in
set_option maxHeartbeats 4000000 in
theorem clone_st {w : World} {v : Value} {Ps : List (Value × List Tx)} {B : Nat} (hp : PRow w v Ps B) (h1 : ∀ p ∈ Ps, p.1.oneCell' = true) (hz : Ps.length ≤ 1048576) :
    Calls Try.prog 29 #[v] w fun e w' => ∃ v', e = .returned v' ∧ PRow' w' v' Ps w.heap.size ∧ Below w.heap.size w w' := by
  obtain ⟨ao, cap, rfl, hat⟩ := hp
  have q24 : ∀ (w : World) (a : Option Addr) (n c n' c' : Nat), (binOp .eql 23 (.slice a n c) (.slice none n' c')).run Try.prog w = .ok (.bool a.isNone) w := fun w a n c n' c' => Lib.run_eql_slice_nil w _ _ a n c n' c' Try.underlying23
  rcases ao with _ | ⟨b, off, nn⟩
  · have h0 : Ps = [] := by
      rcases Ps with _ | ⟨p, Ps⟩
      · rfl
      · obtain ⟨g, off, e, _⟩ := hat (by simp)
        cases e
    subst h0
    clear hat
    go_enter Try.func29, Try.ntmps29
    go_wp2
    go_ret
    exact ⟨_, rfl, ⟨none, 0, rfl, fun h => by simp at h⟩, Below.refl _ _⟩
  · obtain ⟨i0, hi, hz'⟩ := Option.map_eq_some_iff.1 infoSt
    simp only [Prod.mk.injEq] at hz'
    obtain ⟨hz0, hz1, hz2⟩ := hz'
    have u24 : ∀ w, Sem.run Try.prog (underlying 23) w = .ok (TypeDesc.slice 27) w := run_underlying Try.underlying23
    have HA := hide hat
    have H1 := hide h1
    clear hat h1
    go_enter Try.func29, Try.ntmps29
    go_wp2_with (at_builtin; refine wpList_append_own _ rfl _ _ 23 rfl w.heap.size 27 i0 (.agg #[.nilFunc]) 1 8 Try.underlying23 hi hz0 hz1 hz2 rfl (by decide) _ _ _ rfl (World.ownsRow_made w #[] 0 (Nat.le_refl _) (Nat.zero_le _) rfl) ⟨b, off, nn⟩ Ps.length cap (Ps.map (·.1)) rfl ?qc1 ?qc2 ?qc3 ?qc4 ?qc5 ?qc6 ?_)
    case qc1 => simp
    case qc2 =>
      intro j u hj
      have hjn := (List.getElem?_eq_some_iff.1 hj).1
      rw [List.length_map] at hjn
      obtain ⟨g, off', e, hg, hc⟩ := unhide HA (by omega)
      injection e with e
      injection e with e1 e2 e3
      subst e1 e2 e3
      rw [List.getElem?_map] at hj
      obtain ⟨p, hp, rfl⟩ := Option.map_eq_some_iff.1 hj
      rw [Addr.add_lit]
      exact Lib.cell?_alloc_some _ (hc j p hp)
    case qc3 => intro u hu; obtain ⟨x, hx, rfl⟩ := List.mem_map.1 hu; exact unhide H1 x hx
    case qc4 => unfold maxLen; omega
    case qc5 => omega
    case qc6 => simp
    intro v' w1 hown hgrow hnil
    have HO := hide (⟨hown, hgrow⟩ : _ ∧ _)
    clear hown hgrow hnil
    go_wp2
    go_ret
    obtain ⟨hown, hgrow⟩ := unhide HO
    have hb : Below w.heap.size w w1 := ((Below.refl _ w).alloc (Nat.le_refl _) _).grown hgrow (by simp) (by intro k hk; simp [Value.ownBlock] at hk; omega)
    refine ⟨v', rfl, ?_, hb⟩
    have hown : w1.ownsRow w.heap.size 27 1 v' Ps.length (Ps.map (·.1)) := by simpa using hown
    rcases hown.2 with ⟨e1, e2⟩ | ⟨g, cap', cur, e1, hr⟩
    · exact ⟨none, 0, by rw [e1, e2], fun h => by omega⟩
    · subst e1
      refine ⟨_, _, rfl, fun _ => ⟨g, 0, rfl, (own_lt hown (g := g) rfl).1, (own_lt hown (g := g) rfl).2, fun j p hj => ?_⟩⟩
      have hjl := (List.getElem?_eq_some_iff.1 hj).1
      rw [Nat.zero_add, World.ownsRow.cellAt hown j (by omega)]
      simp [hj]
theorem gives_one {P : Program} {v : Value} {L : List Tx} {B : Nat} {w : World} (h : Gives P v L B w) : v.oneCell' = true := by
  rcases h with ⟨rfl, _⟩ | ⟨_, _, rfl, _⟩ <;> rfl
set_option maxRecDepth 100000 in
set_option maxHeartbeats 4000000 in
theorem union_any {w w₀ : World} {v : Value} {Ps : List (Value × List Tx)} {B B' : Nat} (hp : PRow w v Ps B') (hB' : B' ≤ w.heap.size) (hg : ∀ p ∈ Ps, Gives Try.prog p.1 p.2 B w₀ ∧ Rs p.2) (hb : Below B w₀ w) (hB : B ≤ w.heap.size) (hz : Ps.length ≤ 1048576) (ht : (lsOf Ps).flatten.length ≤ 4398040000000) :
    Calls Try.prog 12 #[v] w fun e w' => ∃ gf lb, e = .returned (.agg #[.func (.func gf) #[] lb]) ∧ Walks Try.prog gf lb (ofS (lsOf Ps).flatten) w'.heap.size w' ∧ Below w.heap.size w w' := by
  have HC := hide (clone_st (hp.below (((Below.refl _ w).alloc (Nat.le_refl _) (.cells #[.nilFunc] 27)).mono hB')) (fun p q => gives_one (hg p q).1) hz)
  obtain ⟨ao, cap, rfl, -⟩ := hp
  have HG := hide hg
  have HB := hide hb
  clear hg hb
  go_enter Try.func12, Try.ntmps12
  go_wp2_with fail
  refine (unhide HC).mono ?_
  rintro e w1 ⟨v1, rfl, hp1, hb1⟩
  have HP := hide hp1
  obtain ⟨a1, c1, rfl, -⟩ := hp1
  rw [World.size_alloc] at hb1
  have b0 : Below w.heap.size w w1 := ((Below.refl _ w).alloc (Nat.le_refl _) (.cells #[.nilFunc] 27)).trans (hb1.mono (by omega))
  have bx0 : Boxed w1 w.heap.size 27 .nilFunc := (hb1.block _ (by omega)).trans (Boxed.new w _ _)
  have hs1 : w.heap.size + 1 ≤ w1.heap.size := by have := hb1.size; simpa using this
  have bx1 := bx0.alloc (.cells #[.slice a1 Ps.length c1] 23)
  have bp := Boxed.new w1 23 (.slice a1 Ps.length c1)
  have k3 := bx1.cell
  have k4 := bx1.frozen
  obtain ⟨W, hW⟩ : ∃ W, W = (w1.alloc (.cells #[.slice a1 Ps.length c1] 23)).setCell ⟨w.heap.size, 0, none⟩ (.func (.func 30) #[] #[.pointer (some ⟨w1.heap.size, 0, none⟩)]) := ⟨_, rfl⟩
  have q3 := bx1.set (.func (.func 30) #[] #[.pointer (some ⟨w1.heap.size, 0, none⟩)])
  have q4 := bp.other (B' := w.heap.size) (by omega) (.func (.func 30) #[] #[.pointer (some ⟨w1.heap.size, 0, none⟩)])
  rw [← hW] at q3 q4
  have hbel : Below w.heap.size w W := by
    rw [hW]
    exact (b0.alloc (by omega) _).setCell (p := ⟨w.heap.size, 0, none⟩) (Nat.le_refl _) _
  have sW : W.heap.size = w1.heap.size + 1 := by rw [hW]; simp [World.setCell]
  have hpW : PRow W (.slice a1 Ps.length c1) Ps W.heap.size := by
    obtain ⟨ao', cap', e, hat⟩ := unhide HP
    refine ⟨ao', cap', e, fun h0 => ?_⟩
    obtain ⟨g, off, e1, hgn', hg, hc⟩ := hat h0
    have hgn : g ≠ w.heap.size := by rw [World.size_alloc] at hgn'; omega
    refine ⟨g, off, e1, by omega, fun j p hj => ?_⟩
    rw [hW, World.cell?_of_block (w := w1) ((Below.heap_setCell _ _ _ _ (by show g ≠ w.heap.size; exact hgn)).trans (Below.heap_alloc _ _ _ hg))]
    exact hc j p hj
  have HF := hide (union1_walks hpW q4.lt q4 (fun p q => ⟨(unhide HG p q).1.later ((unhide HB).trans (hbel.mono hB)) (Nat.le_trans hB hbel.size), (unhide HG p q).2⟩) hz ht)
  have HQ := hide (⟨q3, hbel⟩ : _ ∧ _)
  clear HP b0 bx0 bx1 bp q3 q4 hbel sW hpW hb1
  go_wp2
  rw [← hW]
  refine bodyPost_ret (results_stream rfl (g := w.heap.size) rfl (unhide HQ).1) rfl ?_
  exact ⟨_, _, rfl, unhide HF, (unhide HQ).2⟩
end Sm
end Go.Proofs.Ytamlfmohalkemaa
