/- Layer 8: one stream held against another: Minus, Common. -/
import Derived.Laws.EntriesVeiled
import Derived.Test.YtamlfmohalkemaaZk
namespace Go.Proofs.Ytamlfmohalkemaa
open Go.RowKit Go.Shelf
namespace Sm
attribute [local go_sem] Oper.semAt_some

def mem (R : List Tx) (x : Tx) : Bool := R.any fun z => z.toList == x.toList
theorem mem_iff {R : List Tx} {x : Tx} : mem R x = true ↔ x ∈ R := by
  unfold mem
  rw [List.any_eq_true]
  constructor
  · rintro ⟨z, hz, e⟩
    rw [tx_beq] at e
    rw [← e]; exact hz
  · intro h
    exact ⟨x, h, tx_beq.2 rfl⟩
/-- what is passed on where one is held against another -/
def agn (R : List Tx) (both : Bool) (L : List Tx) : List Tx := L.filter fun x => mem R x == both
theorem agn_snoc (R : List Tx) (both : Bool) (x : Tx) (pre : List Tx) : agn R both (pre ++ [x]) = if mem R x == both then agn R both pre ++ [x] else agn R both pre := by
  unfold agn
  rw [List.filter_append]
  cases h : mem R x == both <;> simp [h]
theorem agn_pre {R : List Tx} {both : Bool} {A L : List Tx} (h : A <+: L) : agn R both A <+: agn R both L := h.filter _
/-- what is left of R when pre has come -/
def Left (R Q pre : List Tx) : Prop := ∃ D, R = D ++ Q ∧ ∀ d ∈ D, ∃ p ∈ pre, lt d p = true
theorem drp_split (x : Tx) : ∀ Q : List Tx, ∃ D, Q = D ++ drp x Q ∧ ∀ d ∈ D, lt d x = true
  | [] => ⟨[], rfl, by simp⟩
  | q :: Q => by
    rw [drp_cons]
    cases h : lt q x with
    | false => exact ⟨[], rfl, by simp⟩
    | true =>
      obtain ⟨D, e, hD⟩ := drp_split x Q
      refine ⟨q :: D, ?_, fun d hd => ?_⟩
      · rw [if_pos rfl, List.cons_append, ← e]
      · rcases List.mem_cons.1 hd with e | e
        · rw [e]; exact h
        · exact hD d e
theorem drp_len (x : Tx) (Q : List Tx) : (drp x Q).length ≤ Q.length := by
  obtain ⟨D, e, _⟩ := drp_split x Q
  have := congrArg List.length e
  simp at this
  omega
theorem drp_head {x z : Tx} {Q S : List Tx} (h : drp x Q = z :: S) : lt z x = false := by
  have := List.head?_dropWhile_not (fun y => lt y x) Q
  rw [show Q.dropWhile (fun y => lt y x) = z :: S from h] at this
  simpa using this
theorem Left.step {R Q pre : List Tx} {x : Tx} (hR : Rs R) (hp : Rs (pre ++ [x])) (h : Left R Q pre) : Left R (drp x Q) (pre ++ [x]) ∧ (mem R x = match drp x Q with | [] => false | z :: _ => (z.toList == x.toList)) := by
  obtain ⟨D, e, hD⟩ := h
  obtain ⟨E, e2, hE⟩ := drp_split x Q
  have hlt : ∀ d ∈ D ++ E, lt d x = true := fun d hd => by
    rcases List.mem_append.1 hd with hd | hd
    · obtain ⟨p, hp1, hp2⟩ := hD d hd
      exact lt_tr hp2 ((rs_app.1 hp).2.2 p hp1 x (by simp))
    · exact hE d hd
  have eR : R = (D ++ E) ++ drp x Q := by rw [List.append_assoc, ← e2]; exact e
  refine ⟨⟨D ++ E, eR, fun d hd => ⟨x, by simp, hlt d hd⟩⟩, ?_⟩
  have hm : x ∈ R ↔ x ∈ drp x Q := by
    rw [eR, List.mem_append]
    constructor
    · rintro (h | h)
      · have := hlt x h; rw [lt_irr] at this; cases this
      · exact h
    · exact .inr
  rw [Bool.eq_iff_iff, mem_iff, hm]
  cases hd : drp x Q with
  | nil => simp
  | cons z S =>
    simp only
    rw [tx_beq]
    constructor
    · intro h
      rcases List.mem_cons.1 h with e | e
      · exact e.symm
      · rw [eR, hd] at hR
        have := (rs_cons.1 (rs_app.1 hR).2.1).1 x e
        rw [drp_head hd] at this; cases this
    · intro h; rw [h]; simp
theorem Left.len {R Q pre : List Tx} (h : Left R Q pre) : Q.length ≤ R.length := by
  obtain ⟨D, e, _⟩ := h
  rw [e]; simp

/-- what against has: the loop that is served, the rest of the other stream, its row -/
structure AM (yb rb l : Nat) (sl : Value) (R : List Tx) (pre : List Tx) (W : World) : Prop where
  yld : Boxed W yb 34 (.func (.yield l) #[] #[])
  rst : ∃ a c Q, Boxed W rb 51 (.slice a Q.length c) ∧ CRow W (.slice a Q.length c) Q (fun g => sl.ownBlock = some g) ∧ Left R Q pre
  row : ∀ g, sl.ownBlock = some g → g < W.heap.size
def AO (yb rb : Nat) (sl : Value) (b : Nat) : Prop := b = yb ∨ b = rb ∨ sl.ownBlock = some b
theorem lt_of_block {w w' : World} {g : Nat} (h : w'.heap[g]? = w.heap[g]?) (hg : g < w.heap.size) : g < w'.heap.size := by
  rcases Nat.lt_or_ge g w'.heap.size with k | k
  · exact k
  · rw [Array.getElem?_eq_none k, Array.getElem?_eq_getElem hg] at h
    cases h
theorem AM.of {yb rb l B : Nat} {sl : Value} {R : List Tx} (h1 : B ≤ yb) (h2 : B ≤ rb) (h3 : ∀ g, sl.ownBlock = some g → B ≤ g) : Of B (AO yb rb sl) (AM yb rb l sl R) := by
  refine ⟨fun {pre W b} h hb => ?_, fun {pre W W'} h k => ?_⟩
  · obtain ⟨a, c, Q, q1, q2, q3⟩ := h.rst
    rcases hb with e | e | e
    · subst e; exact ⟨h1, h.yld.lt⟩
    · subst e; exact ⟨h2, q1.lt⟩
    · exact ⟨h3 b e, h.row b e⟩
  · obtain ⟨a, c, Q, q1, q2, q3⟩ := h.rst
    exact ⟨(k _ (.inl rfl)).trans h.yld, ⟨a, c, Q, (k _ (.inr (.inl rfl))).trans q1, q2.kept fun g hg => k g (.inr (.inr hg)), q3⟩, fun g hg => lt_of_block (k g (.inr (.inr hg))) (h.row g hg)⟩
/-- one text more has come: the rest is cut -/
theorem AM.next {yb rb l : Nat} {sl : Value} {R Q pre : List Tx} {x : Tx} {W : World} {a a' : Option Addr} {c c' : Nat} (hne : yb ≠ rb) (hnr : sl.ownBlock ≠ some rb) (h1 : Boxed W yb 34 (.func (.yield l) #[] #[])) (h2 : Boxed W rb 51 (.slice a Q.length c))
    (h3 : ∀ g, sl.ownBlock = some g → g < W.heap.size) (h4 : CRow W (.slice a' (drp x Q).length c') (drp x Q) (fun g => sl.ownBlock = some g)) (h5 : Left R (drp x Q) (pre ++ [x])) : AM yb rb l sl R (pre ++ [x]) (W.setCell ⟨rb, 0, none⟩ (.slice a' (drp x Q).length c')) := by
  refine ⟨h1.other hne _, ⟨a', c', drp x Q, h2.set _, h4.kept fun g hg => Below.heap_setCell _ _ _ _ (fun e => hnr (by have e : g = rb := e; rw [← e]; exact hg)), h5⟩, fun g hg => ?_⟩
  simpa [World.setCell] using h3 g hg

/-- a text that is not passed on -/
theorem skip_wrap {J : Inv} {f : List Tx → List Tx} {O : Nat → Prop} {M : List Tx → World → Prop} {pre : List Tx} {x : Tx} {T T₁ : Nat → Prop} {W₀ W : World} (c0 : Chg T W₀ W) (eT : ∀ b, T b ↔ T₁ b ∨ O b) (hd : ∀ b, O b → ¬ T₁ b) (hM : M (pre ++ [x]) W) (hf : f (pre ++ [x]) = f pre) (hj : J (f pre) T₁ W) :
    ∃ T', Chg T W₀ W ∧ (∀ b, T' b → Up T W₀ W b) ∧ Wrap J f O M (pre ++ [x]) T' W := ⟨T, c0, fun b hb => .inl hb, T₁, by rw [hf]; exact hj, eT, hd, hM⟩
set_option maxRecDepth 100000 in
set_option maxHeartbeats 4000000 in
theorem against1_walks {w₀ : World} {B bt bs bb : Nat} {tv sv : Value} {both : Bool} {R L : List Tx} (ht : Gives Try.prog tv R B w₀) (hs : Gives Try.prog sv L B w₀) (hR : Rs R) (hL : Rs L) (hz : R.length ≤ 8796093022208)
    (hbt : bt < B) (hbtc : Boxed w₀ bt 27 tv) (hbs : bs < B) (hbsc : Boxed w₀ bs 27 sv) (hbb : bb < B) (hbbc : Boxed w₀ bb 4 (.bool both)) :
    Walks Try.prog 47 #[.pointer (some ⟨bt, 0, none⟩), .pointer (some ⟨bs, 0, none⟩), .pointer (some ⟨bb, 0, none⟩)] (agn R both L) B w₀ := by
  refine ⟨enters_of Try.func47 (by kernel_rfl) rfl, fun l J Jx W₀ T₀ hW hsz fJ fX hY h0 => ?_⟩
  have hT0 : ∀ b, T₀ b → B ≤ b ∧ b < W₀.heap.size := fun b hb => fJ.foot h0 hb
  have HG := hide hs
  have HGt := hide ht
  have HY := hide hY
  have FJ := hide fJ
  have FX := hide fX
  have H0 := hide h0
  have HW := hide hW
  have HT := hide hT0
  have HRL := hide (⟨hR, hL⟩ : _ ∧ _)
  have hc1 := ((bx_below hbtc hW hbt).alloc (.cells #[.func (.yield l) #[] #[]] 34)).cell
  clear hs ht hY fJ fX h0 hW hT0 hR hL
  refine (callsIn_wide (n := 8)).1 ?_
  refine callsIn_of_wp_marks Try.func47 rfl trivial ?_ rfl
  simp only [Try.ntmps47, List.size_toArray, List.length_cons, List.length_nil, Nat.reduceAdd, Nat.reduceSub, Array.replicate_succ, Array.replicate_zero, List.push_toArray, List.append_toArray, List.nil_append, List.cons_append]
  have b0 : Below W₀.heap.size W₀ (W₀.alloc (.cells #[.func (.yield l) #[] #[]] 34)) := (Below.refl _ W₀).alloc (Nat.le_refl _) _
  have hbg := begin_any (unhide HGt) ((unhide HW).trans (b0.mono hsz)) (by simp; omega) hz
  have HBG := hide hbg
  clear hbg
  gi_wp2_with (first | (refine ⟨trivial, ?_⟩; gi_at_call 42; refine (callsIn_wide.2 (unhide HBG)).mono ?_; rintro e w1 ⟨sl, rfl, ho1, hn1, hb1⟩; obtain ⟨a1, c1, rfl⟩ := ho1.slice; have HO1 := hide (⟨ho1, hn1, hb1⟩ : _ ∧ _ ∧ _); have hc2 := ((bx_below hbsc (((unhide HW).trans (b0.mono hsz)).trans (hb1.mono (by simp; omega))) hbs).alloc (.cells #[.slice a1 R.length c1] 51)).cell; clear ho1 hn1 hb1) | (refine ⟨trivial, ?_⟩; gi_at_call 19; refine (callsIn_wide.2 (all_any (unhide HG) _)).mono ?_; rintro e w' ⟨gf, lb, rfl, hwk, rfl⟩))
  have HWk := hide hwk
  clear hwk hc1 hc2 HBG
  refine gen_in ?_
  intro V hV
  obtain ⟨ho1, hn1, hb1⟩ := unhide HO1
  obtain ⟨sl, hsl⟩ : ∃ sl, sl = Value.slice a1 R.length c1 := ⟨_, rfl⟩
  have s1 : W₀.heap.size + 1 ≤ w1.heap.size := by have := hb1.size; simpa using this
  have b1 : Below W₀.heap.size W₀ w1 := b0.trans (hb1.mono (by simp))
  have bY1 : Boxed w1 W₀.heap.size 34 (.func (.yield l) #[] #[]) := bx_below (Boxed.new W₀ _ _) hb1 (by simp)
  have bY : Boxed V W₀.heap.size 34 (.func (.yield l) #[] #[]) := by rw [hV]; exact (bY1.alloc _).alloc _
  have bR : Boxed V w1.heap.size 51 (.slice a1 R.length c1) := by rw [hV]; exact (Boxed.new w1 _ _).alloc _
  have b1V : Below w1.heap.size w1 V := by rw [hV]; (repeat (first | exact Below.refl _ _ | refine Below.drew ?_ | refine Below.alloc ?_ (by first | (simp; done) | (simp; omega)) _ | refine Below.setCell ?_ (by first | (simp; done) | (simp; omega)) _))
  have hVw : Below W₀.heap.size W₀ V := b1.trans (b1V.mono (by omega))
  have hVs : V.heap.size = w1.heap.size + 2 := by rw [hV]; simp
  clear hV
  have hrow : ∀ g, sl.ownBlock = some g → W₀.heap.size + 1 + 1 ≤ g ∧ g < w1.heap.size := fun g hg => by
    rw [hsl] at hg
    exact ⟨by have := hn1 g hg; simpa using this, (own_lt ho1 hg).2⟩
  have hVB : Below B w₀ V := (unhide HW).trans (hVw.mono hsz)
  have cr0 : CRow V (.slice a1 R.length c1) R (fun g => sl.ownBlock = some g) := by
    rw [hsl]
    exact (ho1.crow).below b1V
  have am0 : AM W₀.heap.size w1.heap.size l sl R [] V := ⟨bY, ⟨a1, c1, R, bR, cr0, [], rfl, by simp⟩, fun g hg => by have := (hrow g hg).2; omega⟩
  have oM : Of B (AO W₀.heap.size w1.heap.size sl) (AM W₀.heap.size w1.heap.size l sl R) := AM.of hsz (by omega) (fun g hg => by have := (hrow g hg).1; omega)
  have hO : ∀ b, AO W₀.heap.size w1.heap.size sl b → W₀.heap.size ≤ b ∧ b < V.heap.size := fun b hb => by
    rcases hb with e | e | e
    · omega
    · omega
    · have := hrow b e; omega
  have hne : W₀.heap.size ≠ w1.heap.size := by omega
  have hnr : sl.ownBlock ≠ some w1.heap.size := fun e => by have := (hrow _ e).2; omega
  have fW := Wrap.fit (f := agn R both) (unhide FJ) oM
  have fWx := Wrap.fit (f := agn R both) (unhide FX) oM
  clear HO1 ho1 hn1 hb1 b0 bY1 bY bR b1V b1 cr0 hrow hsl
  refine range_law (unhide HWk) rfl hVB (by omega) rfl (Wrap J (agn R both) (AO W₀.heap.size w1.heap.size sl) (AM W₀.heap.size w1.heap.size l sl R))
    (fun c s T W => c = .ret ∧ Wrap Jx (agn R both) (AO W₀.heap.size w1.heap.size sl) (AM W₀.heap.size w1.heap.size l sl R) s T W) fW (fun c => and_fit _ fWx)
    (fun b => T₀ b ∨ AO W₀.heap.size w1.heap.size sl b) ⟨T₀, (unhide FJ).abide (unhide H0) (Chg.of_below hVw), fun b => Iff.rfl, fun b hb q => by have := (unhide HT b q).2; have := (hO b hb).1; omega, am0⟩
    (fun x => { tmps := #[.func (.yield l) #[] #[], .pointer (some ⟨bt, 0, none⟩), .pointer (some ⟨bs, 0, none⟩), .pointer (some ⟨bb, 0, none⟩), .pointer (some ⟨W₀.heap.size, 0, none⟩), .pointer (some ⟨w1.heap.size, 0, none⟩), .string x, undef, .agg #[tv], .slice a1 R.length c1, .agg #[sv], .func (.func gf) #[] lb, .string x, undef, undef, undef, undef, undef, undef, undef, undef, undef, undef, undef, undef, undef, undef, undef, undef, undef, undef, undef, undef, undef, undef], defers := [] }) ?assign ?body ?done ?stop
  case assign =>
    intro l x W K hK
    gi_wp2
    exact hK
  case body =>
    rintro l' pre x T W ⟨T₁, hJ, eT, hd, hM⟩ hpre hch
    have hcS := start_chg hVw hO hch
    have hWB : Below B w₀ W := (unhide HW).trans (hcS.below hsz fun b hb => (unhide HT b hb).1)
    have cB := (bx_below hbbc hWB hbb).cell
    have cY := hM.yld.cell
    obtain ⟨a, c, Q, q1, q2, q3⟩ := hM.rst
    have cR := q1.cell
    have fR := q1.frozen
    have hQz : Q.length ≤ 8796093022208 := Nat.le_trans q3.len hz
    have hpr : Rs (pre ++ [x]) := by
      obtain ⟨r, e⟩ := hpre
      have := (unhide HRL).2
      rw [← e] at this
      exact (rs_app.1 this).1
    obtain ⟨st1, st2⟩ := q3.step (unhide HRL).1 hpr
    have HFR := hide (from_cur x q2 hQz)
    -- behind the cut
    have nx : ∀ (a9 : Option Addr) (c9 : Nat), CRow W (.slice a9 (drp x Q).length c9) (drp x Q) (fun g => sl.ownBlock = some g) → ∃ W2, W2 = W.setCell ⟨w1.heap.size, 0, none⟩ (.slice a9 (drp x Q).length c9) ∧ Chg T W W2 ∧ J (agn R both pre) T₁ W2 ∧ AM W₀.heap.size w1.heap.size l sl R (pre ++ [x]) W2 ∧ Chg T₀ W₀ W2 ∧ Boxed W2 w1.heap.size 51 (.slice a9 (drp x Q).length c9) ∧ W2.cell? ⟨bb, 0, none⟩ = some (.bool both) ∧ (∀ z S, drp x Q = z :: S → ∃ g off, a9 = some ⟨g, off, none⟩ ∧ W2.cell? ⟨g, off, none⟩ = some (.string z)) := fun a9 c9 h9 => by
      refine ⟨_, rfl, (Chg.refl T W).setCell (.inl ((eT _).2 (.inr (.inr (.inl rfl))))) _, (unhide FJ).abide hJ ((Chg.refl _ W).setCell (.inl (hd _ (.inr (.inl rfl)))) _), AM.next hne hnr hM.yld q1 hM.row h9 st1, ?_, q1.set _, ?_, fun z S hzS => ?_⟩
      · exact hcS.on ((Chg.refl (fun b => b = w1.heap.size) W).setCell (.inl rfl) _) fun i hi => .inr ⟨by have : i = w1.heap.size := hi; omega, by have : i = w1.heap.size := hi; have := hch.size; omega⟩
      · rw [World.cell?_of_block (w := W) (Below.heap_setCell _ _ _ _ (by show bb ≠ w1.heap.size; omega))]
        exact (bx_below hbbc hWB hbb).cell
      · obtain ⟨ao, c', e, _, hat⟩ := h9
        injection e with e1 e2 e3
        obtain ⟨g, off, e4, e5, e6, e7⟩ := hat (by rw [hzS]; simp)
        refine ⟨g, off, by rw [e1, e4], ?_⟩
        rw [World.cell?_of_block (w := W) (Below.heap_setCell _ _ _ _ (by intro e; have e : g = w1.heap.size := e; rw [e] at e5; exact hnr e5))]
        exact e7 0 z (by rw [hzS]; rfl)
    have NX := hide nx
    have HX := hide (⟨eT, hd, hpre, oM, fW, fWx⟩ : _ ∧ _ ∧ _ ∧ _ ∧ _ ∧ _)
    clear nx hJ eT hd hM hpre hch hcS hWB q1 q2 q3 hpr st1 fW fWx oM am0
    have hDz : (drp x Q).length ≤ 8796093022208 := Nat.le_trans (drp_len x Q) hQz
    generalize drp x Q = Dq at HFR NX st2 hDz
    rcases Dq with _ | ⟨z, S⟩
    · simp only [List.length_nil] at HFR NX st2
      cases both with
      | false =>
        have hf : agn R false (pre ++ [x]) = agn R false pre ++ [x] := by rw [agn_snoc, st2]; rfl
        have Hf := hide hf
        clear hf st2
        gi_wp2_with (refine ⟨trivial, ?_⟩; gi_at_call 48; refine (CallsIn.inRound l' (callsIn_wide.2 (unhide HFR))).mono ?_; rintro e w9 ⟨a9, c9, rfl, hcr9, rfl⟩; obtain ⟨W2, rfl, hg2, hj2, am2, hc2, bR2, cB2, hh2⟩ := unhide NX a9 c9 hcr9; obtain ⟨eT, hd, hpre, oM, -, -⟩ := unhide HX; obtain ⟨fn, tmps, assign, body, hy, hR⟩ := (unhide HY _ x T₁ _ hj2 (by rw [← unhide Hf]; exact agn_pre hpre) hc2).at 5; have HR := hide hR; have HO := hide (fun e W' hp => Wrap.yield (J := J) (Jx := Jx) oM (e := e) (W' := W') hg2 eT hd am2 (unhide Hf) hp); have k1 := am2.yld.cell; have k2 := bR2.cell; have k3 := cB2; clear hg2 hj2 am2 hc2 bR2 cB2 hh2 eT hd hpre oM hcr9 hR)
        refine RoundIn.mono (F := Fence.wide.inRound l') (unhide HR) ?_
        rintro e W3 hp
        rcases unhide HO e W3 hp with ⟨rfl, hF⟩ | ⟨rfl, hF⟩
        · have HF := hide hF
          clear hp hF
          gi_wp2
          exact unhide HF
        · have HF := hide hF
          clear hp hF
          gi_wp2
          obtain ⟨T', x1, x2, x3⟩ := unhide HF
          exact ⟨T', x1, x2, rfl, x3⟩
      | true =>
        have hf : agn R true (pre ++ [x]) = agn R true pre := by rw [agn_snoc, st2]; rfl
        have Hf := hide hf
        clear hf st2
        gi_wp2_with (refine ⟨trivial, ?_⟩; gi_at_call 48; refine (CallsIn.inRound l' (callsIn_wide.2 (unhide HFR))).mono ?_; rintro e w9 ⟨a9, c9, rfl, hcr9, rfl⟩; obtain ⟨W2, rfl, hg2, hj2, am2, hc2, bR2, cB2, hh2⟩ := unhide NX a9 c9 hcr9; obtain ⟨eT, hd, hpre, oM, -, -⟩ := unhide HX; have HF := hide (skip_wrap (J := J) hg2 eT hd am2 (unhide Hf) hj2); have k1 := am2.yld.cell; have k2 := bR2.cell; have k3 := cB2; clear hg2 hj2 am2 hc2 bR2 cB2 hh2 eT hd hpre oM hcr9)
        refine ⟨fun _ h => (by cases h), ?_⟩
        gi_wp2
        exact unhide HF
    · simp only [List.length_cons] at HFR NX st2
      have hSz : S.length + 1 ≤ 8796093022208 := by simpa using hDz
      clear hDz
      cases hzx : (z.toList == x.toList) with
      | false =>
        rw [hzx] at st2
        cases both with
        | false =>
          have hf : agn R false (pre ++ [x]) = agn R false pre ++ [x] := by rw [agn_snoc, st2]; rfl
          have Hf := hide hf
          clear hf st2
          gi_wp2_with (refine ⟨trivial, ?_⟩; gi_at_call 48; refine (CallsIn.inRound l' (callsIn_wide.2 (unhide HFR))).mono ?_; rintro e w9 ⟨a9, c9, rfl, hcr9, rfl⟩; obtain ⟨W2, rfl, hg2, hj2, am2, hc2, bR2, cB2, hh2⟩ := unhide NX a9 c9 hcr9; obtain ⟨eT, hd, hpre, oM, -, -⟩ := unhide HX; obtain ⟨g9, o9, rfl, k4⟩ := hh2 z S rfl; obtain ⟨fn, tmps, assign, body, hy, hR⟩ := (unhide HY _ x T₁ _ hj2 (by rw [← unhide Hf]; exact agn_pre hpre) hc2).at 5; have HR := hide hR; have HO := hide (fun e W' hp => Wrap.yield (J := J) (Jx := Jx) oM (e := e) (W' := W') hg2 eT hd am2 (unhide Hf) hp); have k1 := am2.yld.cell; have k2 := bR2.cell; have k3 := cB2; clear hg2 hj2 am2 hc2 bR2 cB2 hh2 eT hd hpre oM hcr9 hR)
          refine RoundIn.mono (F := Fence.wide.inRound l') (unhide HR) ?_
          rintro e W3 hp
          rcases unhide HO e W3 hp with ⟨rfl, hF⟩ | ⟨rfl, hF⟩
          · have HF := hide hF
            clear hp hF
            gi_wp2
            exact unhide HF
          · have HF := hide hF
            clear hp hF
            gi_wp2
            obtain ⟨T', x1, x2, x3⟩ := unhide HF
            exact ⟨T', x1, x2, rfl, x3⟩
        | true =>
          have hf : agn R true (pre ++ [x]) = agn R true pre := by rw [agn_snoc, st2]; rfl
          have Hf := hide hf
          clear hf st2
          gi_wp2_with (refine ⟨trivial, ?_⟩; gi_at_call 48; refine (CallsIn.inRound l' (callsIn_wide.2 (unhide HFR))).mono ?_; rintro e w9 ⟨a9, c9, rfl, hcr9, rfl⟩; obtain ⟨W2, rfl, hg2, hj2, am2, hc2, bR2, cB2, hh2⟩ := unhide NX a9 c9 hcr9; obtain ⟨eT, hd, hpre, oM, -, -⟩ := unhide HX; obtain ⟨g9, o9, rfl, k4⟩ := hh2 z S rfl; have HF := hide (skip_wrap (J := J) hg2 eT hd am2 (unhide Hf) hj2); have k1 := am2.yld.cell; have k2 := bR2.cell; have k3 := cB2; clear hg2 hj2 am2 hc2 bR2 cB2 hh2 eT hd hpre oM hcr9)
          refine ⟨fun _ h => (by cases h), ?_⟩
          gi_wp2
          exact unhide HF
      | true =>
        rw [hzx] at st2
        cases both with
        | false =>
          have hf : agn R false (pre ++ [x]) = agn R false pre := by rw [agn_snoc, st2]; rfl
          have Hf := hide hf
          clear hf st2
          gi_wp2_with (refine ⟨trivial, ?_⟩; gi_at_call 48; refine (CallsIn.inRound l' (callsIn_wide.2 (unhide HFR))).mono ?_; rintro e w9 ⟨a9, c9, rfl, hcr9, rfl⟩; obtain ⟨W2, rfl, hg2, hj2, am2, hc2, bR2, cB2, hh2⟩ := unhide NX a9 c9 hcr9; obtain ⟨eT, hd, hpre, oM, -, -⟩ := unhide HX; obtain ⟨g9, o9, rfl, k4⟩ := hh2 z S rfl; have HF := hide (skip_wrap (J := J) hg2 eT hd am2 (unhide Hf) hj2); have k1 := am2.yld.cell; have k2 := bR2.cell; have k3 := cB2; clear hg2 hj2 am2 hc2 bR2 cB2 hh2 eT hd hpre oM hcr9)
          refine ⟨fun _ h => (by cases h), ?_⟩
          gi_wp2
          exact unhide HF
        | true =>
          have hf : agn R true (pre ++ [x]) = agn R true pre ++ [x] := by rw [agn_snoc, st2]; rfl
          have Hf := hide hf
          clear hf st2
          gi_wp2_with (refine ⟨trivial, ?_⟩; gi_at_call 48; refine (CallsIn.inRound l' (callsIn_wide.2 (unhide HFR))).mono ?_; rintro e w9 ⟨a9, c9, rfl, hcr9, rfl⟩; obtain ⟨W2, rfl, hg2, hj2, am2, hc2, bR2, cB2, hh2⟩ := unhide NX a9 c9 hcr9; obtain ⟨eT, hd, hpre, oM, -, -⟩ := unhide HX; obtain ⟨g9, o9, rfl, k4⟩ := hh2 z S rfl; obtain ⟨fn, tmps, assign, body, hy, hR⟩ := (unhide HY _ x T₁ _ hj2 (by rw [← unhide Hf]; exact agn_pre hpre) hc2).at 5; have HR := hide hR; have HO := hide (fun e W' hp => Wrap.yield (J := J) (Jx := Jx) oM (e := e) (W' := W') hg2 eT hd am2 (unhide Hf) hp); have k1 := am2.yld.cell; have k2 := bR2.cell; have k3 := cB2; clear hg2 hj2 am2 hc2 bR2 cB2 hh2 eT hd hpre oM hcr9 hR)
          refine RoundIn.mono (F := Fence.wide.inRound l') (unhide HR) ?_
          rintro e W3 hp
          rcases unhide HO e W3 hp with ⟨rfl, hF⟩ | ⟨rfl, hF⟩
          · have HF := hide hF
            clear hp hF
            gi_wp2
            exact unhide HF
          · have HF := hide hF
            clear hp hF
            gi_wp2
            obtain ⟨T', x1, x2, x3⟩ := unhide HF
            exact ⟨T', x1, x2, rfl, x3⟩
  case done =>
    rintro D T W hD hTD hI hch hup hK
    obtain ⟨T', x1, x2, x3⟩ := Wrap.over (o := .deferred none) (unhide FJ) hI hVw hO hch hup hD hTD
    have HF : Hid (Ended (agn R both L) J Jx T₀ W₀ (W.putObj D (.deferred none))) := ⟨T', x1, x2, .inl x3⟩
    clear x1 x2 x3 hI
    gi_wp2
    refine ⟨by simp, .inl ⟨_, _, rfl, run_takeDeferred hK, ?_⟩⟩
    exact ⟨_, results_none rfl _ _ _, ⟨_, rfl⟩, unhide HF⟩
  case stop =>
    rintro D c pre T W hD hTD hpre ⟨rfl, hI⟩ hch hup hK
    obtain ⟨T', x1, x2, x3⟩ := Wrap.over (o := .deferred none) (unhide FX) hI hVw hO hch hup hD hTD
    have HF : Hid (Ended (agn R both L) J Jx T₀ W₀ (W.putObj D (.deferred none))) := ⟨T', x1, x2, .inr ⟨_, agn_pre hpre, x3⟩⟩
    clear x1 x2 x3 hI
    gi_wp2
    refine ⟨by simp, .inl ⟨_, _, rfl, run_takeDeferred hK, ?_⟩⟩
    exact ⟨_, results_none rfl _ _ _, ⟨_, rfl⟩, unhide HF⟩

set_option maxRecDepth 100000 in
set_option maxHeartbeats 1000000 in
theorem against_any (w : World) (sv tv : Value) (both : Bool) :
    Calls Try.prog 36 #[.agg #[sv], .agg #[tv], .bool both] w fun e w' => e = .returned (.agg #[.func (.func 47) #[] #[.pointer (some ⟨w.heap.size + 1, 0, none⟩), .pointer (some ⟨w.heap.size, 0, none⟩), .pointer (some ⟨w.heap.size + 1 + 1, 0, none⟩)]]) ∧ Boxed w' w.heap.size 27 sv ∧ Boxed w' (w.heap.size + 1) 27 tv ∧ Boxed w' (w.heap.size + 1 + 1) 4 (.bool both) ∧ Below w.heap.size w w' := by
  go_enter Try.func36, Try.ntmps36
  go_wp2
  refine gen_post ?_
  intro V hV
  have b1 : Boxed V w.heap.size 27 sv := by rw [hV]; exact (((Boxed.new w _ _).alloc _).alloc _).alloc _
  have b2 : Boxed V (w.heap.size + 1) 27 tv := by
    have := ((Boxed.new (w.alloc (.cells #[sv] 27)) 27 tv).alloc (.cells #[.bool both] 4)).alloc (.cells #[.func (.func 47) #[] #[.pointer (some ⟨w.heap.size + 1, 0, none⟩), .pointer (some ⟨w.heap.size, 0, none⟩), .pointer (some ⟨w.heap.size + 1 + 1, 0, none⟩)]] 27)
    rw [World.size_alloc] at this
    rw [hV]; exact this
  have b3 : Boxed V (w.heap.size + 1 + 1) 4 (.bool both) := by
    have := (Boxed.new ((w.alloc (.cells #[sv] 27)).alloc (.cells #[tv] 27)) 4 (.bool both)).alloc (.cells #[.func (.func 47) #[] #[.pointer (some ⟨w.heap.size + 1, 0, none⟩), .pointer (some ⟨w.heap.size, 0, none⟩), .pointer (some ⟨w.heap.size + 1 + 1, 0, none⟩)]] 27)
    rw [World.size_alloc, World.size_alloc] at this
    rw [hV]; exact this
  have b4 : Boxed V (w.heap.size + 1 + 1 + 1) 27 (.func (.func 47) #[] #[.pointer (some ⟨w.heap.size + 1, 0, none⟩), .pointer (some ⟨w.heap.size, 0, none⟩), .pointer (some ⟨w.heap.size + 1 + 1, 0, none⟩)]) := by
    have := Boxed.new (((w.alloc (.cells #[sv] 27)).alloc (.cells #[tv] 27)).alloc (.cells #[.bool both] 4)) 27 (.func (.func 47) #[] #[.pointer (some ⟨w.heap.size + 1, 0, none⟩), .pointer (some ⟨w.heap.size, 0, none⟩), .pointer (some ⟨w.heap.size + 1 + 1, 0, none⟩)])
    rw [World.size_alloc, World.size_alloc, World.size_alloc] at this
    rw [hV]; exact this
  have bV : Below w.heap.size w V := by rw [hV]; (repeat (first | exact Below.refl _ _ | refine Below.drew ?_ | refine Below.alloc ?_ (by first | (simp; done) | (simp; omega)) _ | refine Below.setCell ?_ (by first | (simp; done) | (simp; omega)) _))
  clear hV
  refine bodyPost_ret (results_stream rfl (g := w.heap.size + 1 + 1 + 1) rfl b4) rfl ?_
  exact ⟨rfl, b1, b2, b3, bV⟩

set_option maxRecDepth 100000 in
set_option maxHeartbeats 1000000 in
theorem minus_any {w w₀ : World} {sv tv : Value} {L R : List Tx} {B : Nat} (hs : Gives Try.prog sv L B w₀) (ht : Gives Try.prog tv R B w₀) (hL : Rs L) (hR : Rs R) (hz : R.length ≤ 8796093022208) (hb : Below B w₀ w) (hB : B ≤ w.heap.size) :
    Calls Try.prog 21 #[.agg #[sv], .agg #[tv]] w fun e w' => ∃ gf lb, e = .returned (.agg #[.func (.func gf) #[] lb]) ∧ Walks Try.prog gf lb (agn R false L) w'.heap.size w' ∧ Below w.heap.size w w' := by
  have H := hide hs
  have HT := hide ht
  have HB := hide hb
  have HR := hide (⟨hL, hR⟩ : _ ∧ _)
  clear hs ht hb hL hR
  go_enter Try.func21, Try.ntmps21
  go_wp2_with fail
  obtain ⟨V, hV⟩ : ∃ V, V = ((w.alloc (.cells #[sv] 27)).alloc (.cells #[tv] 27)).alloc (.cells #[.nilFunc] 27) := ⟨_, rfl⟩
  rw [← hV]
  have b3 : Boxed V (w.heap.size + 1 + 1) 27 .nilFunc := by
    have := Boxed.new ((w.alloc (.cells #[sv] 27)).alloc (.cells #[tv] 27)) 27 .nilFunc
    rw [World.size_alloc, World.size_alloc] at this
    rw [hV]; exact this
  have bV : Below w.heap.size w V := by rw [hV]; (repeat (first | exact Below.refl _ _ | refine Below.drew ?_ | refine Below.alloc ?_ (by first | (simp; done) | (simp; omega)) _ | refine Below.setCell ?_ (by first | (simp; done) | (simp; omega)) _))
  clear hV
  refine (against_any V sv tv false).mono ?_
  rintro e w1 ⟨rfl, x1, x2, x3, hb1⟩
  have sV := bV.size
  have c3 : Boxed w1 (w.heap.size + 1 + 1) 27 .nilFunc := bx_below b3 hb1 b3.lt
  have k1 := c3.cell
  have k2 := c3.frozen
  have hlt := b3.lt
  obtain ⟨fv, hfv⟩ : ∃ fv, fv = Value.func (.func 47) #[] #[.pointer (some ⟨V.heap.size + 1, 0, none⟩), .pointer (some ⟨V.heap.size, 0, none⟩), .pointer (some ⟨V.heap.size + 1 + 1, 0, none⟩)] := ⟨_, rfl⟩
  obtain ⟨W, hW⟩ : ∃ W, W = w1.setCell ⟨w.heap.size + 1 + 1, 0, none⟩ fv := ⟨_, rfl⟩
  have y1 : Boxed W V.heap.size 27 sv := by rw [hW]; exact x1.other (by omega) _
  have y2 : Boxed W (V.heap.size + 1) 27 tv := by rw [hW]; exact x2.other (by omega) _
  have y3 : Boxed W (V.heap.size + 1 + 1) 4 (.bool false) := by rw [hW]; exact x3.other (by omega) _
  have y4 : Boxed W (w.heap.size + 1 + 1) 27 fv := by rw [hW]; exact c3.set _
  have bW : Below w.heap.size w W := by rw [hW]; exact (bV.trans (hb1.mono bV.size)).setCell (p := ⟨w.heap.size + 1 + 1, 0, none⟩) (by show w.heap.size ≤ w.heap.size + 1 + 1; omega) _
  have hbv := (unhide HB).trans (bW.mono hB)
  have hsv := Nat.le_trans hB bW.size
  have hwk := against1_walks ((unhide HT).later hbv hsv) ((unhide H).later hbv hsv) (unhide HR).2 (unhide HR).1 hz y2.lt y2 y1.lt y1 y3.lt y3
  have HF := hide (⟨hwk, y4, bW⟩ : _ ∧ _ ∧ _)
  rw [hfv] at hW HF
  clear x1 x2 x3 c3 hb1 y1 y2 y3 y4 bW hbv hsv hwk b3 bV hfv
  go_wp2
  rw [← hW]
  refine bodyPost_ret (results_stream rfl (g := w.heap.size + 1 + 1) rfl (unhide HF).2.1) rfl ?_
  exact ⟨_, _, rfl, (unhide HF).1, (unhide HF).2.2⟩
set_option maxRecDepth 100000 in
set_option maxHeartbeats 1000000 in
theorem common_any {w w₀ : World} {sv tv : Value} {L R : List Tx} {B : Nat} (hs : Gives Try.prog sv L B w₀) (ht : Gives Try.prog tv R B w₀) (hL : Rs L) (hR : Rs R) (hz : R.length ≤ 8796093022208) (hb : Below B w₀ w) (hB : B ≤ w.heap.size) :
    Calls Try.prog 22 #[.agg #[sv], .agg #[tv]] w fun e w' => ∃ gf lb, e = .returned (.agg #[.func (.func gf) #[] lb]) ∧ Walks Try.prog gf lb (agn R true L) w'.heap.size w' ∧ Below w.heap.size w w' := by
  have H := hide hs
  have HT := hide ht
  have HB := hide hb
  have HR := hide (⟨hL, hR⟩ : _ ∧ _)
  clear hs ht hb hL hR
  go_enter Try.func22, Try.ntmps22
  go_wp2_with fail
  obtain ⟨V, hV⟩ : ∃ V, V = ((w.alloc (.cells #[sv] 27)).alloc (.cells #[tv] 27)).alloc (.cells #[.nilFunc] 27) := ⟨_, rfl⟩
  rw [← hV]
  have b3 : Boxed V (w.heap.size + 1 + 1) 27 .nilFunc := by
    have := Boxed.new ((w.alloc (.cells #[sv] 27)).alloc (.cells #[tv] 27)) 27 .nilFunc
    rw [World.size_alloc, World.size_alloc] at this
    rw [hV]; exact this
  have bV : Below w.heap.size w V := by rw [hV]; (repeat (first | exact Below.refl _ _ | refine Below.drew ?_ | refine Below.alloc ?_ (by first | (simp; done) | (simp; omega)) _ | refine Below.setCell ?_ (by first | (simp; done) | (simp; omega)) _))
  clear hV
  refine (against_any V sv tv true).mono ?_
  rintro e w1 ⟨rfl, x1, x2, x3, hb1⟩
  have sV := bV.size
  have c3 : Boxed w1 (w.heap.size + 1 + 1) 27 .nilFunc := bx_below b3 hb1 b3.lt
  have k1 := c3.cell
  have k2 := c3.frozen
  have hlt := b3.lt
  obtain ⟨fv, hfv⟩ : ∃ fv, fv = Value.func (.func 47) #[] #[.pointer (some ⟨V.heap.size + 1, 0, none⟩), .pointer (some ⟨V.heap.size, 0, none⟩), .pointer (some ⟨V.heap.size + 1 + 1, 0, none⟩)] := ⟨_, rfl⟩
  obtain ⟨W, hW⟩ : ∃ W, W = w1.setCell ⟨w.heap.size + 1 + 1, 0, none⟩ fv := ⟨_, rfl⟩
  have y1 : Boxed W V.heap.size 27 sv := by rw [hW]; exact x1.other (by omega) _
  have y2 : Boxed W (V.heap.size + 1) 27 tv := by rw [hW]; exact x2.other (by omega) _
  have y3 : Boxed W (V.heap.size + 1 + 1) 4 (.bool true) := by rw [hW]; exact x3.other (by omega) _
  have y4 : Boxed W (w.heap.size + 1 + 1) 27 fv := by rw [hW]; exact c3.set _
  have bW : Below w.heap.size w W := by rw [hW]; exact (bV.trans (hb1.mono bV.size)).setCell (p := ⟨w.heap.size + 1 + 1, 0, none⟩) (by show w.heap.size ≤ w.heap.size + 1 + 1; omega) _
  have hbv := (unhide HB).trans (bW.mono hB)
  have hsv := Nat.le_trans hB bW.size
  have hwk := against1_walks ((unhide HT).later hbv hsv) ((unhide H).later hbv hsv) (unhide HR).2 (unhide HR).1 hz y2.lt y2 y1.lt y1 y3.lt y3
  have HF := hide (⟨hwk, y4, bW⟩ : _ ∧ _ ∧ _)
  rw [hfv] at hW HF
  clear x1 x2 x3 c3 hb1 y1 y2 y3 y4 bW hbv hsv hwk b3 bV hfv
  go_wp2
  rw [← hW]
  refine bodyPost_ret (results_stream rfl (g := w.heap.size + 1 + 1) rfl (unhide HF).2.1) rfl ?_
  exact ⟨_, _, rfl, (unhide HF).1, (unhide HF).2.2⟩
end Sm
end Go.Proofs.Ytamlfmohalkemaa
