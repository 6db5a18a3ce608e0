/- Layer 8: a walk over a walk: what the inner loop's client has is what the outer client has, with blocks of its own beside; From. -/
import Derived.Laws.Cover1
import Derived.Test.YtamlfmohalkemaaZg
namespace Go.Proofs.Ytamlfmohalkemaa
open Go.RowKit Go.Shelf
namespace Sm
attribute [local go_sem] Oper.semAt_some

/-- the outer client's, behind what is passed on, with the blocks O beside, in which M holds -/
def Wrap (J : Inv) (f : List Tx → List Tx) (O : Nat → Prop) (M : List Tx → World → Prop) (pre : List Tx) (T : Nat → Prop) (W : World) : Prop :=
  ∃ T₁, J (f pre) T₁ W ∧ (∀ b, T b ↔ T₁ b ∨ O b) ∧ (∀ b, O b → ¬ T₁ b) ∧ M pre W
/-- what M says is of the blocks O -/
structure Of (B : Nat) (O : Nat → Prop) (M : List Tx → World → Prop) : Prop where
  lt : ∀ {pre W b}, M pre W → O b → B ≤ b ∧ b < W.heap.size
  kept : ∀ {pre W W'}, M pre W → (∀ b, O b → W'.heap[b]? = W.heap[b]?) → M pre W'
theorem Wrap.fit {B : Nat} {J : Inv} {f : List Tx → List Tx} {O : Nat → Prop} {M : List Tx → World → Prop} (fJ : Fit B J) (oM : Of B O M) : Fit B (Wrap J f O M) := by
  refine ⟨fun {s T W b} h hb => ?_, fun {s T W W'} h c => ?_⟩
  · obtain ⟨T₁, h1, e, hd, hM⟩ := h
    rcases (e b).1 hb with q | q
    · exact fJ.foot h1 q
    · exact oM.lt hM q
  · obtain ⟨T₁, h1, e, hd, hM⟩ := h
    exact ⟨T₁, fJ.abide h1 (c.mono fun k hk q => hk ((e k).2 (.inl q))), e, hd, oM.kept hM fun b hb => c.block b (oM.lt hM hb).2 fun q => q ((e b).2 (.inr hb))⟩
theorem and_fit {B : Nat} {J : Inv} (p : Prop) (fJ : Fit B J) : Fit B (fun s T W => p ∧ J s T W) := ⟨fun h hb => fJ.foot h.2 hb, fun h c => ⟨h.1, fJ.abide h.2 c⟩⟩
/-- the client's answer to a text that is passed on -/
theorem Wrap.yield {B : Nat} {J Jx : Inv} {f : List Tx → List Tx} {O : Nat → Prop} {M : List Tx → World → Prop} (oM : Of B O M) {pre : List Tx} {x : Tx} {T T₁ : Nat → Prop} {W₀ W W' : World} {e : Ending}
    (c0 : Chg T W₀ W) (eT : ∀ b, T b ↔ T₁ b ∨ O b) (hd : ∀ b, O b → ¬ T₁ b) (hM : M (pre ++ [x]) W) (hf : f (pre ++ [x]) = f pre ++ [x]) (hp : RndPost J Jx (f pre ++ [x]) T₁ W e W') :
    (e = .returned (.bool true) ∧ ∃ T', Chg T W₀ W' ∧ (∀ b, T' b → Up T W₀ W' b) ∧ Wrap J f O M (pre ++ [x]) T' W') ∨ (e = .returned (.bool false) ∧ ∃ T', Chg T W₀ W' ∧ (∀ b, T' b → Up T W₀ W' b) ∧ Wrap Jx f O M (pre ++ [x]) T' W') := by
  obtain ⟨T2, c, u, hh⟩ := hp
  have c1 : Chg T W₀ W' := c0.on c fun i hi => .inl ((eT i).2 (.inl hi))
  have hu : ∀ b, (T2 b ∨ O b) → Up T W₀ W' b := fun b hb => by
    have := c0.size
    rcases hb with q | q
    · rcases u b q with q | q
      · exact .inl ((eT b).2 (.inl q))
      · exact .inr ⟨by omega, q.2⟩
    · exact .inl ((eT b).2 (.inr q))
  have hd2 : ∀ b, O b → ¬ T2 b := fun b hb q => by
    rcases u b q with q | q
    · exact hd b hb q
    · have := (oM.lt hM hb).2; omega
  have hM' : M (pre ++ [x]) W' := oM.kept hM fun b hb => c.block b (oM.lt hM hb).2 (hd b hb)
  rcases hh with ⟨rfl, hj⟩ | ⟨rfl, hj⟩
  · exact .inl ⟨rfl, _, c1, hu, T2, by rw [hf]; exact hj, fun b => Iff.rfl, hd2, hM'⟩
  · exact .inr ⟨rfl, _, c1, hu, T2, by rw [hf]; exact hj, fun b => Iff.rfl, hd2, hM'⟩
/-- when the inner loop is over -/
theorem Wrap.over {B : Nat} {J : Inv} {f : List Tx → List Tx} {O : Nat → Prop} {M : List Tx → World → Prop} (fJ : Fit B J) {pre : List Tx} {T T₀ : Nat → Prop} {W₀ V W : World} {D : Nat} {o : Obj}
    (h : Wrap J f O M pre T W) (hV : Below W₀.heap.size W₀ V) (hO : ∀ b, O b → W₀.heap.size ≤ b ∧ b < V.heap.size) (hch : Chg (fun b => T₀ b ∨ O b) V W) (hup : ∀ b, T b → Up (fun b => T₀ b ∨ O b) V W b) (hD : V.heap.size ≤ D) (hTD : ¬ T D) :
    ∃ T', Chg T₀ W₀ (W.putObj D o) ∧ (∀ b, T' b → Up T₀ W₀ (W.putObj D o) b) ∧ J (f pre) T' (W.putObj D o) := by
  obtain ⟨T₁, h1, e, hd, hM⟩ := h
  have s1 := hV.size
  have s2 := hch.size
  have s3 := putObj_size W D o
  refine ⟨T₁, ?_, fun b hb => ?_, fJ.abide h1 ((Chg.refl _ W).putObj (.inl fun q => hTD ((e D).2 (.inl q))) _)⟩
  · exact ((Chg.of_below hV).on hch fun i hi => hi.elim .inl fun q => .inr ⟨(hO i q).1, (hO i q).2⟩).putObj (.inr (by omega)) _
  · rcases hup b ((e b).2 (.inl hb)) with (q | q) | q
    · exact .inl q
    · exact absurd hb (hd b q)
    · exact .inr ⟨by omega, by omega⟩
/-- the outer walk's start against the inner one's worlds -/
theorem start_chg {T₀ O : Nat → Prop} {W₀ V W : World} (hV : Below W₀.heap.size W₀ V) (hO : ∀ b, O b → W₀.heap.size ≤ b ∧ b < V.heap.size) (hch : Chg (fun b => T₀ b ∨ O b) V W) : Chg T₀ W₀ W :=
  (Chg.of_below hV).on hch fun i hi => hi.elim .inl fun q => .inr ⟨(hO i q).1, (hO i q).2⟩

/-- what From passes on -/
def frm (y : Tx) (L : List Tx) : List Tx := L.filter fun x => !lt x y
theorem frm_snoc (y x : Tx) (pre : List Tx) : frm y (pre ++ [x]) = if lt x y then frm y pre else frm y pre ++ [x] := by
  unfold frm
  rw [List.filter_append]
  cases h : lt x y <;> simp [h]
theorem frm_pre {y : Tx} {A L : List Tx} (h : A <+: L) : frm y A <+: frm y L := h.filter _

/-- the box of the loop that is served -/
def FM (n l : Nat) (_ : List Tx) (W : World) : Prop := Boxed W n 34 (.func (.yield l) #[] #[])
set_option maxRecDepth 100000 in
set_option maxHeartbeats 2000000 in
theorem from1_walks {w₀ : World} {B bs by_ : Nat} {sv : Value} {y : Tx} {L : List Tx} (hs : Gives Try.prog sv L B w₀) (hbs : bs < B) (hbsc : Boxed w₀ bs 27 sv) (hby : by_ < B) (hbyc : Boxed w₀ by_ 9 (.string y)) :
    Walks Try.prog 37 #[.pointer (some ⟨bs, 0, none⟩), .pointer (some ⟨by_, 0, none⟩)] (frm y L) B w₀ := by
  refine ⟨enters_of Try.func37 (by kernel_rfl) rfl, fun l J Jx W₀ T₀ hW hsz fJ fX hY h0 => ?_⟩
  have hT0 : ∀ b, T₀ b → B ≤ b ∧ b < W₀.heap.size := fun b hb => fJ.foot h0 hb
  have HG := hide hs
  have HY := hide hY
  have FJ := hide fJ
  have FX := hide fX
  have H0 := hide h0
  have HW := hide hW
  have HT := hide hT0
  have hc1 := ((bx_below hbsc hW hbs).alloc (.cells #[.func (.yield l) #[] #[]] 34)).cell
  clear hs hY fJ fX h0 hW hT0
  refine (callsIn_wide (n := 8)).1 ?_
  refine callsIn_of_wp_marks Try.func37 rfl trivial ?_ rfl
  simp only [Try.ntmps37, List.size_toArray, List.length_cons, List.length_nil, Nat.reduceAdd, Nat.reduceSub, Array.replicate_succ, Array.replicate_zero, List.push_toArray, List.append_toArray, List.nil_append, List.cons_append]
  gi_wp2_with (refine ⟨trivial, ?_⟩; gi_at_call 19; refine (callsIn_wide.2 (all_any (unhide HG) _)).mono ?_; rintro e w' ⟨gf, lb, rfl, hwk, rfl⟩)
  have HWk := hide hwk
  clear hwk hc1
  refine gen_in ?_
  intro V hV
  have bY : Boxed V W₀.heap.size 34 (.func (.yield l) #[] #[]) := by rw [hV]; exact (Boxed.new W₀ _ _).alloc _
  have hVw : Below W₀.heap.size W₀ V := by rw [hV]; (repeat (first | exact Below.refl _ _ | refine Below.drew ?_ | refine Below.alloc ?_ (by first | (simp; done) | (simp; omega)) _ | refine Below.setCell ?_ (by first | (simp; done) | (simp; omega)) _))
  have hVs : V.heap.size = W₀.heap.size + 2 := by rw [hV]; simp
  clear hV
  have hVB : Below B w₀ V := (unhide HW).trans (hVw.mono hsz)
  have oM : Of B (fun b => b = W₀.heap.size) (FM W₀.heap.size l) :=
    ⟨fun {pre W b} h hb => by subst hb; exact ⟨hsz, Boxed.lt h⟩, fun {pre W W'} h k => (k _ rfl).trans h⟩
  have hO : ∀ b, b = W₀.heap.size → W₀.heap.size ≤ b ∧ b < V.heap.size := fun b hb => by omega
  have fW := Wrap.fit (f := frm y) (unhide FJ) oM
  have fWx := Wrap.fit (f := frm y) (unhide FX) oM
  refine range_law (unhide HWk) rfl hVB (by omega) rfl (Wrap J (frm y) (fun b => b = W₀.heap.size) (FM W₀.heap.size l))
    (fun c s T W => c = .ret ∧ Wrap Jx (frm y) (fun b => b = W₀.heap.size) (FM W₀.heap.size l) s T W) fW (fun c => and_fit _ fWx)
    (fun b => T₀ b ∨ b = W₀.heap.size) ⟨T₀, (unhide FJ).abide (unhide H0) (Chg.of_below hVw), fun b => Iff.rfl, fun b hb q => by have := (unhide HT b q).2; omega, bY⟩
    (fun x => { tmps := #[.func (.yield l) #[] #[], .pointer (some ⟨bs, 0, none⟩), .pointer (some ⟨by_, 0, none⟩), .pointer (some ⟨W₀.heap.size, 0, none⟩), .string x, .agg #[sv], .func (.func gf) #[] lb, .string x, undef, undef, undef, undef, undef, undef, undef, undef, undef], defers := [] }) ?assign ?body ?done ?stop
  case assign =>
    intro l x W K hK
    gi_wp2
    exact hK
  case body =>
    rintro l' pre x T W ⟨T₁, hJ, eT, hd, hM⟩ hpre hch
    have hcS := start_chg hVw hO hch
    have hWB : Below B w₀ W := (unhide HW).trans (hcS.below hsz fun b hb => (unhide HT b hb).1)
    have c1 := (bx_below hbyc hWB hby).cell
    have c2 := Boxed.cell hM
    have e1 := lt_def x y
    cases hx : lt x y with
    | true =>
      have HF : Hid (∃ T', Chg T W W ∧ (∀ b, T' b → Up T W W b) ∧ Wrap J (frm y) (fun b => b = W₀.heap.size) (FM W₀.heap.size l) (pre ++ [x]) T' W) :=
        ⟨T, Chg.refl _ _, fun b hb => .inl hb, T₁, by rw [frm_snoc, hx]; exact hJ, eT, hd, hM⟩
      rw [hx] at e1
      clear hJ eT hd hM hpre hch hcS hWB hx fW fWx oM
      gi_wp2
      refine ⟨fun _ h => (by cases h), ?_⟩
      gi_wp2
      exact unhide HF
    | false =>
      have hf : frm y (pre ++ [x]) = frm y pre ++ [x] := by rw [frm_snoc, hx]; rfl
      obtain ⟨fn, tmps, assign, body, hy, hR⟩ := (unhide HY (frm y pre) x T₁ W hJ (by rw [← hf]; exact frm_pre hpre) hcS).at 5
      have HR := hide hR
      have HO := hide (fun e W' hp => Wrap.yield (J := J) (Jx := Jx) oM (e := e) (W' := W') (Chg.refl T W) eT hd hM hf hp)
      rw [hx] at e1
      clear hR hJ eT hd hM hpre hch hcS hWB hx fW fWx hf oM
      gi_wp2
      refine RoundIn.mono (F := Fence.wide.inRound l') (unhide HR) ?_
      rintro e W3 hp
      rcases unhide HO e W3 hp with ⟨rfl, hF⟩ | ⟨rfl, hF⟩
      · have HF := hide hF
        clear hp hF
        gi_wp2
        exact unhide HF
      · have HF := hide hF
        clear hp hF
        gi_wp2
        obtain ⟨T', x1, x2, x3⟩ := unhide HF
        exact ⟨T', x1, x2, rfl, x3⟩
  case done =>
    rintro D T W hD hTD hI hch hup hK
    obtain ⟨T', x1, x2, x3⟩ := Wrap.over (o := .deferred none) (unhide FJ) hI hVw hO hch hup hD hTD
    have HF : Hid (Ended (frm y L) J Jx T₀ W₀ (W.putObj D (.deferred none))) := ⟨T', x1, x2, .inl x3⟩
    clear x1 x2 x3 hI
    gi_wp2
    refine ⟨by simp, .inl ⟨_, _, rfl, run_takeDeferred hK, ?_⟩⟩
    exact ⟨_, results_none rfl _ _ _, ⟨_, rfl⟩, unhide HF⟩
  case stop =>
    rintro D c pre T W hD hTD hpre ⟨rfl, hI⟩ hch hup hK
    obtain ⟨T', x1, x2, x3⟩ := Wrap.over (o := .deferred none) (unhide FX) hI hVw hO hch hup hD hTD
    have HF : Hid (Ended (frm y L) J Jx T₀ W₀ (W.putObj D (.deferred none))) := ⟨T', x1, x2, .inr ⟨_, frm_pre hpre, x3⟩⟩
    clear x1 x2 x3 hI
    gi_wp2
    refine ⟨by simp, .inl ⟨_, _, rfl, run_takeDeferred hK, ?_⟩⟩
    exact ⟨_, results_none rfl _ _ _, ⟨_, rfl⟩, unhide HF⟩

theorem gen_post {P : Program} {f : Func} {R : Ending → World → Prop} {e : Exit} {a : Act} {W : World} (h : ∀ V, V = W → bodyPost P f R e a V) : bodyPost P f R e a W := h W rfl
set_option maxRecDepth 100000 in
set_option maxHeartbeats 1000000 in
theorem from_any {w w₀ : World} {sv : Value} {y : Tx} {L : List Tx} {B : Nat} (hs : Gives Try.prog sv L B w₀) (hb : Below B w₀ w) (hB : B ≤ w.heap.size) :
    Calls Try.prog 23 #[.agg #[sv], .string y] w fun e w' => ∃ gf lb, e = .returned (.agg #[.func (.func gf) #[] lb]) ∧ Walks Try.prog gf lb (frm y L) w'.heap.size w' ∧ Below w.heap.size w w' := by
  have H := hide hs
  have HB := hide hb
  clear hs hb
  go_enter Try.func23, Try.ntmps23
  go_wp2
  refine gen_post ?_
  intro V hV
  have b1 : Boxed V w.heap.size 27 sv := by rw [hV]; exact ((Boxed.new w _ _).alloc _).alloc _
  have b2 : Boxed V (w.heap.size + 1) 9 (.string y) := by
    have := (Boxed.new (w.alloc (.cells #[sv] 27)) 9 (.string y)).alloc (.cells #[.func (.func 37) #[] #[.pointer (some ⟨w.heap.size, 0, none⟩), .pointer (some ⟨w.heap.size + 1, 0, none⟩)]] 27)
    rw [World.size_alloc] at this
    rw [hV]; exact this
  have b3 : Boxed V (w.heap.size + 1 + 1) 27 (.func (.func 37) #[] #[.pointer (some ⟨w.heap.size, 0, none⟩), .pointer (some ⟨w.heap.size + 1, 0, none⟩)]) := by
    have := Boxed.new ((w.alloc (.cells #[sv] 27)).alloc (.cells #[.string y] 9)) 27 (.func (.func 37) #[] #[.pointer (some ⟨w.heap.size, 0, none⟩), .pointer (some ⟨w.heap.size + 1, 0, none⟩)])
    rw [World.size_alloc, World.size_alloc] at this
    rw [hV]; exact this
  have bV : Below w.heap.size w V := by rw [hV]; (repeat (first | exact Below.refl _ _ | refine Below.drew ?_ | refine Below.alloc ?_ (by first | (simp; done) | (simp; omega)) _ | refine Below.setCell ?_ (by first | (simp; done) | (simp; omega)) _))
  clear hV
  refine bodyPost_ret (results_stream rfl (g := w.heap.size + 1 + 1) rfl b3) rfl ?_
  exact ⟨_, _, rfl, from1_walks ((unhide H).later ((unhide HB).trans (bV.mono hB)) (Nat.le_trans hB bV.size)) b1.lt b1 b2.lt b2, bV⟩
end Sm
end Go.Proofs.Ytamlfmohalkemaa
