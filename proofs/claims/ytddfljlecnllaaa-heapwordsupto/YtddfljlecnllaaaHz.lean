/- Layer 7: Drain; New, Items. -/
import Derived.Test.YtddfljlecnllaaaHy
namespace Go.Proofs.Ytddfljlecnllaaa
open Go.RowKit
namespace Hp
section
variable {α : Type} {lt : α → α → Bool}
theorem pop_len : ∀ {l : List α} {x : α} {r : List α}, pop lt l = some (x, r) → l.length = r.length + 1
  | [], x, r, h => by simp [pop] at h
  | a :: t, x, r, h => by
    simp only [pop] at h
    split at h
    · next hn =>
      have := pop_none hn
      subst this
      simp only [Option.some.injEq, Prod.mk.injEq] at h
      obtain ⟨rfl, rfl⟩ := h
      rfl
    · next y r' hs =>
      have := pop_len hs
      split at h
      · simp only [Option.some.injEq, Prod.mk.injEq] at h
        obtain ⟨rfl, rfl⟩ := h
        simp; omega
      · simp only [Option.some.injEq, Prod.mk.injEq] at h
        obtain ⟨rfl, rfl⟩ := h
        simp
theorem pop_ex {l : List α} (h : 0 < l.length) : ∃ x r, pop lt l = some (x, r) := by
  rcases e : pop lt l with _ | ⟨x, r⟩
  · rw [pop_none e] at h; simp at h
  · exact ⟨x, r, rfl⟩
/-- the first n items that come out -/
def dr (lt : α → α → Bool) : Nat → List α → List α
  | 0, _ => []
  | n + 1, l => match pop lt l with
    | none => []
    | some (x, r) => x :: dr lt n r
def drain (lt : α → α → Bool) (l : List α) : List α := dr lt l.length l
theorem dr_step {n : Nat} {l r : List α} {x : α} (h : pop lt l = some (x, r)) : dr lt (n + 1) l = x :: dr lt n r := by simp only [dr, h]
theorem drain_step {l r : List α} {x : α} (h : pop lt l = some (x, r)) : drain lt l = x :: drain lt r := by
  unfold drain; rw [pop_len h]; exact dr_step h
theorem drain_nil : drain lt ([] : List α) = [] := rfl
theorem drain_len : ∀ (n : Nat) (l : List α), l.length = n → (drain lt l).length = n
  | 0, l, h => by rw [List.eq_nil_of_length_eq_zero h]; rfl
  | n + 1, l, h => by
    obtain ⟨x, r, e⟩ := pop_ex (lt := lt) (l := l) (by omega)
    rw [drain_step e, List.length_cons, drain_len n r (by have := pop_len e; omega)]
end
def rowI (S : List It) : List Value := S.flatMap fun x => [.int .i64 x.1, .int .i64 x.2]
theorem rowI_cons (x : It) (S : List It) : rowI (x :: S) = .int .i64 x.1 :: .int .i64 x.2 :: rowI S := rfl
theorem rowI_app (A B : List It) : rowI (A ++ B) = rowI A ++ rowI B := by simp [rowI]
theorem rowI_len (S : List It) : (rowI S).length = S.length * 2 := by
  induction S with
  | nil => rfl
  | cons x t ih => rw [rowI_cons]; simp [ih]; omega
theorem rowI_get {A : List It} {j : Nat} {x : It} (h : A[j]? = some x) : (rowI A)[j * 2]? = some (.int .i64 x.1) ∧ (rowI A)[j * 2 + 1]? = some (.int .i64 x.2) := by
  induction A generalizing j with
  | nil => simp at h
  | cons y t ih =>
    rw [rowI_cons]
    rcases j with _ | j
    · have : y = x := by simpa using h
      subst this
      exact ⟨rfl, rfl⟩
    · have := ih (j := j) (by simpa using h)
      rw [show (j + 1) * 2 = j * 2 + 1 + 1 by omega]
      simpa using this
theorem fill2 {xs : List Value} {d : List It} {k : Nat} {x : It} (h : xs.take (k * 2) = rowI d) (hk : k * 2 + 2 ≤ xs.length) : ((xs.set (k * 2) (.int .i64 x.1)).set (k * 2 + 1) (.int .i64 x.2)).take ((k + 1) * 2) = rowI (d ++ [x]) := by
  rw [rowI_app, ← h, show (k + 1) * 2 = k * 2 + 1 + 1 by omega, List.take_add_one, List.take_add_one, List.take_set_of_le (by omega), List.take_set_of_le (by omega), List.getElem?_set_ne (by omega), List.getElem?_set_self (by omega), List.getElem?_set_self (by simp; omega)]
  simp [rowI]
theorem infoI : (Try.prog.info? 39).map (fun i => (i.zero, i.size, i.bytes)) = some (some (.agg #[.int .i64 0, .int .i64 0]), 2, 16) := by kernel_rfl
theorem own_low {W : World} {B : Nat} {e : TypeId} {size n : Nat} {v : Value} {xs : List Value} (h : W.ownsRow B e size v n xs) : W.ownsRow 0 e size v n xs := by
  obtain ⟨hl, ⟨e1, e2⟩ | ⟨g, cap, cur, e1, h1, r⟩⟩ := h
  · exact ⟨hl, .inl ⟨e1, e2⟩⟩
  · exact ⟨hl, .inr ⟨g, cap, cur, e1, Nat.zero_le _, r⟩⟩
/-- items in a row of their own, that lies in no block of F -/
def IRow (w : World) (v : Value) (S : List It) (F : Nat → Prop) : Prop := w.ownsRow 0 39 2 v S.length (rowI S) ∧ ∀ g, v.ownBlock = some g → ¬ F g
theorem IRow.its {w : World} {v : Value} {S : List It} {F : Nat → Prop} (h : IRow w v S F) : Its w v S F := by
  obtain ⟨h1, h2⟩ := h
  rcases id h1.2 with ⟨e, e0⟩ | ⟨g, cap, cur, e, _, hx, _⟩
  · exact ⟨none, 0, by rw [e, e0], fun h0 => by omega⟩
  · subst e
    refine ⟨_, _, rfl, fun _ => ⟨g, 0, rfl, (Array.getElem?_eq_some_iff.1 hx).1, h2 g rfl, fun j x hj => ?_⟩⟩
    have hjl := (List.getElem?_eq_some_iff.1 hj).1
    obtain ⟨a1, a2⟩ := rowI_get hj
    rw [Nat.zero_add]
    exact ⟨by rw [h1.cellAt (j * 2) (by omega)]; exact a1, by rw [h1.cellAt (j * 2 + 1) (by omega)]; exact a2⟩
/-- behind Drain -/
def DRes (F : Nat → Prop) (w : World) (hb : Nat) (fv : Value) (lt : It → It → Bool) (p : Nat) (v : Value) (S : List It) (w' : World) : Prop := ∃ G, HAt w' hb fv lt [] p G ∧ (∀ b, G b → Up F w w' b) ∧ IRow w' v S (fun b => G b ∨ b < w.heap.size) ∧ Chg F w w'
/-- how far Drain has come -/
structure Dn (F : Nat → Prop) (w : World) (hb : Nat) (fv : Value) (lt : It → It → Bool) (p b n : Nat) (I : List It) (k : Nat) (wr : World) : Prop where
  st : ∃ d r xs G, HAt wr hb fv lt r p G ∧ (∀ a, G a → Up F w wr a) ∧ ¬ G b ∧ drain lt I = d ++ drain lt r ∧ d.length = k ∧ r.length + k = n ∧ wr.ownsRow 0 39 2 (.slice (some ⟨b, 0, none⟩) n n) n xs ∧ xs.take (k * 2) = rowI d
  ch : Chg F w wr
theorem Dn.next {F : Nat → Prop} {w wr w' : World} {hb : Nat} {fv : Value} {lt : It → It → Bool} {p n : Nat} {I d r J : List It} {x : It} {k b : Nat} {xs : List Value} {G : Nat → Prop} (hG : ∀ a, G a → Up F w wr a) (hb' : ¬ G b) (hd : drain lt I = d ++ drain lt r) (hk : d.length = k) (hr : r.length + k = n) (ho : wr.ownsRow 0 39 2 (.slice (some ⟨b, 0, none⟩) n n) n xs) (ht : xs.take (k * 2) = rowI d) (c : Chg F w wr) (hp : pop lt r = some (x, J)) (hR : Res G wr hb fv lt J p w') (hw : w.heap.size ≤ b) :
    (∃ u, w'.cell? ⟨b, k * 2, none⟩ = some u) ∧ (∃ u, w'.cell? ⟨b, k * 2 + 1, none⟩ = some u) ∧ (∀ j, w'.frozen? ⟨b, j, none⟩ = false) ∧ b < w'.heap.size ∧ Dn F w hb fv lt p b n I (k + 1) ((w'.setCell ⟨b, k * 2, none⟩ (.int .i64 x.1)).setCell ⟨b, k * 2 + 1, none⟩ (.int .i64 x.2)) := by
  have hbl := (ho.lt b rfl).2
  have ho' : w'.ownsRow 0 39 2 (.slice (some ⟨b, 0, none⟩) n n) n xs := own_kept ho fun g hg => by
    have : g = b := by injection hg with hg; exact hg.symm
    rw [this]; exact hR.2.block b hbl hb'
  have hpl := pop_len hp
  have hxl := ho.1
  have c' : Chg F w w' := c.trans (hR.2.mono hG)
  have hbU : ¬ Up G wr w' b := fun e => e.elim hb' (fun e => by omega)
  refine ⟨⟨_, (ho'.cellAt (k * 2) (by omega)).trans (List.getElem?_eq_getElem (by omega))⟩, ⟨_, (ho'.cellAt (k * 2 + 1) (by omega)).trans (List.getElem?_eq_getElem (by omega))⟩, fun j => ho'.frozenAt j, (ho'.lt b rfl).2, ⟨d ++ [x], J, _, Up G wr w', hR.1.kept (fun a ha => ?_) (fun _ y => y) (fun a ha => by simpa using hR.1.lt a ha), fun a ha => ?_, hbU, by rw [hd, drain_step hp]; simp, by simp [hk], by omega, ((ho'.stored (k * 2) _).1.stored (k * 2 + 1) _).1, fill2 ht (by omega)⟩, (c'.setCell (.inr hw) _).setCell (.inr hw) _⟩
  · have e : a ≠ b := fun e => hbU (e ▸ ha)
    rw [Below.heap_setCell _ _ _ _ e, Below.heap_setCell _ _ _ _ e]
  · have s1 := c.size
    have s2 := hR.2.size
    rcases ha with ha | ha
    · rcases hG a ha with y | y
      · exact .inl y
      · exact .inr ⟨y.1, by simp; omega⟩
    · exact .inr ⟨by omega, by simpa using ha.2⟩
set_option maxRecDepth 100000 in
set_option maxHeartbeats 4000000 in
theorem drain_any {fv : Value} {lt : It → It → Bool} (L : LessV fv lt) {w : World} {hb : Nat} {I : List It} {p : Nat} {F : Nat → Prop} (h : HAt w hb fv lt I p F) (hz : I.length ≤ 1099511627776) :
    Calls Try.prog 15 #[.pointer (some ⟨hb, 0, none⟩)] w fun e w' => ∃ v, e = .returned v ∧ DRes F w hb fv lt p v (drain lt I) w' := by
  obtain ⟨i, hi, hz'⟩ := Option.map_eq_some_iff.1 infoI
  simp only [Prod.mk.injEq] at hz'
  obtain ⟨hz0, hz1, hz2⟩ := hz'
  obtain ⟨w1, hmk, hown, hgr⟩ := run_make_full (P := Try.prog) w 0 22 39 i _ 2 Try.underlying22 hi hz0 hz1 .i64 .i64 I.length (by rw [hz2]; omega) (by unfold maxLen; omega) (Nat.zero_le _)
  have HLN := hide (len_any h)
  have hbw1 : Below w.heap.size w w1 := (Below.refl _ w).grown hgr (Nat.le_refl _) (fun k hk => by cases hk)
  have hlt := h.lt
  have HST : Hid (HAt w1 hb fv lt I p F) := h.below hbw1
  have hs1 : w.heap.size < w1.heap.size := (hown.lt _ rfl).2
  have HL := hide L
  have HLT := hide hlt
  have HC1 : Hid (Chg F w w1) := Chg.of_below hbw1
  have HOW := hide hown
  clear hi hz0 hz1 hz2 hgr L h hown hbw1 hlt
  generalize (madeCells _ (I.length * 2)).toList = Z at *
  obtain ⟨n, hn⟩ : ∃ n, I.length = n := ⟨_, rfl⟩
  have HN := hide hn
  rw [hn] at hmk HLN HOW
  have hz : n ≤ 1099511627776 := by omega
  clear hn
  go_enter Try.func15, Try.ntmps15
  go_wp2_with (go_at_call 17; refine (unhide HLN).mono ?_; rintro e w2 ⟨rfl, hw2⟩; have hw3 := hw2.symm; subst hw3; clear hw2)
  obtain ⟨b, hbq⟩ : ∃ b, b = w.heap.size := ⟨_, rfl⟩
  rw [← hbq] at HOW ⊢
  have HBE := hide hbq
  have HD0 : Hid (Dn F w hb fv lt p b n I 0 w1) := ⟨⟨[], I, Z, F, unhide HST, fun a ha => .inl ha, fun e => by have := unhide HLT _ e; omega, rfl, rfl, by rw [unhide HN]; rfl, unhide HOW, by simp [rowI]⟩, unhide HC1⟩
  clear HST HOW HC1 hbq
  go_loopw [10] (fun s10 wr => ∃ (k : Nat), s10 = .int .i64 k ∧ k ≤ n ∧ Hid (Dn F w hb fv lt p b n I k wr)) (fun s10 _ => n - (intOf s10).toNat)
  case atStart => exact ⟨0, rfl, Nat.zero_le _, HD0⟩
  case round =>
    obtain ⟨k, rfl, hk, HD⟩ := hrel
    by_cases hlt : k < n
    · have hltz : (k : Int) < (n : Int) := by omega
      have hk0 : 0 ≤ (k : Int) := by omega
      obtain ⟨⟨d, r, xs, G, e1, e2, e3, e4, e5, e6, e7, e8⟩, e9⟩ := unhide HD
      obtain ⟨x, J, hpop⟩ := pop_ex (lt := lt) (l := r) (by omega)
      have HPO := hide (pop_some (unhide HL) e1 (by omega) hpop)
      have HNX : Hid (∀ w', Res G wr hb fv lt J p w' → _) := fun w' hR => Dn.next e2 e3 e4 e5 e6 e7 e8 e9 hpop hR (Nat.le_of_eq (unhide HBE).symm)
      clear e1 e2 e3 e4 e5 e6 e7 e8 e9 hpop
      go_wp2_with (go_at_call 22; refine (unhide HPO).mono ?_; rintro e w5 ⟨rfl, hR⟩; obtain ⟨⟨u0, y0⟩, ⟨u1, y1⟩, yf, yl, yd⟩ := unhide HNX w5 hR; have HDD := hide yd; clear hR yd)
      go_roundw
      case rel => exact ⟨k + 1, by go_num, by omega, HDD⟩
      case measure => simp [intOf]; omega
    · obtain rfl : k = n := by omega
      have hltz : ¬ (k : Int) < (k : Int) := by omega
      go_wp2
      go_ret
      refine ⟨_, rfl, ?_⟩
      obtain ⟨⟨d, r, xs, G, e1, e2, e3, e4, e5, e6, e7, e8⟩, e9⟩ := unhide HD
      have hr0 : r = [] := List.eq_nil_of_length_eq_zero (by omega)
      subst hr0
      have hd : drain lt I = d := by rw [e4, drain_nil, List.append_nil]
      have hx : xs = rowI d := by rw [← e8, List.take_of_length_le (by rw [e7.1]; omega)]
      rw [hd]
      refine ⟨G, e1, e2, ⟨?_, fun g hg => ?_⟩, e9⟩
      · rw [e5, ← hx]; exact e7
      · have : g = b := by injection hg with hg; exact hg.symm
        subst this
        rintro (y | y)
        · exact e3 y
        · have := unhide HBE; omega
set_option maxRecDepth 100000 in
theorem drain_nilh (w : World) : Calls Try.prog 15 #[.pointer none] w fun e w' => ∃ v, e = .returned v ∧ IRow w' v [] (fun b => b < w.heap.size) ∧ Below w.heap.size w w' := by
  obtain ⟨i, hi, hz'⟩ := Option.map_eq_some_iff.1 infoI
  simp only [Prod.mk.injEq] at hz'
  obtain ⟨hz0, hz1, hz2⟩ := hz'
  obtain ⟨w1, hmk, hown, hgr⟩ := run_make_full (P := Try.prog) w w.heap.size 22 39 i _ 2 Try.underlying22 hi hz0 hz1 .i64 .i64 0 (by rw [hz2]; omega) (by unfold maxLen; omega) (Nat.le_refl _)
  have HB : Hid (Below w.heap.size w w1) := (Below.refl _ w).grown hgr (Nat.le_refl _) (fun k hk => by cases hk)
  have HO : Hid (IRow w1 (.slice (some ⟨w.heap.size, 0, none⟩) 0 0) [] (fun b => b < w.heap.size)) := by
    have e : (madeCells (Value.agg #[.int .i64 0, .int .i64 0]).cells (0 * 2)).toList = [] := List.eq_nil_of_length_eq_zero (by rw [hown.1])
    rw [e] at hown
    exact ⟨own_low hown, fun g hg => by have := (hown.lt g hg).1; omega⟩
  clear hi hz0 hz1 hz2 hgr hown
  have hmk' : (Instr.makeSlice 22 (.int .i64 0) (.int .i64 0)).run Try.prog w = .ok (.slice (some ⟨w.heap.size, 0, none⟩) 0 0) w1 := hmk
  clear hmk
  go_enter Try.func15, Try.ntmps15
  go_wp2_with (go_at_call 17; refine (len_nil _).mono ?_; rintro e w2 ⟨rfl, hw2⟩; have hw3 := hw2.symm; subst hw3; clear hw2)
  go_loopw [10] (fun s10 wr => s10 = .int .i64 0 ∧ wr = w1) (fun _ _ => 0)
  case atStart => exact ⟨rfl, rfl⟩
  case round =>
    obtain ⟨rfl, rfl⟩ := hrel
    go_wp2
    go_ret
    exact ⟨_, rfl, unhide HO, unhide HB⟩
set_option maxRecDepth 100000 in
theorem new_any {fv : Value} {lt : It → It → Bool} (L : LessV fv lt) {w : World} {v : Value} {X : List It} (hx : Its w v X (fun b => w.heap.size ≤ b)) (hz : X.length ≤ 1099511627775) :
    Calls Try.prog 19 #[fv, v] w fun e w' => e = .returned (.pointer (some ⟨w.heap.size, 0, none⟩)) ∧ HAt w' w.heap.size fv lt X X.length (fun b => w.heap.size ≤ b ∧ b < w'.heap.size) ∧ Below w.heap.size w w' := by
  have HPU : Hid (Calls Try.prog 21 #[.pointer (some ⟨w.heap.size, 0, none⟩), v] (w.alloc (.cells #[fv, .slice none 0 0, .int .i64 0] 72)) fun e w' => e = .returned (.tuple #[]) ∧ HAt w' w.heap.size fv lt X X.length (fun b => w.heap.size ≤ b ∧ b < w'.heap.size) ∧ Below w.heap.size w w') := by
    have h0 : HAt (w.alloc (.cells #[fv, .slice none 0 0, .int .i64 0] 72)) w.heap.size fv lt [] 0 (fun b => b = w.heap.size) :=
      ⟨[], .slice none 0 0, ⟨fun b hb => by rw [hb]; simp, rfl, (MapKept.heap_alloc w _).1, World.ownsRow_nil _ _ _ _, fun g hg => by cases hg⟩, Bag.nil, fun i h0 hi => by simp at hi⟩
    have hb0 : Below w.heap.size w (w.alloc (.cells #[fv, .slice none 0 0, .int .i64 0] 72)) := (Below.refl _ w).alloc (Nat.le_refl _) _
    have hI : Its (w.alloc (.cells #[fv, .slice none 0 0, .int .i64 0] 72)) v X (fun b => b = w.heap.size) := (hx.chg (Chg.of_below hb0)).mono fun b _ e => by rw [e]; exact Nat.le_refl _
    refine (push_any L h0 hI (by simpa using hz) (by omega)).mono ?_
    rintro e w' ⟨rfl, h1, h2⟩
    rw [List.nil_append, Nat.zero_add] at h1
    have hs := h2.size
    simp at hs
    refine ⟨rfl, h1.kept (fun _ _ => rfl) (fun b hb => ?_) (fun b hb => hb.2), hb0.trans (h2.below (by simp) fun k hk => by omega)⟩
    rcases hb with hb | hb
    · subst hb; exact ⟨Nat.le_refl _, h1.lt _ (.inl rfl)⟩
    · exact ⟨by have := hb.1; simp at this; omega, hb.2⟩
  have hfv : fv = .nilFunc ∨ ∃ f, fv = .func (.func f) #[] #[] := by
    rcases L with ⟨e, _⟩ | ⟨f, e, _⟩
    · exact .inl e
    · exact .inr ⟨f, e⟩
  clear hx L
  rcases hfv with rfl | ⟨f, rfl⟩
  · go_enter Try.func19, Try.ntmps19
    go_wp2_with (go_at_call 21; refine (unhide HPU).mono ?_; rintro e w1 ⟨rfl, h1⟩; have H1 := hide h1; clear h1)
    go_ret
    exact ⟨rfl, unhide H1⟩
  · go_enter Try.func19, Try.ntmps19
    go_wp2_with (go_at_call 21; refine (unhide HPU).mono ?_; rintro e w1 ⟨rfl, h1⟩; have H1 := hide h1; clear h1)
    go_ret
    exact ⟨rfl, unhide H1⟩
theorem items_any {w : World} {v : Value} {X : List It} (hx : Its w v X (fun b => w.heap.size ≤ b)) (hz : X.length ≤ 1099511627775) :
    Calls Try.prog 9 #[v] w fun e w' => e = .returned (.pointer (some ⟨w.heap.size, 0, none⟩)) ∧ HAt w' w.heap.size (.func (.func 18) #[] #[]) rise_ X X.length (fun b => w.heap.size ≤ b ∧ b < w'.heap.size) ∧ Below w.heap.size w w' := by
  have HN := hide (new_any lessV_item hx hz)
  clear hx
  go_enter Try.func9, Try.ntmps9
  go_wp2_with (go_at_call 19; refine (unhide HN).mono ?_; rintro e w1 ⟨rfl, h1⟩; have H1 := hide h1; clear h1)
  go_ret
  exact ⟨rfl, unhide H1⟩
end Hp
end Go.Proofs.Ytddfljlecnllaaa
