/- Layer 9: the document's merge of two rising lists (layer 8's), without its streams. -/
import Derived.WalkSpells
import Derived.WalkLawsBesides
import Derived.Deep.QuietTactic
import Derived.BigQuiet
import Derived.Deep.DeepFit
import Derived.Test.YtbapnoafjcipjaaGreatDoorBa
namespace Go.Proofs.YtbapnoafjcipjaaGreatDoor
open Go.RowKit Go.Shelf
namespace Rs
open Sm (Tx ofS lt lt_def lt_tr lt_tri rs_nil rs_cons rs_snoc rs_ext ofS_rs ofS_mem ofS_len)
def RowAt (w : World) (v : Value) (L : List Tx) (B : Nat) : Prop :=
  ∃ ao c, v = .slice ao L.length c ∧ (0 < L.length → ∃ g off, ao = some ⟨g, off, none⟩ ∧ g < B ∧ ∀ (j : Nat) x, L[j]? = some x → w.cell? ⟨g, off + j, none⟩ = some (.string x))
theorem RowAt.below {w w' : World} {v : Value} {L : List Tx} {B : Nat} (h : RowAt w v L B) (hb : Below B w w') : RowAt w' v L B := by
  obtain ⟨ao, c, e, hat⟩ := h
  refine ⟨ao, c, e, fun h0 => ?_⟩
  obtain ⟨g, off, e1, e2, e3⟩ := hat h0
  exact ⟨g, off, e1, e2, fun j x hj => (hb.cell (p := ⟨g, off + j, none⟩) e2).trans (e3 j x hj)⟩
theorem RowAt.mono {w : World} {v : Value} {L : List Tx} {B B' : Nat} (h : RowAt w v L B) (hB : B ≤ B') : RowAt w v L B' := by
  obtain ⟨ao, c, e, hat⟩ := h
  refine ⟨ao, c, e, fun h0 => ?_⟩
  obtain ⟨g, off, e1, e2, e3⟩ := hat h0
  exact ⟨g, off, e1, by omega, e3⟩
theorem Own.row {W : World} {v : Value} {A : List Tx} {B : Nat} (h : Own W v A) (hB : ∀ g, v.ownBlock = some g → g < B) : RowAt W v A B := by
  rcases h.2 with ⟨e1, e2⟩ | ⟨g, cap, cur, e1, _⟩
  · exact ⟨none, 0, by rw [e1, e2], fun h => by omega⟩
  · subst e1
    refine ⟨_, _, rfl, fun _ => ⟨g, 0, rfl, hB g rfl, fun j x hj => ?_⟩⟩
    have hjl := (List.getElem?_eq_some_iff.1 hj).1
    rw [Nat.zero_add, World.ownsRow.cellAt h j (by omega)]
    simp [txs, hj]
theorem own_row {w : World} {v : Value} {A : List Tx} (h : Own w v A) : RowAt w v A w.heap.size := h.row fun _ hg => (own_lt h hg).2
theorem CRow.any {w : World} {v : Value} {R : List Tx} {G : Nat → Prop} (h : CRow w v R G) : CRow w v R (fun _ => True) := by
  obtain ⟨ao, c, e, hc, hat⟩ := h
  refine ⟨ao, c, e, hc, fun h0 => ?_⟩
  obtain ⟨g, off, e1, _, e3, e4⟩ := hat h0
  exact ⟨g, off, e1, trivial, e3, e4⟩
theorem CRow.row {w : World} {v : Value} {R : List Tx} {G : Nat → Prop} (h : CRow w v R G) : RowAt w v R w.heap.size := by
  obtain ⟨ao, c, e, _, hat⟩ := h
  refine ⟨ao, c, e, fun h0 => ?_⟩
  obtain ⟨g, off, e1, _, e3, e4⟩ := hat h0
  exact ⟨g, off, e1, e3, e4⟩
theorem tx_beq {x y : Tx} : (x.toList == y.toList) = true ↔ x = y := by
  rw [beq_iff_eq, Lib.toList_data, Lib.toList_data]
  exact ⟨Sm.tx_ext, fun e => by rw [e]⟩
theorem CRow.front {w : World} {ao : Option Addr} {n c k : Nat} {A : List Tx} {G : Nat → Prop} (h : CRow w (.slice ao n c) A G) (hk : k ≤ A.length) : CRow w (.slice ao k c) (A.take k) G := by
  obtain ⟨ao', c', e, hc, hat⟩ := h
  injection e with e1 e2 e3
  subst e1 e3
  have hl : (A.take k).length = k := by simp; omega
  refine ⟨ao, c, by rw [hl], by omega, fun h0 => ?_⟩
  obtain ⟨g, off, e4, e5, e6, e7⟩ := hat (by omega)
  refine ⟨g, off, e4, e5, e6, fun j x hj => e7 j x ?_⟩
  have hjk : j < k := by have := (List.getElem?_eq_some_iff.1 hj).1; omega
  rw [List.getElem?_take_of_lt hjk] at hj
  exact hj
theorem CRow.rest {w : World} {g off n c k : Nat} {A : List Tx} {G : Nat → Prop} (h : CRow w (.slice (some ⟨g, off, none⟩) n c) A G) (hk : k < A.length) : CRow w (.slice (some ⟨g, off + k, none⟩) (n - k) (c - k)) (A.drop k) G := by
  obtain ⟨ao', c', e, hc, hat⟩ := h
  injection e with e1 e2 e3
  subst e1 e3
  have hl : (A.drop k).length = n - k := by simp; omega
  refine ⟨_, _, by rw [hl], by omega, fun h0 => ?_⟩
  obtain ⟨g', off', e4, e5, e6, e7⟩ := hat (by omega)
  injection e4 with e4
  injection e4 with e8 e9 e10
  subst e8 e9
  refine ⟨g, off + k, rfl, e5, e6, fun j x hj => ?_⟩
  rw [List.getElem?_drop] at hj
  have := e7 (k + j) x hj
  rw [show off + k + j = off + (k + j) by omega]
  exact this
namespace Kz
theorem wpList_append_run {P : Program} {w : World} {ops : Array Oper} {rest : List Oper} {o : Oper} {a : Act} {Q : Exit → Act → World → Prop} (hgd : o.guard = none) (s x : Operand) (t t' : TypeId)
    (ho : o.op = .call { callee := .builtin .append, args := #[s, x], argTypes := #[t, t'] }) (v f : Value) (hs : a.eval s = v) (hx : a.eval x = f) (v2 : Value) (w2 : World) (hrun : (Builtin.append_ #[t, t'] o.type #[v, f]).run P w = .ok v2 w2)
    (h : wpList P ops Q rest (a.put o.dst v2) w2) : wpList P ops Q (o :: rest) a w := by
  refine wpList_plain hgd fun K hK => ?_
  unfold Oper.wp
  simp [execOp, ho, resolve, invoke, builtin, hs, hx, hrun, Result.andThen]
  exact hK _ _ h
theorem below_drewN (B : Nat) (w : World) (n : Nat) : Below B w (w.drewN n) := ⟨rfl, rfl, rfl, Nat.le_refl _, fun _ _ => rfl⟩

/-- what was merged when i and j were taken -/
structure Mrg (A C : List Tx) (i j : Nat) (O : List Tx) : Prop where
  rs : Sm.Rs O
  mem : ∀ x, x ∈ O ↔ x ∈ A.take i ∨ x ∈ C.take j
  la : ∀ x ∈ O, ∀ z ∈ A.drop i, lt x z = true
  lc : ∀ x ∈ O, ∀ z ∈ C.drop j, lt x z = true
theorem Mrg.start (A C : List Tx) : Mrg A C 0 0 [] := ⟨rs_nil, by simp, by simp, by simp⟩
theorem drop_get {A : List Tx} {i : Nat} {x : Tx} (h : A[i]? = some x) : A.drop i = x :: A.drop (i + 1) := by
  obtain ⟨hl, rfl⟩ := List.getElem?_eq_some_iff.1 h
  exact List.drop_eq_getElem_cons hl
theorem take_get {A : List Tx} {i : Nat} {x : Tx} (h : A[i]? = some x) : A.take (i + 1) = A.take i ++ [x] := by rw [List.take_add_one, h]; rfl
theorem rs_drop {A : List Tx} {i : Nat} {x : Tx} (hA : Sm.Rs A) (h : A[i]? = some x) : ∀ z ∈ A.drop (i + 1), lt x z = true := by
  have : Sm.Rs (A.drop i) := List.Pairwise.sublist (List.drop_sublist i A) hA
  rw [drop_get h] at this
  exact (rs_cons.1 this).1
theorem Mrg.left {A C : List Tx} {i j : Nat} {O : List Tx} {x : Tx} (h : Mrg A C i j O) (hA : Sm.Rs A) (hx : A[i]? = some x) (hc : ∀ z ∈ C.drop j, lt x z = true) : Mrg A C (i + 1) j (O ++ [x]) := by
  have hm : x ∈ A.drop i := by rw [drop_get hx]; simp
  refine ⟨rs_snoc h.rs fun a ha => h.la a ha x hm, fun z => ?_, fun z hz y hy => ?_, fun z hz y hy => ?_⟩
  · rw [List.mem_append, h.mem, take_get hx, List.mem_append]
    constructor
    · rintro ((e | e) | e)
      · exact .inl (.inl e)
      · exact .inr e
      · exact .inl (.inr e)
    · rintro ((e | e) | e)
      · exact .inl (.inl e)
      · exact .inr e
      · exact .inl (.inr e)
  · rcases List.mem_append.1 hz with e | e
    · exact h.la z e y (by rw [drop_get hx]; exact List.mem_cons_of_mem _ hy)
    · simp at e; subst e; exact rs_drop hA hx y hy
  · rcases List.mem_append.1 hz with e | e
    · exact h.lc z e y hy
    · simp at e; subst e; exact hc y hy
theorem Mrg.right {A C : List Tx} {i j : Nat} {O : List Tx} {x : Tx} (h : Mrg A C i j O) (hC : Sm.Rs C) (hx : C[j]? = some x) (ha : ∀ z ∈ A.drop i, lt x z = true) : Mrg A C i (j + 1) (O ++ [x]) := by
  have hm : x ∈ C.drop j := by rw [drop_get hx]; simp
  refine ⟨rs_snoc h.rs fun a ha => h.lc a ha x hm, fun z => ?_, fun z hz y hy => ?_, fun z hz y hy => ?_⟩
  · rw [List.mem_append, h.mem, take_get hx, List.mem_append]
    constructor
    · rintro ((e | e) | e)
      · exact .inl e
      · exact .inr (.inl e)
      · exact .inr (.inr e)
    · rintro (e | (e | e))
      · exact .inl (.inl e)
      · exact .inl (.inr e)
      · exact .inr e
  · rcases List.mem_append.1 hz with e | e
    · exact h.la z e y hy
    · simp at e; subst e; exact ha y hy
  · rcases List.mem_append.1 hz with e | e
    · exact h.lc z e y (by rw [drop_get hx]; exact List.mem_cons_of_mem _ hy)
    · simp at e; subst e; exact rs_drop hC hx y hy
theorem Mrg.both {A C : List Tx} {i j : Nat} {O : List Tx} {x : Tx} (h : Mrg A C i j O) (hA : Sm.Rs A) (hC : Sm.Rs C) (hx : A[i]? = some x) (hy : C[j]? = some x) : Mrg A C (i + 1) (j + 1) (O ++ [x]) := by
  have hm : x ∈ C.drop j := by rw [drop_get hy]; simp
  refine ⟨rs_snoc h.rs fun a ha => h.lc a ha x hm, fun z => ?_, fun z hz y hy' => ?_, fun z hz y hy' => ?_⟩
  · rw [List.mem_append, h.mem, take_get hx, take_get hy, List.mem_append, List.mem_append]
    constructor
    · rintro ((e | e) | e)
      · exact .inl (.inl e)
      · exact .inr (.inl e)
      · exact .inr (.inr e)
    · rintro ((e | e) | (e | e))
      · exact .inl (.inl e)
      · exact .inr e
      · exact .inl (.inr e)
      · exact .inr e
  · rcases List.mem_append.1 hz with e | e
    · exact h.la z e y (by rw [drop_get hx]; exact List.mem_cons_of_mem _ hy')
    · simp at e; subst e; exact rs_drop hA hx y hy'
  · rcases List.mem_append.1 hz with e | e
    · exact h.lc z e y (by rw [drop_get hy]; exact List.mem_cons_of_mem _ hy')
    · simp at e; subst e; exact rs_drop hC hy y hy'
theorem Mrg.done {A C O : List Tx} {i j : Nat} (h : Mrg A C i j O) (hi : A.length ≤ i) (hj : C.length ≤ j) : O = ofS (A ++ C) := by
  refine rs_ext h.rs (ofS_rs _) fun x => ?_
  rw [h.mem, ofS_mem, List.take_of_length_le hi, List.take_of_length_le hj, List.mem_append]
/-- the list that was made up to now -/
structure Mk (w wr : World) (A C : List Tx) (i j : Nat) (v : Value) (O : List Tx) : Prop where
  own : Own wr v O
  new : ∀ g, v.ownBlock = some g → w.heap.size ≤ g
  old : Below w.heap.size w wr
  mrg : Mrg A C i j O
theorem own_drewN {w : World} {v : Value} {O : List Tx} (h : Own w v O) (q : Nat) : Own (w.drewN q) v O := h.below (below_drewN _ _ _)
/-- one text more -/
theorem Mk.push {w wr V : World} {A C O : List Tx} {i j i' j' : Nat} {v : Value} (h : Mk w wr A C i j v O) (hV : Below wr.heap.size wr V) (x : Tx) (hm : Mrg A C i' j' (O ++ [x])) (hz : O.length + 1 ≤ 8796093022208) (ty : TypeId) :
    ∃ g c W', (Builtin.append_ #[33, 33] ty #[v, .slice (some ⟨V.heap.size, 0, none⟩) 1 1]).run Tryz.prog (V.alloc (.cells #[.string x] 9)) = .ok (.slice (some ⟨g, 0, none⟩) (O.length + 1) c) W' ∧ Mk w W' A C i' j' (.slice (some ⟨g, 0, none⟩) (O.length + 1) c) (O ++ [x]) := by
  obtain ⟨g, c, W', hrun, ho, hc, hu, hd⟩ := push_tx x (h.own.below hV) hz 33 ty Tryz.underlying33
  have s1 := h.old.size
  have s2 := hV.size
  refine ⟨g, c, W', hrun, ho, fun g' hg' => ?_, (h.old.trans (hV.mono s1)).trans (hc.below (by omega) fun b hb => h.new b hb), hm⟩
  have e : g = g' := by injection hg'
  subst e
  rcases hu with e | e
  · exact h.new g e
  · omega
set_option maxRecDepth 100000 in
set_option maxHeartbeats 8000000 in
theorem merge_any {w : World} {va vc : Value} {A C : List Tx} (ha : RowAt w va A w.heap.size) (hc : RowAt w vc C w.heap.size) (hA : Sm.Rs A) (hC : Sm.Rs C) (hz : A.length + C.length ≤ 8796093022208) :
    Calls Tryz.prog 66 #[va, vc] w fun e w' => ∃ a c, e = .returned (.slice a (ofS (A ++ C)).length c) ∧ Own w' (.slice a (ofS (A ++ C)).length c) (ofS (A ++ C)) ∧ (∀ g, (Value.slice a (ofS (A ++ C)).length c).ownBlock = some g → w.heap.size ≤ g) ∧ Below w.heap.size w w' := by
  obtain ⟨aa, ca, rfl, hat⟩ := ha
  obtain ⟨ac, cc, rfl, hct⟩ := hc
  have HA := hide hat
  have HC := hide hct
  have HR := hide (⟨hA, hC⟩ : _ ∧ _)
  clear hat hct hA hC
  go_enter Tryz.func66, Tryz.ntmps66
  go_wp2
  go_loopw [5, 6, 7] (fun s p q wr => ∃ (a : Option Addr) (c i j : Nat) (O : List Tx), s = .slice a O.length c ∧ p = .int .i64 (i : Int) ∧ q = .int .i64 (j : Int) ∧ i ≤ A.length ∧ j ≤ C.length ∧ O.length ≤ i + j ∧ Hid (Mk w wr A C i j (.slice a O.length c) O)) (fun _ p q _ => A.length + C.length - (intOf p).toNat - (intOf q).toNat)
  case atStart => exact ⟨none, 0, 0, 0, [], rfl, rfl, rfl, Nat.zero_le _, Nat.zero_le _, by simp, World.ownsRow_nil _ _ _ _, (fun g hg => by cases hg), Below.refl _ _, Mrg.start A C⟩
  case round =>
    obtain ⟨a, c, i, j, O, rfl, rfl, rfl, hi, hj, hO, HM⟩ := hrel
    by_cases hil : i < A.length
    · obtain ⟨ga, oa, rfl, hga, hca⟩ := unhide HA (by omega)
      obtain ⟨x, hx⟩ : ∃ x, A[i]? = some x := ⟨_, List.getElem?_eq_getElem hil⟩
      have c1 : ∀ V, Below wr.heap.size wr V → V.cell? ⟨ga, oa + i, none⟩ = some (.string x) := fun V hV => (((unhide HM).old.trans (hV.mono (unhide HM).old.size)).cell (p := ⟨ga, oa + i, none⟩) hga).trans (hca i x hx)
      have HX := hide hx
      have C1 := hide c1
      clear hca hx c1
      by_cases hjl : j < C.length
      · obtain ⟨gc, oc, rfl, hgc, hcc⟩ := unhide HC (by omega)
        obtain ⟨y, hy⟩ : ∃ y, C[j]? = some y := ⟨_, List.getElem?_eq_getElem hjl⟩
        have c2 : ∀ V, Below wr.heap.size wr V → V.cell? ⟨gc, oc + j, none⟩ = some (.string y) := fun V hV => (((unhide HM).old.trans (hV.mono (unhide HM).old.size)).cell (p := ⟨gc, oc + j, none⟩) hgc).trans (hcc j y hy)
        have HY := hide hy
        have C2 := hide c2
        clear hcc hy c2
        have e1 := lt_def x y
        cases hlt : lt x y with
        | true =>
          rw [hlt] at e1
          have hm := (unhide HM).mrg.left (unhide HR).1 (unhide HX) (fun z hz => by
            rw [drop_get (unhide HY)] at hz
            rcases List.mem_cons.1 hz with e | e
            · rw [e]; exact hlt
            · exact lt_tr hlt (rs_drop (unhide HR).2 (unhide HY) z e))
          have HMm := hide hm
          clear hm
          have k1 := unhide C1 wr (Below.refl _ _)
          have k2 := unhide C2 wr (Below.refl _ _)
          have hqC : ¬ C.length ≤ j := by omega
          go_wp2
          go_quiet (fail)
          obtain ⟨V, hV⟩ : ∃ V, V = wr.drewN nq := ⟨_, rfl⟩
          rw [← hV]
          have bV : Below wr.heap.size wr V := by rw [hV]; exact below_drewN _ _ _
          clear hV k1 k2
          have k3 := unhide C1 V bV
          obtain ⟨g9, c9, W9, hrun9, mk9⟩ := (unhide HM).push bV x (unhide HMm) (by omega) 33
          have HRN := hide hrun9
          have HMK := hide mk9
          clear hrun9 mk9 HM HMm
          go_wp2_with (at_builtin; refine wpList_append_run rfl _ _ 33 33 rfl _ _ rfl rfl (.slice (some ⟨g9, 0, none⟩) (O.length + 1) c9) W9 (unhide HRN) ?_)
          go_roundw
          case rel => exact ⟨some ⟨g9, 0, none⟩, c9, i + 1, j, O ++ [x], by simp, by simp, by simp, by omega, by omega, by simp; omega, by rw [List.length_append]; exact HMK⟩
          case measure => simp [intOf]; omega
        | false =>
          rw [hlt] at e1
          cases heq : (x.toList == y.toList) with
          | true =>
            have exy : x = y := tx_beq.1 heq
            have hm := (unhide HM).mrg.both (unhide HR).1 (unhide HR).2 (unhide HX) (by rw [exy]; exact unhide HY)
            rw [exy] at hm
            clear exy hlt
            have HMm := hide hm
            clear hm
            have k1 := unhide C1 wr (Below.refl _ _)
            have k2 := unhide C2 wr (Below.refl _ _)
            have hqC : ¬ C.length ≤ j := by omega
            go_wp2
            go_quiet (fail)
            obtain ⟨V, hV⟩ : ∃ V, V = wr.drewN nq := ⟨_, rfl⟩
            rw [← hV]
            have bV : Below wr.heap.size wr V := by rw [hV]; exact below_drewN _ _ _
            clear hV k1 k2
            have k1 := unhide C1 V bV
            have k2 := unhide C2 V bV
            go_wp2
            go_quiet (fail)
            obtain ⟨U, hU⟩ : ∃ U, U = V.drewN nq := ⟨_, rfl⟩
            rw [← hU]
            have bU : Below wr.heap.size wr U := by rw [hU]; exact bV.trans (below_drewN _ _ _)
            clear hU k2 k1
            have k3 := unhide C2 U bU
            obtain ⟨g9, c9, W9, hrun9, mk9⟩ := (unhide HM).push bU y (unhide HMm) (by omega) 33
            have HRN := hide hrun9
            have HMK := hide mk9
            clear hrun9 mk9 HM HMm
            go_wp2_with (at_builtin; refine wpList_append_run rfl _ _ 33 33 rfl _ _ rfl rfl (.slice (some ⟨g9, 0, none⟩) (O.length + 1) c9) W9 (unhide HRN) ?_)
            go_roundw
            case rel => exact ⟨some ⟨g9, 0, none⟩, c9, i + 1, j + 1, O ++ [y], by simp, by simp, by simp, by omega, by omega, by simp; omega, by rw [List.length_append]; exact HMK⟩
            case measure => simp [intOf]; omega
          | false =>
            have hyx : lt y x = true := by
              rcases lt_tri x y with e | e | e
              · rw [e] at hlt; cases hlt
              · have := tx_beq.2 e; rw [this] at heq; cases heq
              · exact e
            have hm := (unhide HM).mrg.right (unhide HR).2 (unhide HY) (fun z hz => by
              rw [drop_get (unhide HX)] at hz
              rcases List.mem_cons.1 hz with e | e
              · rw [e]; exact hyx
              · exact lt_tr hyx (rs_drop (unhide HR).1 (unhide HX) z e))
            clear hyx hlt
            have HMm := hide hm
            clear hm
            have k1 := unhide C1 wr (Below.refl _ _)
            have k2 := unhide C2 wr (Below.refl _ _)
            have hqC : ¬ C.length ≤ j := by omega
            go_wp2
            go_quiet (fail)
            obtain ⟨V, hV⟩ : ∃ V, V = wr.drewN nq := ⟨_, rfl⟩
            rw [← hV]
            have bV : Below wr.heap.size wr V := by rw [hV]; exact below_drewN _ _ _
            clear hV k1 k2
            have k1 := unhide C1 V bV
            have k2 := unhide C2 V bV
            go_wp2
            go_quiet (fail)
            obtain ⟨U, hU⟩ : ∃ U, U = V.drewN nq := ⟨_, rfl⟩
            rw [← hU]
            have bU : Below wr.heap.size wr U := by rw [hU]; exact bV.trans (below_drewN _ _ _)
            clear hU k2 k1
            have k3 := unhide C2 U bU
            obtain ⟨g9, c9, W9, hrun9, mk9⟩ := (unhide HM).push bU y (unhide HMm) (by omega) 33
            have HRN := hide hrun9
            have HMK := hide mk9
            clear hrun9 mk9 HM HMm
            go_wp2_with (at_builtin; refine wpList_append_run rfl _ _ 33 33 rfl _ _ rfl rfl (.slice (some ⟨g9, 0, none⟩) (O.length + 1) c9) W9 (unhide HRN) ?_)
            go_roundw
            case rel => exact ⟨some ⟨g9, 0, none⟩, c9, i, j + 1, O ++ [y], by simp, by simp, by simp, by omega, by omega, by simp; omega, by rw [List.length_append]; exact HMK⟩
            case measure => simp [intOf]; omega
      · have hm := (unhide HM).mrg.left (unhide HR).1 (unhide HX) (fun z hz => by rw [List.drop_eq_nil_of_le (by omega)] at hz; cases hz)
        obtain rfl : j = C.length := by omega
        clear hj hjl
        have HMm := hide hm
        clear hm
        have k1 := unhide C1 wr (Below.refl _ _)
        go_wp2
        go_quiet (fail)
        obtain ⟨V, hV⟩ : ∃ V, V = wr.drewN nq := ⟨_, rfl⟩
        rw [← hV]
        have bV : Below wr.heap.size wr V := by rw [hV]; exact below_drewN _ _ _
        clear hV k1
        have k3 := unhide C1 V bV
        obtain ⟨g9, c9, W9, hrun9, mk9⟩ := (unhide HM).push bV x (unhide HMm) (by omega) 33
        have HRN := hide hrun9
        have HMK := hide mk9
        clear hrun9 mk9 HM HMm
        go_wp2_with (at_builtin; refine wpList_append_run rfl _ _ 33 33 rfl _ _ rfl rfl (.slice (some ⟨g9, 0, none⟩) (O.length + 1) c9) W9 (unhide HRN) ?_)
        go_roundw
        case rel => exact ⟨some ⟨g9, 0, none⟩, c9, i + 1, C.length, O ++ [x], by simp, by simp, by simp, by omega, by omega, by simp; omega, by rw [List.length_append]; exact HMK⟩
        case measure => simp [intOf]; omega
    · by_cases hjl : j < C.length
      · obtain ⟨gc, oc, rfl, hgc, hcc⟩ := unhide HC (by omega)
        obtain ⟨y, hy⟩ : ∃ y, C[j]? = some y := ⟨_, List.getElem?_eq_getElem hjl⟩
        have c2 : ∀ V, Below wr.heap.size wr V → V.cell? ⟨gc, oc + j, none⟩ = some (.string y) := fun V hV => (((unhide HM).old.trans (hV.mono (unhide HM).old.size)).cell (p := ⟨gc, oc + j, none⟩) hgc).trans (hcc j y hy)
        have HY := hide hy
        have C2 := hide c2
        clear hcc hy c2
        have hm := (unhide HM).mrg.right (unhide HR).2 (unhide HY) (fun z hz => by rw [List.drop_eq_nil_of_le (by omega)] at hz; cases hz)
        obtain rfl : i = A.length := by omega
        clear hi hil
        have HMm := hide hm
        clear hm
        have k2 := unhide C2 wr (Below.refl _ _)
        have hqC : ¬ C.length ≤ j := by omega
        go_wp2
        go_quiet (fail)
        obtain ⟨V, hV⟩ : ∃ V, V = wr.drewN nq := ⟨_, rfl⟩
        rw [← hV]
        have bV : Below wr.heap.size wr V := by rw [hV]; exact below_drewN _ _ _
        clear hV k2
        have k2 := unhide C2 V bV
        go_wp2
        go_quiet (fail)
        obtain ⟨U, hU⟩ : ∃ U, U = V.drewN nq := ⟨_, rfl⟩
        rw [← hU]
        have bU : Below wr.heap.size wr U := by rw [hU]; exact bV.trans (below_drewN _ _ _)
        clear hU k2
        have k3 := unhide C2 U bU
        obtain ⟨g9, c9, W9, hrun9, mk9⟩ := (unhide HM).push bU y (unhide HMm) (by omega) 33
        have HRN := hide hrun9
        have HMK := hide mk9
        clear hrun9 mk9 HM HMm
        go_wp2_with (at_builtin; refine wpList_append_run rfl _ _ 33 33 rfl _ _ rfl rfl (.slice (some ⟨g9, 0, none⟩) (O.length + 1) c9) W9 (unhide HRN) ?_)
        go_roundw
        case rel => exact ⟨some ⟨g9, 0, none⟩, c9, A.length, j + 1, O ++ [y], by simp, by simp, by simp, by omega, by omega, by simp; omega, by rw [List.length_append]; exact HMK⟩
        case measure => simp [intOf]; omega
      · have HF : Hid (∃ a' c', Value.slice a O.length c = .slice a' (ofS (A ++ C)).length c' ∧ Own wr (.slice a' (ofS (A ++ C)).length c') (ofS (A ++ C)) ∧ (∀ g, (Value.slice a' (ofS (A ++ C)).length c').ownBlock = some g → w.heap.size ≤ g) ∧ Below w.heap.size w wr) := by
          have e := (unhide HM).mrg.done (by omega) (by omega)
          rw [← e]
          exact ⟨a, c, rfl, (unhide HM).own, (unhide HM).new, (unhide HM).old⟩
        go_wp2
        go_ret
        obtain ⟨a', c', e, h1⟩ := unhide HF
        exact ⟨a', c', by rw [← e]; rfl, h1⟩
end Kz
end Rs
end Go.Proofs.YtbapnoafjcipjaaGreatDoor
