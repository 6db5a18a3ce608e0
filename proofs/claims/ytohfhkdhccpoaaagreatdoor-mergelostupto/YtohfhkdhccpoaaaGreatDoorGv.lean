/- Layer 9: the document's merge of two rising lists (layer 8's), without its streams. -/
import Derived.WalkSpells
import Derived.WalkLawsBesides
import Derived.Deep.QuietTactic
import Derived.BigQuiet
import Derived.Deep.DeepFit
import Derived.Test.YtohfhkdhccpoaaaGreatDoorGg
import Derived.Test.YtohfhkdhccpoaaaGreatDoorGu
import Derived.Test.YtohfhkdhccpoaaaGreatDoorGq
import Derived.Test.YtohfhkdhccpoaaaGreatDoorGi
namespace Go.Proofs.YtohfhkdhccpoaaaGreatDoor
open Go.RowKit Go.Shelf
namespace Rs
open Sm (Tx ofS lt lt_def lt_tr lt_tri rs_nil rs_cons rs_snoc rs_ext ofS_rs ofS_mem ofS_len)
def RowAt (w : World) (v : Value) (L : List Tx) (B : Nat) : Prop :=
  ∃ ao c, v = .slice ao L.length c ∧ (0 < L.length → ∃ g off, ao = some ⟨g, off, none⟩ ∧ g < B ∧ ∀ (j : Nat) x, L[j]? = some x → w.cell? ⟨g, off + j, none⟩ = some (.string x))
theorem RowAt.below {w w' : World} {v : Value} {L : List Tx} {B : Nat} (h : RowAt w v L B) (hb : Below B w w') : RowAt w' v L B := by
  obtain ⟨ao, c, e, hat⟩ := h
  refine ⟨ao, c, e, fun h0 => ?_⟩
  obtain ⟨g, off, e1, e2, e3⟩ := hat h0
  exact ⟨g, off, e1, e2, fun j x hj => (hb.cell (p := ⟨g, off + j, none⟩) e2).trans (e3 j x hj)⟩
theorem RowAt.mono {w : World} {v : Value} {L : List Tx} {B B' : Nat} (h : RowAt w v L B) (hB : B ≤ B') : RowAt w v L B' := by
  obtain ⟨ao, c, e, hat⟩ := h
  refine ⟨ao, c, e, fun h0 => ?_⟩
  obtain ⟨g, off, e1, e2, e3⟩ := hat h0
  exact ⟨g, off, e1, by omega, e3⟩
theorem Own.row {W : World} {v : Value} {A : List Tx} {B : Nat} (h : Own W v A) (hB : ∀ g, v.ownBlock = some g → g < B) : RowAt W v A B := by
  rcases h.2 with ⟨e1, e2⟩ | ⟨g, cap, cur, e1, _⟩
  · exact ⟨none, 0, by rw [e1, e2], fun h => by omega⟩
  · subst e1
    refine ⟨_, _, rfl, fun _ => ⟨g, 0, rfl, hB g rfl, fun j x hj => ?_⟩⟩
    have hjl := (List.getElem?_eq_some_iff.1 hj).1
    rw [Nat.zero_add, World.ownsRow.cellAt h j (by omega)]
    simp [txs, hj]
theorem own_row {w : World} {v : Value} {A : List Tx} (h : Own w v A) : RowAt w v A w.heap.size := h.row fun _ hg => (own_lt h hg).2
theorem CRow.any {w : World} {v : Value} {R : List Tx} {G : Nat → Prop} (h : CRow w v R G) : CRow w v R (fun _ => True) := by
  obtain ⟨ao, c, e, hc, hat⟩ := h
  refine ⟨ao, c, e, hc, fun h0 => ?_⟩
  obtain ⟨g, off, e1, _, e3, e4⟩ := hat h0
  exact ⟨g, off, e1, trivial, e3, e4⟩
theorem CRow.row {w : World} {v : Value} {R : List Tx} {G : Nat → Prop} (h : CRow w v R G) : RowAt w v R w.heap.size := by
  obtain ⟨ao, c, e, _, hat⟩ := h
  refine ⟨ao, c, e, fun h0 => ?_⟩
  obtain ⟨g, off, e1, _, e3, e4⟩ := hat h0
  exact ⟨g, off, e1, e3, e4⟩
theorem tx_beq {x y : Tx} : (x.toList == y.toList) = true ↔ x = y := by
  rw [beq_iff_eq, Lib.toList_data, Lib.toList_data]
  exact ⟨Sm.tx_ext, fun e => by rw [e]⟩
theorem CRow.front {w : World} {ao : Option Addr} {n c k : Nat} {A : List Tx} {G : Nat → Prop} (h : CRow w (.slice ao n c) A G) (hk : k ≤ A.length) : CRow w (.slice ao k c) (A.take k) G := by
  obtain ⟨ao', c', e, hc, hat⟩ := h
  injection e with e1 e2 e3
  subst e1 e3
  have hl : (A.take k).length = k := by simp; omega
  refine ⟨ao, c, by rw [hl], by omega, fun h0 => ?_⟩
  obtain ⟨g, off, e4, e5, e6, e7⟩ := hat (by omega)
  refine ⟨g, off, e4, e5, e6, fun j x hj => e7 j x ?_⟩
  have hjk : j < k := by have := (List.getElem?_eq_some_iff.1 hj).1; omega
  rw [List.getElem?_take_of_lt hjk] at hj
  exact hj
theorem CRow.rest {w : World} {g off n c k : Nat} {A : List Tx} {G : Nat → Prop} (h : CRow w (.slice (some ⟨g, off, none⟩) n c) A G) (hk : k < A.length) : CRow w (.slice (some ⟨g, off + k, none⟩) (n - k) (c - k)) (A.drop k) G := by
  obtain ⟨ao', c', e, hc, hat⟩ := h
  injection e with e1 e2 e3
  subst e1 e3
  have hl : (A.drop k).length = n - k := by simp; omega
  refine ⟨_, _, by rw [hl], by omega, fun h0 => ?_⟩
  obtain ⟨g', off', e4, e5, e6, e7⟩ := hat (by omega)
  injection e4 with e4
  injection e4 with e8 e9 e10
  subst e8 e9
  refine ⟨g, off + k, rfl, e5, e6, fun j x hj => ?_⟩
  rw [List.getElem?_drop] at hj
  have := e7 (k + j) x hj
  rw [show off + k + j = off + (k + j) by omega]
  exact this
namespace Kz
theorem wpList_append_run {P : Program} {w : World} {ops : Array Oper} {rest : List Oper} {o : Oper} {a : Act} {Q : Exit → Act → World → Prop} (hgd : o.guard = none) (s x : Operand) (t t' : TypeId)
    (ho : o.op = .call { callee := .builtin .append, args := #[s, x], argTypes := #[t, t'] }) (v f : Value) (hs : a.eval s = v) (hx : a.eval x = f) (v2 : Value) (w2 : World) (hrun : (Builtin.append_ #[t, t'] o.type #[v, f]).run P w = .ok v2 w2)
    (h : wpList P ops Q rest (a.put o.dst v2) w2) : wpList P ops Q (o :: rest) a w := by
  refine wpList_plain hgd fun K hK => ?_
  unfold Oper.wp
  simp [execOp, ho, resolve, invoke, builtin, hs, hx, hrun, Result.andThen]
  exact hK _ _ h
theorem below_drewN (B : Nat) (w : World) (n : Nat) : Below B w (w.drewN n) := ⟨rfl, rfl, rfl, Nat.le_refl _, fun _ _ => rfl⟩

/-- what was merged when i and j were taken -/
structure Mrg (A C : List Tx) (i j : Nat) (O : List Tx) : Prop where
  rs : Sm.Rs O
  mem : ∀ x, x ∈ O ↔ x ∈ A.take i ∨ x ∈ C.take j
  la : ∀ x ∈ O, ∀ z ∈ A.drop i, lt x z = true
  lc : ∀ x ∈ O, ∀ z ∈ C.drop j, lt x z = true
theorem Mrg.start (A C : List Tx) : Mrg A C 0 0 [] := ⟨rs_nil, by simp, by simp, by simp⟩
theorem drop_get {A : List Tx} {i : Nat} {x : Tx} (h : A[i]? = some x) : A.drop i = x :: A.drop (i + 1) := by
  obtain ⟨hl, rfl⟩ := List.getElem?_eq_some_iff.1 h
  exact List.drop_eq_getElem_cons hl
theorem take_get {A : List Tx} {i : Nat} {x : Tx} (h : A[i]? = some x) : A.take (i + 1) = A.take i ++ [x] := by rw [List.take_add_one, h]; rfl
theorem rs_drop {A : List Tx} {i : Nat} {x : Tx} (hA : Sm.Rs A) (h : A[i]? = some x) : ∀ z ∈ A.drop (i + 1), lt x z = true := by
  have : Sm.Rs (A.drop i) := List.Pairwise.sublist (List.drop_sublist i A) hA
  rw [drop_get h] at this
  exact (rs_cons.1 this).1
theorem Mrg.left {A C : List Tx} {i j : Nat} {O : List Tx} {x : Tx} (h : Mrg A C i j O) (hA : Sm.Rs A) (hx : A[i]? = some x) (hc : ∀ z ∈ C.drop j, lt x z = true) : Mrg A C (i + 1) j (O ++ [x]) := by
  have hm : x ∈ A.drop i := by rw [drop_get hx]; simp
  refine ⟨rs_snoc h.rs fun a ha => h.la a ha x hm, fun z => ?_, fun z hz y hy => ?_, fun z hz y hy => ?_⟩
  · rw [List.mem_append, h.mem, take_get hx, List.mem_append]
    constructor
    · rintro ((e | e) | e)
      · exact .inl (.inl e)
      · exact .inr e
      · exact .inl (.inr e)
    · rintro ((e | e) | e)
      · exact .inl (.inl e)
      · exact .inr e
      · exact .inl (.inr e)
  · rcases List.mem_append.1 hz with e | e
    · exact h.la z e y (by rw [drop_get hx]; exact List.mem_cons_of_mem _ hy)
    · simp at e; subst e; exact rs_drop hA hx y hy
  · rcases List.mem_append.1 hz with e | e
    · exact h.lc z e y hy
    · simp at e; subst e; exact hc y hy
theorem Mrg.right {A C : List Tx} {i j : Nat} {O : List Tx} {x : Tx} (h : Mrg A C i j O) (hC : Sm.Rs C) (hx : C[j]? = some x) (ha : ∀ z ∈ A.drop i, lt x z = true) : Mrg A C i (j + 1) (O ++ [x]) := by
  have hm : x ∈ C.drop j := by rw [drop_get hx]; simp
  refine ⟨rs_snoc h.rs fun a ha => h.lc a ha x hm, fun z => ?_, fun z hz y hy => ?_, fun z hz y hy => ?_⟩
  · rw [List.mem_append, h.mem, take_get hx, List.mem_append]
    constructor
    · rintro ((e | e) | e)
      · exact .inl e
      · exact .inr (.inl e)
      · exact .inr (.inr e)
    · rintro (e | (e | e))
      · exact .inl (.inl e)
      · exact .inl (.inr e)
      · exact .inr e
  · rcases List.mem_append.1 hz with e | e
    · exact h.la z e y hy
    · simp at e; subst e; exact ha y hy
  · rcases List.mem_append.1 hz with e | e
    · exact h.lc z e y (by rw [drop_get hx]; exact List.mem_cons_of_mem _ hy)
    · simp at e; subst e; exact rs_drop hC hx y hy
theorem Mrg.both {A C : List Tx} {i j : Nat} {O : List Tx} {x : Tx} (h : Mrg A C i j O) (hA : Sm.Rs A) (hC : Sm.Rs C) (hx : A[i]? = some x) (hy : C[j]? = some x) : Mrg A C (i + 1) (j + 1) (O ++ [x]) := by
  have hm : x ∈ C.drop j := by rw [drop_get hy]; simp
  refine ⟨rs_snoc h.rs fun a ha => h.lc a ha x hm, fun z => ?_, fun z hz y hy' => ?_, fun z hz y hy' => ?_⟩
  · rw [List.mem_append, h.mem, take_get hx, take_get hy, List.mem_append, List.mem_append]
    constructor
    · rintro ((e | e) | e)
      · exact .inl (.inl e)
      · exact .inr (.inl e)
      · exact .inr (.inr e)
    · rintro ((e | e) | (e | e))
      · exact .inl (.inl e)
      · exact .inr e
      · exact .inl (.inr e)
      · exact .inr e
  · rcases List.mem_append.1 hz with e | e
    · exact h.la z e y (by rw [drop_get hx]; exact List.mem_cons_of_mem _ hy')
    · simp at e; subst e; exact rs_drop hA hx y hy'
  · rcases List.mem_append.1 hz with e | e
    · exact h.lc z e y (by rw [drop_get hy]; exact List.mem_cons_of_mem _ hy')
    · simp at e; subst e; exact rs_drop hC hy y hy'
theorem Mrg.done {A C O : List Tx} {i j : Nat} (h : Mrg A C i j O) (hi : A.length ≤ i) (hj : C.length ≤ j) : O = ofS (A ++ C) := by
  refine rs_ext h.rs (ofS_rs _) fun x => ?_
  rw [h.mem, ofS_mem, List.take_of_length_le hi, List.take_of_length_le hj, List.mem_append]
/-- the list that was made up to now -/
structure Mk (w wr : World) (A C : List Tx) (i j : Nat) (v : Value) (O : List Tx) : Prop where
  own : Own wr v O
  new : ∀ g, v.ownBlock = some g → w.heap.size ≤ g
  old : Below w.heap.size w wr
  mrg : Mrg A C i j O
theorem own_drewN {w : World} {v : Value} {O : List Tx} (h : Own w v O) (q : Nat) : Own (w.drewN q) v O := h.below (below_drewN _ _ _)
/-- one text more -/
theorem Mk.push {w wr V : World} {A C O : List Tx} {i j i' j' : Nat} {v : Value} (h : Mk w wr A C i j v O) (hV : Below wr.heap.size wr V) (x : Tx) (hm : Mrg A C i' j' (O ++ [x])) (hz : O.length + 1 ≤ 8796093022208) (ty : TypeId) :
    ∃ g c W', (Builtin.append_ #[29, 29] ty #[v, .slice (some ⟨V.heap.size, 0, none⟩) 1 1]).run Tryz.prog (V.alloc (.cells #[.string x] 9)) = .ok (.slice (some ⟨g, 0, none⟩) (O.length + 1) c) W' ∧ Mk w W' A C i' j' (.slice (some ⟨g, 0, none⟩) (O.length + 1) c) (O ++ [x]) := by
  obtain ⟨g, c, W', hrun, ho, hc, hu, hd⟩ := push_tx x (h.own.below hV) hz 29 ty Tryz.underlying29
  have s1 := h.old.size
  have s2 := hV.size
  refine ⟨g, c, W', hrun, ho, fun g' hg' => ?_, (h.old.trans (hV.mono s1)).trans (hc.below (by omega) fun b hb => h.new b hb), hm⟩
  have e : g = g' := by injection hg'
  subst e
  rcases hu with e | e
  · exact h.new g e
  · omega
set_option maxRecDepth 100000 in
set_option maxHeartbeats 8000000 in
theorem merge_any {w : World} {va vc : Value} {A C : List Tx} (ha : RowAt w va A w.heap.size) (hc : RowAt w vc C w.heap.size) (hA : Sm.Rs A) (hC : Sm.Rs C) (hz : A.length + C.length ≤ 8796093022208) :
    Calls Tryz.prog 92 #[va, vc] w fun e w' => ∃ a c, e = .returned (.slice a (ofS (A ++ C)).length c) ∧ Own w' (.slice a (ofS (A ++ C)).length c) (ofS (A ++ C)) ∧ (∀ g, (Value.slice a (ofS (A ++ C)).length c).ownBlock = some g → w.heap.size ≤ g) ∧ Below w.heap.size w w' := by
  obtain ⟨aa, ca, rfl, hat⟩ := ha
  obtain ⟨ac, cc, rfl, hct⟩ := hc
  have HA := hide hat
  have HC := hide hct
  have HR := hide (⟨hA, hC⟩ : _ ∧ _)
  clear hat hct hA hC
  go_enter Tryz.func92, Tryz.ntmps92
  go_wp2
  go_loopw [5, 6, 7] (fun s p q wr => ∃ (a : Option Addr) (c i j : Nat) (O : List Tx), s = .slice a O.length c ∧ p = .int .i64 (i : Int) ∧ q = .int .i64 (j : Int) ∧ i ≤ A.length ∧ j ≤ C.length ∧ O.length ≤ i + j ∧ Hid (Mk w wr A C i j (.slice a O.length c) O)) (fun _ p q _ => A.length + C.length - (intOf p).toNat - (intOf q).toNat)
  case atStart => exact ⟨none, 0, 0, 0, [], rfl, rfl, rfl, Nat.zero_le _, Nat.zero_le _, by simp, World.ownsRow_nil _ _ _ _, (fun g hg => by cases hg), Below.refl _ _, Mrg.start A C⟩
  case round =>
    obtain ⟨a, c, i, j, O, rfl, rfl, rfl, hi, hj, hO, HM⟩ := hrel
    by_cases hil : i < A.length
    · obtain ⟨ga, oa, rfl, hga, hca⟩ := unhide HA (by omega)
      obtain ⟨x, hx⟩ : ∃ x, A[i]? = some x := ⟨_, List.getElem?_eq_getElem hil⟩
      have c1 : ∀ V, Below wr.heap.size wr V → V.cell? ⟨ga, oa + i, none⟩ = some (.string x) := fun V hV => (((unhide HM).old.trans (hV.mono (unhide HM).old.size)).cell (p := ⟨ga, oa + i, none⟩) hga).trans (hca i x hx)
      have HX := hide hx
      have C1 := hide c1
      clear hca hx c1
      by_cases hjl : j < C.length
      · obtain ⟨gc, oc, rfl, hgc, hcc⟩ := unhide HC (by omega)
        obtain ⟨y, hy⟩ : ∃ y, C[j]? = some y := ⟨_, List.getElem?_eq_getElem hjl⟩
        have c2 : ∀ V, Below wr.heap.size wr V → V.cell? ⟨gc, oc + j, none⟩ = some (.string y) := fun V hV => (((unhide HM).old.trans (hV.mono (unhide HM).old.size)).cell (p := ⟨gc, oc + j, none⟩) hgc).trans (hcc j y hy)
        have HY := hide hy
        have C2 := hide c2
        clear hcc hy c2
        have e1 := lt_def x y
        cases hlt : lt x y with
        | true =>
          rw [hlt] at e1
          have hm := (unhide HM).mrg.left (unhide HR).1 (unhide HX) (fun z hz => by
            rw [drop_get (unhide HY)] at hz
            rcases List.mem_cons.1 hz with e | e
            · rw [e]; exact hlt
            · exact lt_tr hlt (rs_drop (unhide HR).2 (unhide HY) z e))
          have HMm := hide hm
          clear hm
          have k1 := unhide C1 wr (Below.refl _ _)
          have k2 := unhide C2 wr (Below.refl _ _)
          have hqC : ¬ C.length ≤ j := by omega
          go_wp2
          go_quiet (fail)
          obtain ⟨V, hV⟩ : ∃ V, V = wr.drewN nq := ⟨_, rfl⟩
          rw [← hV]
          have bV : Below wr.heap.size wr V := by rw [hV]; exact below_drewN _ _ _
          clear hV k1 k2
          have k3 := unhide C1 V bV
          obtain ⟨g9, c9, W9, hrun9, mk9⟩ := (unhide HM).push bV x (unhide HMm) (by omega) 29
          have HRN := hide hrun9
          have HMK := hide mk9
          clear hrun9 mk9 HM HMm
          go_wp2_with (at_builtin; refine wpList_append_run rfl _ _ 29 29 rfl _ _ rfl rfl (.slice (some ⟨g9, 0, none⟩) (O.length + 1) c9) W9 (unhide HRN) ?_)
          go_roundw
          case rel => exact ⟨some ⟨g9, 0, none⟩, c9, i + 1, j, O ++ [x], by simp, by simp, by simp, by omega, by omega, by simp; omega, by rw [List.length_append]; exact HMK⟩
          case measure => simp [intOf]; omega
        | false =>
          rw [hlt] at e1
          cases heq : (x.toList == y.toList) with
          | true =>
            have exy : x = y := tx_beq.1 heq
            have hm := (unhide HM).mrg.both (unhide HR).1 (unhide HR).2 (unhide HX) (by rw [exy]; exact unhide HY)
            rw [exy] at hm
            clear exy hlt
            have HMm := hide hm
            clear hm
            have k1 := unhide C1 wr (Below.refl _ _)
            have k2 := unhide C2 wr (Below.refl _ _)
            have hqC : ¬ C.length ≤ j := by omega
            go_wp2
            go_quiet (fail)
            obtain ⟨V, hV⟩ : ∃ V, V = wr.drewN nq := ⟨_, rfl⟩
            rw [← hV]
            have bV : Below wr.heap.size wr V := by rw [hV]; exact below_drewN _ _ _
            clear hV k1 k2
            have k1 := unhide C1 V bV
            have k2 := unhide C2 V bV
            go_wp2
            go_quiet (fail)
            obtain ⟨U, hU⟩ : ∃ U, U = V.drewN nq := ⟨_, rfl⟩
            rw [← hU]
            have bU : Below wr.heap.size wr U := by rw [hU]; exact bV.trans (below_drewN _ _ _)
            clear hU k2 k1
            have k3 := unhide C2 U bU
            obtain ⟨g9, c9, W9, hrun9, mk9⟩ := (unhide HM).push bU y (unhide HMm) (by omega) 29
            have HRN := hide hrun9
            have HMK := hide mk9
            clear hrun9 mk9 HM HMm
            go_wp2_with (at_builtin; refine wpList_append_run rfl _ _ 29 29 rfl _ _ rfl rfl (.slice (some ⟨g9, 0, none⟩) (O.length + 1) c9) W9 (unhide HRN) ?_)
            go_roundw
            case rel => exact ⟨some ⟨g9, 0, none⟩, c9, i + 1, j + 1, O ++ [y], by simp, by simp, by simp, by omega, by omega, by simp; omega, by rw [List.length_append]; exact HMK⟩
            case measure => simp [intOf]; omega
          | false =>
            have hyx : lt y x = true := by
              rcases lt_tri x y with e | e | e
              · rw [e] at hlt; cases hlt
              · have := tx_beq.2 e; rw [this] at heq; cases heq
              · exact e
            have hm := (unhide HM).mrg.right (unhide HR).2 (unhide HY) (fun z hz => by
              rw [drop_get (unhide HX)] at hz
              rcases List.mem_cons.1 hz with e | e
              · rw [e]; exact hyx
              · exact lt_tr hyx (rs_drop (unhide HR).1 (unhide HX) z e))
            clear hyx hlt
            have HMm := hide hm
            clear hm
            have k1 := unhide C1 wr (Below.refl _ _)
            have k2 := unhide C2 wr (Below.refl _ _)
            have hqC : ¬ C.length ≤ j := by omega
            go_wp2
            go_quiet (fail)
            obtain ⟨V, hV⟩ : ∃ V, V = wr.drewN nq := ⟨_, rfl⟩
            rw [← hV]
            have bV : Below wr.heap.size wr V := by rw [hV]; exact below_drewN _ _ _
            clear hV k1 k2
            have k1 := unhide C1 V bV
            have k2 := unhide C2 V bV
            go_wp2
            go_quiet (fail)
            obtain ⟨U, hU⟩ : ∃ U, U = V.drewN nq := ⟨_, rfl⟩
            rw [← hU]
            have bU : Below wr.heap.size wr U := by rw [hU]; exact bV.trans (below_drewN _ _ _)
            clear hU k2 k1
            have k3 := unhide C2 U bU
            obtain ⟨g9, c9, W9, hrun9, mk9⟩ := (unhide HM).push bU y (unhide HMm) (by omega) 29
            have HRN := hide hrun9
            have HMK := hide mk9
            clear hrun9 mk9 HM HMm
            go_wp2_with (at_builtin; refine wpList_append_run rfl _ _ 29 29 rfl _ _ rfl rfl (.slice (some ⟨g9, 0, none⟩) (O.length + 1) c9) W9 (unhide HRN) ?_)
            go_roundw
            case rel => exact ⟨some ⟨g9, 0, none⟩, c9, i, j + 1, O ++ [y], by simp, by simp, by simp, by omega, by omega, by simp; omega, by rw [List.length_append]; exact HMK⟩
            case measure => simp [intOf]; omega
      · have hm := (unhide HM).mrg.left (unhide HR).1 (unhide HX) (fun z hz => by rw [List.drop_eq_nil_of_le (by omega)] at hz; cases hz)
        obtain rfl : j = C.length := by omega
        clear hj hjl
        have HMm := hide hm
        clear hm
        have k1 := unhide C1 wr (Below.refl _ _)
        go_wp2
        go_quiet (fail)
        obtain ⟨V, hV⟩ : ∃ V, V = wr.drewN nq := ⟨_, rfl⟩
        rw [← hV]
        have bV : Below wr.heap.size wr V := by rw [hV]; exact below_drewN _ _ _
        clear hV k1
        have k3 := unhide C1 V bV
        obtain ⟨g9, c9, W9, hrun9, mk9⟩ := (unhide HM).push bV x (unhide HMm) (by omega) 29
        have HRN := hide hrun9
        have HMK := hide mk9
        clear hrun9 mk9 HM HMm
        go_wp2_with (at_builtin; refine wpList_append_run rfl _ _ 29 29 rfl _ _ rfl rfl (.slice (some ⟨g9, 0, none⟩) (O.length + 1) c9) W9 (unhide HRN) ?_)
        go_roundw
        case rel => exact ⟨some ⟨g9, 0, none⟩, c9, i + 1, C.length, O ++ [x], by simp, by simp, by simp, by omega, by omega, by simp; omega, by rw [List.length_append]; exact HMK⟩
        case measure => simp [intOf]; omega
    · by_cases hjl : j < C.length
      · obtain ⟨gc, oc, rfl, hgc, hcc⟩ := unhide HC (by omega)
        obtain ⟨y, hy⟩ : ∃ y, C[j]? = some y := ⟨_, List.getElem?_eq_getElem hjl⟩
        have c2 : ∀ V, Below wr.heap.size wr V → V.cell? ⟨gc, oc + j, none⟩ = some (.string y) := fun V hV => (((unhide HM).old.trans (hV.mono (unhide HM).old.size)).cell (p := ⟨gc, oc + j, none⟩) hgc).trans (hcc j y hy)
        have HY := hide hy
        have C2 := hide c2
        clear hcc hy c2
        have hm := (unhide HM).mrg.right (unhide HR).2 (unhide HY) (fun z hz => by rw [List.drop_eq_nil_of_le (by omega)] at hz; cases hz)
        obtain rfl : i = A.length := by omega
        clear hi hil
        have HMm := hide hm
        clear hm
        have k2 := unhide C2 wr (Below.refl _ _)
        have hqC : ¬ C.length ≤ j := by omega
        go_wp2
        go_quiet (fail)
        obtain ⟨V, hV⟩ : ∃ V, V = wr.drewN nq := ⟨_, rfl⟩
        rw [← hV]
        have bV : Below wr.heap.size wr V := by rw [hV]; exact below_drewN _ _ _
        clear hV k2
        have k2 := unhide C2 V bV
        go_wp2
        go_quiet (fail)
        obtain ⟨U, hU⟩ : ∃ U, U = V.drewN nq := ⟨_, rfl⟩
        rw [← hU]
        have bU : Below wr.heap.size wr U := by rw [hU]; exact bV.trans (below_drewN _ _ _)
        clear hU k2
        have k3 := unhide C2 U bU
        obtain ⟨g9, c9, W9, hrun9, mk9⟩ := (unhide HM).push bU y (unhide HMm) (by omega) 29
        have HRN := hide hrun9
        have HMK := hide mk9
        clear hrun9 mk9 HM HMm
        go_wp2_with (at_builtin; refine wpList_append_run rfl _ _ 29 29 rfl _ _ rfl rfl (.slice (some ⟨g9, 0, none⟩) (O.length + 1) c9) W9 (unhide HRN) ?_)
        go_roundw
        case rel => exact ⟨some ⟨g9, 0, none⟩, c9, A.length, j + 1, O ++ [y], by simp, by simp, by simp, by omega, by omega, by simp; omega, by rw [List.length_append]; exact HMK⟩
        case measure => simp [intOf]; omega
      · have HF : Hid (∃ a' c', Value.slice a O.length c = .slice a' (ofS (A ++ C)).length c' ∧ Own wr (.slice a' (ofS (A ++ C)).length c') (ofS (A ++ C)) ∧ (∀ g, (Value.slice a' (ofS (A ++ C)).length c').ownBlock = some g → w.heap.size ≤ g) ∧ Below w.heap.size w wr) := by
          have e := (unhide HM).mrg.done (by omega) (by omega)
          rw [← e]
          exact ⟨a, c, rfl, (unhide HM).own, (unhide HM).new, (unhide HM).old⟩
        go_wp2
        go_ret
        obtain ⟨a', c', e, h1⟩ := unhide HF
        exact ⟨a', c', by rw [← e]; rfl, h1⟩
end Kz
end Rs
end Go.Proofs.YtohfhkdhccpoaaaGreatDoor
/- Layer 9: the document's Of (layer 8's). -/
namespace Go.Proofs.YtohfhkdhccpoaaaGreatDoor
open Go.RowKit Go.Shelf
namespace Rs
open Sm (Tx ofS lt lt_def lt_tr lt_tri rs_nil rs_cons rs_snoc rs_ext ofS_rs ofS_mem ofS_len)
namespace Kz

theorem ofS_nil : ofS [] = [] := rs_ext (ofS_rs _) rs_nil fun x => by rw [ofS_mem]
theorem ofS_one (x : Tx) : ofS [x] = [x] := rs_ext (ofS_rs _) (by simp [Sm.Rs]) fun z => by rw [ofS_mem]
theorem ofS_halves (A C : List Tx) : ofS (ofS A ++ ofS C) = ofS (A ++ C) := rs_ext (ofS_rs _) (ofS_rs _) fun z => by rw [ofS_mem, ofS_mem, List.mem_append, List.mem_append, ofS_mem, ofS_mem]
theorem own_one (w : World) (x : Tx) : Own (w.alloc (.cells #[.string x] 9)) (.slice (some ⟨w.heap.size, 0, none⟩) 1 1) [x] :=
  ⟨by simp [txs], .inr ⟨w.heap.size, 1, #[.string x], rfl, Nat.zero_le _, World.alloc_heap_new w _, Nat.le_refl _, by unfold maxLen; omega, rfl, rfl⟩⟩

set_option maxRecDepth 100000 in
set_option maxHeartbeats 2000000 in
theorem rof_any : ∀ (m : Nat) (w : World) (v : Value) (A : List Tx), A.length ≤ m → CRow w v A (fun _ => True) → A.length ≤ 8796093022208 →
    Calls Tryz.prog 109 #[v] w fun e w' => ∃ a c, e = .returned (.slice a (ofS A).length c) ∧ Own w' (.slice a (ofS A).length c) (ofS A) ∧ (∀ g, (Value.slice a (ofS A).length c).ownBlock = some g → w.heap.size ≤ g) ∧ Below w.heap.size w w' := by
  intro m
  induction m with
  | zero =>
    intro w v A hm h hz
    have hA := List.eq_nil_of_length_eq_zero (Nat.le_zero.1 hm)
    subst hA
    obtain ⟨a, c, rfl⟩ := h.slice
    rw [ofS_nil]
    clear h hm hz
    simp only [List.length_nil]
    go_enter Tryz.func109, Tryz.ntmps109
    go_wp2
    go_ret
    exact ⟨none, 0, rfl, World.ownsRow_nil _ _ _ _, (fun g hg => by cases hg), Below.refl _ _⟩
  | succ m ih =>
    intro w v A hm h hz
    obtain ⟨a, c, rfl⟩ := h.slice
    by_cases h0 : A.length = 0
    · have hA := List.eq_nil_of_length_eq_zero h0
      subst hA
      rw [ofS_nil]
      clear h hm hz ih h0
      simp only [List.length_nil]
      go_enter Tryz.func109, Tryz.ntmps109
      go_wp2
      go_ret
      exact ⟨none, 0, rfl, World.ownsRow_nil _ _ _ _, (fun g hg => by cases hg), Below.refl _ _⟩
    · by_cases h1 : A.length = 1
      · obtain ⟨x, rfl⟩ := List.length_eq_one_iff.1 h1
        rw [ofS_one]
        obtain ⟨ao, c', e, hc, hat⟩ := h
        obtain ⟨g, off, rfl, _, hg, hcell⟩ := hat (by simp)
        injection e with e1 e2 e3
        subst e1 e3
        have k1 : w.cell? ⟨g, off, none⟩ = some (.string x) := hcell 0 x rfl
        have HF := hide (own_one w x)
        clear hm hz ih h0 h1 hat hcell hc e2
        simp only [List.length_singleton]
        go_enter Tryz.func109, Tryz.ntmps109
        go_wp2
        go_ret
        exact ⟨some ⟨w.heap.size, 0, none⟩, 1, rfl, unhide HF, fun g' hg' => by have e : w.heap.size = g' := by injection hg'
                                                                                omega, by (repeat (first | exact Below.refl _ _ | refine Below.drew ?_ | refine Below.alloc ?_ (by first | (simp; done) | (simp; omega)) _ | refine Below.setCell ?_ (by first | (simp; done) | (simp; omega)) _))⟩
      · have hn2 : 2 ≤ A.length := by omega
        have hcc : A.length ≤ c := by obtain ⟨ao', c', e, hc, hat⟩ := h; injection e with e1 e2 e3; omega
        obtain ⟨g, off, rfl, hg⟩ : ∃ g off, a = some ⟨g, off, none⟩ ∧ g < w.heap.size := by
          obtain ⟨ao', c', e, hc, hat⟩ := h
          injection e with e1 e2 e3
          obtain ⟨g, off, e4, _, e5, _⟩ := hat (by omega)
          exact ⟨g, off, by rw [e1, e4], e5⟩
        have H1 := hide (ih w (.slice (some ⟨g, off, none⟩) (A.length / 2) c) (A.take (A.length / 2)) (by simp; omega) (h.front (by omega)) (by simp; omega))
        have H2 := hide (fun W (hW : Below w.heap.size w W) => ih W (.slice (some ⟨g, off + A.length / 2, none⟩) (A.length - A.length / 2) (c - A.length / 2)) (A.drop (A.length / 2)) (by simp; omega) ((h.rest (by omega)).below hW) (by simp; omega))
        have HL : Hid (ofS (ofS (A.take (A.length / 2)) ++ ofS (A.drop (A.length / 2))) = ofS A) := by
          have := ofS_halves (A.take (A.length / 2)) (A.drop (A.length / 2))
          rw [List.take_append_drop] at this
          exact this
        have HRS := hide (⟨ofS_rs (A.take (A.length / 2)), ofS_rs (A.drop (A.length / 2))⟩ : _ ∧ _)
        have hl1 := ofS_len (A.take (A.length / 2))
        have hl2 := ofS_len (A.drop (A.length / 2))
        have hls : (ofS (A.take (A.length / 2))).length + (ofS (A.drop (A.length / 2))).length ≤ 8796093022208 := by
          simp only [List.length_take, List.length_drop] at hl1 hl2
          omega
        have hdv : ((A.length : Int)).tdiv 2 = ((A.length / 2 : Nat) : Int) := rfl
        have hh : A.length / 2 ≤ A.length := by omega
        have hh2 : ¬ c = A.length / 2 := by omega
        clear ih h hl1 hl2 hm
        generalize A.length / 2 = hf at *
        generalize ofS (A.take hf) = P1 at *
        generalize ofS (A.drop hf) = P2 at *
        go_enter Tryz.func109, Tryz.ntmps109
        go_wp2_with fail
        refine (unhide H1).mono ?_
        rintro e w1 ⟨a1, c1, rfl, ho1, hn1, hb1⟩
        have HF1 := hide (⟨ho1, hb1⟩ : _ ∧ _)
        clear ho1 hn1 hb1 H1
        go_wp2_with fail
        obtain ⟨ho1, hb1⟩ := unhide HF1
        refine (unhide H2 w1 hb1).mono ?_
        rintro e w2 ⟨a2, c2, rfl, ho2, hn2, hb2⟩
        have s1 := hb1.size
        have HF2 := hide (⟨ho1.below hb2, ho2, hb1.trans (hb2.mono s1)⟩ : _ ∧ _ ∧ _)
        clear HF1 ho1 hb1 ho2 hn2 hb2 H2
        go_wp2_with fail
        obtain ⟨ho1, ho2, hb2⟩ := unhide HF2
        have s2 := hb2.size
        refine (merge_any (own_row ho1) (own_row ho2) (unhide HRS).1 (unhide HRS).2 hls).mono ?_
        rintro e w3 ⟨a3, c3, rfl, ho3, hn3, hb3⟩
        rw [unhide HL] at ho3 hn3 ⊢
        have HF3 := hide (⟨ho3, fun g hg => Nat.le_trans s2 (hn3 g hg), hb2.trans (hb3.mono s2)⟩ : Own w3 (.slice a3 (ofS A).length c3) (ofS A) ∧ (∀ g, (Value.slice a3 (ofS A).length c3).ownBlock = some g → w.heap.size ≤ g) ∧ Below w.heap.size w w3)
        clear HF2 ho1 ho2 hb2 ho3 hn3 hb3
        go_wp2
        go_ret
        exact ⟨a3, c3, rfl, unhide HF3⟩
theorem rof {w : World} {v : Value} {A : List Tx} {G : Nat → Prop} (h : CRow w v A G) (hz : A.length ≤ 8796093022208) :
    Calls Tryz.prog 109 #[v] w fun e w' => ∃ a c, e = .returned (.slice a (ofS A).length c) ∧ Own w' (.slice a (ofS A).length c) (ofS A) ∧ (∀ g, (Value.slice a (ofS A).length c).ownBlock = some g → w.heap.size ≤ g) ∧ Below w.heap.size w w' :=
  rof_any A.length w v A (Nat.le_refl _) h.any hz
end Kz
end Rs
end Go.Proofs.YtohfhkdhccpoaaaGreatDoor
/- Layer 9: the document's former in memory; its runs are removed. -/
namespace Go.Proofs.YtohfhkdhccpoaaaGreatDoor
open Go.RowKit
namespace Rs
open Sm (Tx ofS)
/-- a list of numbers in memory -/
def NAt (w : World) (v : Value) (l : List Nat) : Prop := ∃ ao c, v = .slice ao l.length c ∧ (0 < l.length → ∃ g off, ao = some ⟨g, off, none⟩ ∧ g < w.heap.size ∧ ∀ (j n : Nat), l[j]? = some n → w.cell? ⟨g, off + j, none⟩ = some (.int .i64 n))
theorem nat_of {w : World} {v : Value} {l : List Nat} (h : w.ownsRow 0 3 1 v l.length (nts l)) : NAt w v l := by
  rcases h.2 with ⟨e1, e2⟩ | ⟨g, cap, cur, e1, hb⟩
  · exact ⟨none, 0, by rw [e1, e2], fun h => by omega⟩
  · subst e1
    refine ⟨_, _, rfl, fun _ => ⟨g, 0, rfl, (own_lt h rfl).2, fun j n hj => ?_⟩⟩
    rw [Nat.zero_add]
    exact nums_cell h hj
theorem NAt.below {w w' : World} {v : Value} {l : List Nat} (h : NAt w v l) (hb : Below w.heap.size w w') : NAt w' v l := by
  obtain ⟨ao, c, e, h⟩ := h
  refine ⟨ao, c, e, fun h0 => ?_⟩
  obtain ⟨g, off, e1, hg, hc⟩ := h h0
  exact ⟨g, off, e1, Nat.lt_of_lt_of_le hg hb.size, fun j n hj => (hb.cell (p := ⟨g, off + j, none⟩) hg).trans (hc j n hj)⟩
def gC (hv mv : Value) (s d : Nat) : Array Value := #[hv, .int .i64 s, mv, .int .i64 d]
def GBk (W : World) (gb : Nat) (hv mv : Value) (s d : Nat) : Prop := W.heap[gb]? = some (.cells (gC hv mv s d) 131 (0, 0))
section
variable {W : World} {gb s d : Nat} {hv mv : Value}
theorem gcells (h : GBk W gb hv mv s d) : W.cell? ⟨gb, 0, none⟩ = some hv ∧ W.cell? ⟨gb, 1, none⟩ = some (.int .i64 s) ∧ W.cell? ⟨gb, 2, none⟩ = some mv ∧ W.cell? ⟨gb, 3, none⟩ = some (.int .i64 d) ∧ (∀ k, W.frozen? ⟨gb, k, none⟩ = false) ∧ gb < W.heap.size := by
  unfold GBk at h
  refine ⟨?_, ?_, ?_, ?_, fun k => ?_, (Array.getElem?_eq_some_iff.1 h).1⟩ <;> simp [World.cell?, World.frozen?, h, gC]
theorem GBk.kept {W' : World} (h : GBk W gb hv mv s d) (hb : W'.heap[gb]? = W.heap[gb]?) : GBk W' gb hv mv s d := hb.trans h
theorem GBk.set0 (h : GBk W gb hv mv s d) (v : Value) : GBk (W.setCell ⟨gb, 0, none⟩ v) gb v mv s d := by
  unfold GBk at h ⊢
  rw [Um.set_heap1 h]
  simp [gC]
theorem GBk.set2 (h : GBk W gb hv mv s d) (v : Value) : GBk (W.setCell ⟨gb, 2, none⟩ v) gb hv v s d := by
  unfold GBk at h ⊢
  rw [Um.set_heap1 h]
  simp [gC]
theorem GBk.set3 (h : GBk W gb hv mv s d) (d' : Nat) : GBk (W.setCell ⟨gb, 3, none⟩ (.int .i64 d')) gb hv mv s d' := by
  unfold GBk at h ⊢
  rw [Um.set_heap1 h]
  simp [gC]
end
/-- the document's store and a living former of it -/
structure GIn (W : World) (sb gb : Nat) (m : Sto) (f : For) (F S : Nat → Prop) (hv mv : Value) : Prop where
  sto : ∃ rv sl, DIn W sb m S rv sl
  blk : GBk W gb hv mv f.size f.dead
  hel : Own W hv f.buf
  mad : W.ownsRow 0 3 1 mv f.made.length (nts f.made)
  sub : ∀ b, S b → F b
  own : F gb
  ngb : ¬ S gb
  hF : ∀ g, hv.ownBlock = some g → F g ∧ ¬ S g
  mF : ∀ g, mv.ownBlock = some g → F g ∧ ¬ S g
  lt : ∀ b, F b → b < W.heap.size
theorem GIn.kept {W W' : World} {sb gb : Nat} {m : Sto} {f : For} {F S : Nat → Prop} {hv mv : Value} (h : GIn W sb gb m f F S hv mv) (hb : ∀ b, F b → W'.heap[b]? = W.heap[b]?) (hs : W.heap.size ≤ W'.heap.size) : GIn W' sb gb m f F S hv mv := by
  obtain ⟨rv, sl, hd⟩ := h.sto
  exact ⟨⟨rv, sl, hd.kept (fun b hS => hb b (h.sub b hS)) (fun _ x => x) fun b hS => Nat.lt_of_lt_of_le (h.lt b (h.sub b hS)) hs⟩, h.blk.kept (hb gb h.own), h.hel.kept fun g hg => hb g (h.hF g hg).1, own_kept h.mad fun g hg => hb g (h.mF g hg).1, h.sub, h.own, h.ngb, h.hF, h.mF, fun b hF => Nat.lt_of_lt_of_le (h.lt b hF) hs⟩
theorem DRes.start {S : Nat → Prop} {W : World} {sb : Nat} {m : Sto} {rv : Value} {sl : Nat → Value} (h : DIn W sb m S rv sl) : DRes S W sb m W := ⟨⟨rv, sl, h.up⟩, Chg.refl _ _⟩
theorem DRes.then {S : Nat → Prop} {W wr w' : World} {sb : Nat} {m m' : Sto} (h : DRes S W sb m wr) (k : DRes (Up S W wr) wr sb m' w') (hS : ∀ b, S b → b < W.heap.size) : DRes S W sb m' w' := by
  obtain ⟨_, c1⟩ := h
  obtain ⟨⟨rv, sl, hd⟩, c2⟩ := k
  have s1 := c1.size
  have s2 := c2.size
  refine ⟨⟨rv, sl, hd.kept (fun _ _ => rfl) (fun b hb => ?_) fun b hb => ?_⟩, c1.trans c2⟩
  · rcases hb with (hb | hb) | hb
    · exact .inl hb
    · exact .inr ⟨hb.1, by omega⟩
    · exact .inr ⟨by omega, hb.2⟩
  · rcases hb with hb | hb
    · have := hS b hb; omega
    · exact hb.2
theorem DRes.rem {S : Nat → Prop} {W wr : World} {sb : Nat} {m : Sto} (h : DRes S W sb m wr) (hS : ∀ b, S b → b < W.heap.size) (k : Int) :
    Calls Tryz.prog 33 #[.pointer (some ⟨sb, 0, none⟩), .int .i64 k] wr fun e w' => e = .returned (.int .i64 (rem m k).1) ∧ DRes S W sb (rem m k).2 w' := by
  obtain ⟨rv, sl, hd⟩ := h.1
  refine (remove_doc hd k).mono ?_
  rintro e w' ⟨rfl, ⟨rv', hd'⟩, hc⟩
  exact ⟨rfl, h.then ⟨⟨rv', sl, hd'⟩, hc⟩ hS⟩
set_option maxRecDepth 100000 in
set_option maxHeartbeats 2000000 in
theorem gone_any {W : World} {sb gb : Nat} {m : Sto} {f : For} {F S : Nat → Prop} {hv mv : Value} (h : GIn W sb gb m f F S hv mv) (hl : f.made.length ≤ 16777216) :
    Calls Tryz.prog 110 #[.pointer (some ⟨sb, 0, none⟩), .pointer (some ⟨gb, 0, none⟩)] W fun e w' => e = .returned (.tuple #[]) ∧ (∃ rv sl, DIn w' sb (remAll m f.made) (Up S W w') rv sl) ∧ GBk w' gb hv (.slice none 0 0) f.size f.dead ∧ Chg F W w' := by
  obtain ⟨rv, sl, hd⟩ := h.sto
  have hgl := (gcells h.blk).2.2.2.2.2
  obtain ⟨ao, c, rfl, hat⟩ := nat_of h.mad
  obtain ⟨N, hN⟩ : ∃ N, f.made.length = N := ⟨_, rfl⟩
  have HG : Hid (∀ m' wr, DRes S W sb m' wr → GBk wr gb hv (.slice ao N c) f.size f.dead) := fun m' wr hr => by
    have := h.blk.kept (hr.2.block gb hgl h.ngb)
    rw [hN] at this
    exact this
  have HC : Hid (∀ m' wr k, k < N → DRes S W sb m' wr → ∃ g off n, ao = some ⟨g, off, none⟩ ∧ f.made[k]? = some n ∧ wr.cell? ⟨g, off + k, none⟩ = some (.int .i64 (n : Nat))) := fun m' wr k hk hr => by
    obtain ⟨g, off, e, hg, hc⟩ := hat (by omega)
    obtain ⟨n, hn⟩ : ∃ n, f.made[k]? = some n := ⟨_, List.getElem?_eq_getElem (by omega)⟩
    refine ⟨g, off, n, e, hn, (World.cell?_of_block (w := W) (a := ⟨g, off + k, none⟩) (hr.2.block g hg ?_)).trans (hc k n hn)⟩
    refine (h.mF g ?_).2
    rw [e]
    rcases h.mad.2 with ⟨e1, _⟩ | ⟨g', _, _, e1, _⟩
    · rw [e] at e1; cases e1
    · rw [e] at e1
      injection e1 with e1
      injection e1 with e1
      injection e1 with _ e2 _
      subst e2
      rfl
  have HR : Hid (∀ m' wr (k : Int), DRes S W sb m' wr → Calls Tryz.prog 33 #[.pointer (some ⟨sb, 0, none⟩), .int .i64 k] wr fun e w' => e = .returned (.int .i64 (rem m' k).1) ∧ DRes S W sb (rem m' k).2 w') := fun m' wr k hr => hr.rem (fun b hb => h.lt b (h.sub b hb)) k
  have HE : Hid (∀ m' wr, DRes S W sb m' wr → (∃ rv sl, DIn (wr.setCell ⟨gb, 2, none⟩ (.slice none 0 0)) sb m' (Up S W (wr.setCell ⟨gb, 2, none⟩ (.slice none 0 0))) rv sl) ∧ Chg F W (wr.setCell ⟨gb, 2, none⟩ (.slice none 0 0))) := fun m' wr hr => by
    obtain ⟨⟨rv, sl, hd⟩, hc⟩ := hr
    refine ⟨⟨rv, sl, hd.kept (fun b hb => Below.heap_setCell _ _ _ _ fun e => ?_) (fun b hb => hb.imp id fun x => ⟨x.1, by rw [World.size_setCell]; exact x.2⟩) fun b hb => ?_⟩, (hc.mono h.sub).setCell (p := ⟨gb, 2, none⟩) (.inl h.own) _⟩
    · subst e
      rcases hb with hb | hb
      · exact h.ngb hb
      · exact absurd hgl (by have := hb.1; omega)
    · rw [World.size_setCell]
      exact hd.lt b (hb.imp id fun x => ⟨x.1, by have := x.2; rw [World.size_setCell] at this; exact this⟩)
  have H0 := hide (DRes.start hd)
  have HM := hide hN
  rw [hN] at hl
  clear h hd hat hgl hN
  go_enter Tryz.func110, Tryz.ntmps110
  go_wp2
  go_loopw [4] (fun s4 wr => ∃ k : Nat, s4 = .int .i64 k ∧ k ≤ N ∧ Hid (DRes S W sb (remAll m (f.made.take k)) wr)) (fun s4 _ => N - (intOf s4).toNat)
  case atStart => exact ⟨0, rfl, Nat.zero_le _, H0⟩
  case round =>
    clear H0
    obtain ⟨k, rfl, hk, HD⟩ := hrel
    obtain ⟨c0, c1, c2, c3, cf, hgl⟩ := gcells (unhide HG _ _ (unhide HD))
    by_cases hlt : k < N
    · have hltz : (k : Int) < (N : Int) := by omega
      have hk0 : 0 ≤ (k : Int) := by omega
      obtain ⟨g, off, n, rfl, hn, hcx⟩ := unhide HC _ _ k hlt (unhide HD)
      have HK := hide (unhide HR _ _ (n : Int) (unhide HD))
      have HT : remAll m (f.made.take (k + 1)) = (rem (remAll m (f.made.take k)) n).2 := by rw [List.take_add_one, hn]; exact remAll_snoc m _ n
      have HTh := hide HT
      clear HT hn HR HC HE HG
      go_wp2_with (go_at_call 33; refine (unhide HK).mono ?_; rintro e w3 ⟨rfl, h3⟩; rw [← unhide HTh] at h3; have H3 := hide h3; clear h3)
      go_roundw
      case rel => exact ⟨k + 1, by go_num, by omega, H3⟩
      case measure => simp [intOf]; omega
    · have hltz : ¬ (k : Int) < (N : Int) := by omega
      obtain rfl : k = N := by omega
      have HF := hide (unhide HE _ _ (unhide HD))
      have HF2 := hide ((unhide HG _ _ (unhide HD)).set2 (.slice none 0 0))
      have hT : f.made.take k = f.made := by rw [← unhide HM, List.take_length]
      rw [hT] at HF
      clear HE HR HC HG hT HD
      go_wp2
      go_end0
      exact ⟨rfl, (unhide HF).1, unhide HF2, (unhide HF).2⟩
end Rs
end Go.Proofs.YtohfhkdhccpoaaaGreatDoor
/- Layer 9: the document's write. -/
namespace Go.Proofs.YtohfhkdhccpoaaaGreatDoor
open Go.RowKit
namespace Rs
open Sm (Tx ofS)
section
variable {W w' : World} {sb gb : Nat} {m m' : Sto} {f : For} {F G S : Nat → Prop} {hv mv : Value}
theorem GIn.sup (h : GIn W sb gb m f F S hv mv) (hG : ∀ b, F b → G b) (hl : ∀ b, G b → b < W.heap.size) : GIn W sb gb m f G S hv mv :=
  ⟨h.sto, h.blk, h.hel, h.mad, fun b x => hG b (h.sub b x), hG gb h.own, h.ngb, fun g hg => ⟨hG g (h.hF g hg).1, (h.hF g hg).2⟩, fun g hg => ⟨hG g (h.mF g hg).1, (h.mF g hg).2⟩, hl⟩
/-- the store has changed -/
theorem GIn.next (h : GIn W sb gb m f F S hv mv) (hr : DRes S W sb m' w') : GIn w' sb gb m' f (Up F W w') (Up S W w') hv mv := by
  have s := hr.2.size
  have hn : ∀ b, F b → ¬ S b → w'.heap[b]? = W.heap[b]? := fun b hF hS => hr.2.block b (h.lt b hF) hS
  have hu : ∀ g, F g → ¬ S g → ¬ Up S W w' g := fun g hF hS hx => by
    rcases hx with hx | hx
    · exact hS hx
    · have := h.lt g hF; omega
  exact ⟨hr.1, h.blk.kept (hn gb h.own h.ngb), h.hel.kept fun g hg => hn g (h.hF g hg).1 (h.hF g hg).2, own_kept h.mad fun g hg => hn g (h.mF g hg).1 (h.mF g hg).2, fun b x => x.imp (h.sub b) id, .inl h.own, hu gb h.own h.ngb, fun g hg => ⟨.inl (h.hF g hg).1, hu g (h.hF g hg).1 (h.hF g hg).2⟩, fun g hg => ⟨.inl (h.mF g hg).1, hu g (h.mF g hg).1 (h.mF g hg).2⟩, fun b x => x.elim (fun y => Nat.lt_of_lt_of_le (h.lt b y) s) fun y => y.2⟩
/-- a run more, and nothing is held -/
theorem GIn.wrote {w3 : World} {g c n : Nat} (h : GIn W sb gb m f F S hv mv) (ho : w3.ownsRow 0 3 1 (.slice (some ⟨g, 0, none⟩) (f.made.length + 1) c) (f.made ++ [n]).length (nts (f.made ++ [n]))) (hc : Chg (fun b => mv.ownBlock = some b) W w3) (hg : mv.ownBlock = some g ∨ W.heap.size ≤ g) :
    GIn ((w3.setCell ⟨gb, 2, none⟩ (.slice (some ⟨g, 0, none⟩) (f.made.length + 1) c)).setCell ⟨gb, 0, none⟩ (.slice none 0 0)) sb gb m (f.wrote n) (Up F W ((w3.setCell ⟨gb, 2, none⟩ (.slice (some ⟨g, 0, none⟩) (f.made.length + 1) c)).setCell ⟨gb, 0, none⟩ (.slice none 0 0))) S (.slice none 0 0) (.slice (some ⟨g, 0, none⟩) (f.made.length + 1) c) ∧
    Chg F W ((w3.setCell ⟨gb, 2, none⟩ (.slice (some ⟨g, 0, none⟩) (f.made.length + 1) c)).setCell ⟨gb, 0, none⟩ (.slice none 0 0)) := by
  have s := hc.size
  have hgl := h.lt gb h.own
  have hmg : ¬ mv.ownBlock = some gb := fun e => kind_ne h.blk (by decide) h.mad gb e rfl
  have hb3 : GBk w3 gb hv mv f.size f.dead := h.blk.kept (hc.block gb hgl hmg)
  have hgg : g ≠ gb := kind_ne hb3 (by decide) ho g rfl
  have hg3 : g < w3.heap.size := (ho.lt g rfl).2
  generalize hv' : Value.slice (some ⟨g, 0, none⟩) (f.made.length + 1) c = v' at *
  have hvb : v'.ownBlock = some g := by rw [← hv']; rfl
  have hne : ∀ b, b ≠ gb → ((w3.setCell ⟨gb, 2, none⟩ v').setCell ⟨gb, 0, none⟩ (.slice none 0 0)).heap[b]? = w3.heap[b]? := fun b hb => (Below.heap_setCell _ _ _ _ hb).trans (Below.heap_setCell _ _ _ _ hb)
  have hz : ((w3.setCell ⟨gb, 2, none⟩ v').setCell ⟨gb, 0, none⟩ (.slice none 0 0)).heap.size = w3.heap.size := by rw [World.size_setCell, World.size_setCell]
  have hS3 : ∀ b, S b → w3.heap[b]? = W.heap[b]? := fun b hb => hc.block b (h.lt b (h.sub b hb)) fun e => (h.mF b e).2 hb
  obtain ⟨rv, sl, hd⟩ := h.sto
  have hch : Chg F W ((w3.setCell ⟨gb, 2, none⟩ v').setCell ⟨gb, 0, none⟩ (.slice none 0 0)) := ((hc.mono fun b e => (h.mF b e).1).setCell (p := ⟨gb, 2, none⟩) (.inl h.own) _).setCell (p := ⟨gb, 0, none⟩) (.inl h.own) _
  refine ⟨⟨⟨rv, sl, hd.kept (fun b hb => (hne b fun e => h.ngb (e ▸ hb)).trans (hS3 b hb)) (fun _ x => x) fun b hb => ?_⟩, (hb3.set2 v').set0 _, World.ownsRow_nil _ _ _ _, own_kept ho fun b hb => hne b ?_, fun b hb => .inl (h.sub b hb), .inl h.own, h.ngb, (fun b hb => by cases hb), fun b hb => ?_, fun b hb => ?_⟩, hch⟩
  · rw [hz]
    have := h.lt b (h.sub b hb)
    omega
  · rw [hvb] at hb
    injection hb with hb
    rw [← hb]; exact hgg
  · rw [hvb] at hb
    injection hb with hb
    subst hb
    rcases hg with e | e
    · exact ⟨.inl (h.mF g e).1, (h.mF g e).2⟩
    · exact ⟨.inr ⟨e, by rw [hz]; exact hg3⟩, fun hS => by have := h.lt g (h.sub g hS); omega⟩
  · rcases hb with hb | hb
    · rw [hz]; have := h.lt b hb; omega
    · exact hb.2
end
/-- the document's store and a dead former -/
structure GDd (W : World) (sb gb : Nat) (m : Sto) (c : Nat) (F : Nat → Prop) : Prop where
  sto : ∃ S rv sl, DIn W sb m S rv sl ∧ (∀ b, S b → F b) ∧ ¬ S gb
  blk : ∃ hv mv s, GBk W gb hv mv s c
  own : F gb
def GRes (F : Nat → Prop) (W : World) (sb gb c : Nat) (m : Sto) (f : For) (w' : World) : Prop :=
  Chg F W w' ∧ ((c = 0 ∧ ∃ S hv mv, GIn w' sb gb m f (Up F W w') S hv mv) ∨ (c ≠ 0 ∧ GDd w' sb gb m c (Up F W w')))
theorem up_up9 {F : Nat → Prop} {W w1 w2 : World} (h1 : W.heap.size ≤ w1.heap.size) (h2 : w1.heap.size ≤ w2.heap.size) {b : Nat} (hb : Up (Up F W w1) w1 w2 b) : Up F W w2 b := by
  rcases hb with (hb | hb) | hb
  · exact .inl hb
  · exact .inr ⟨hb.1, by omega⟩
  · exact .inr ⟨by omega, hb.2⟩
theorem GRes.pre {F : Nat → Prop} {W w1 w' : World} {sb gb c : Nat} {m : Sto} {f : For} (hc : Chg F W w1) (h : GRes (Up F W w1) w1 sb gb c m f w') (hF : ∀ b, F b → b < W.heap.size) : GRes F W sb gb c m f w' := by
  obtain ⟨c2, h⟩ := h
  have s1 := hc.size
  have s2 := c2.size
  refine ⟨hc.trans c2, ?_⟩
  rcases h with ⟨e, S, hv, mv, h⟩ | ⟨e, ⟨S, rv, sl, d1, d2, d3⟩, hb, ho⟩
  · exact .inl ⟨e, S, hv, mv, h.sup (fun b hb => up_up9 s1 s2 hb) fun b hb => hb.elim (fun y => by have := hF b y; omega) fun y => y.2⟩
  · exact .inr ⟨e, ⟨S, rv, sl, d1, fun b hb => up_up9 s1 s2 (d2 b hb), d3⟩, hb, up_up9 s1 s2 ho⟩
theorem own_tx2 {W : World} {v : Value} {D : List Tx} (h : Own W v D) : Um.Txs W v D := (show Um.OwnT 0 W v D from h).txs
set_option maxRecDepth 100000 in
set_option maxHeartbeats 2000000 in
theorem write_doc {W : World} {sb gb : Nat} {m : Sto} {f : For} {F S : Nat → Prop} {hv mv : Value} (h : GIn W sb gb m f F S hv mv) (hl : f.made.length ≤ 16777216) (hb : f.buf.length ≤ 65536) (hs : ∀ x ∈ f.buf, x.size ≤ 255) (c : Nat) (m' : Sto) (f' : For) (HR : Hid (fwr m f = (c, m', f'))) :
    Calls Tryz.prog 75 #[.pointer (some ⟨sb, 0, none⟩), .pointer (some ⟨gb, 0, none⟩)] W fun e w' => e = .returned (.int .i64 c) ∧ GRes F W sb gb c m' f' w' := by
  obtain ⟨c0, c1, c2, c3, cf, hgl⟩ := gcells h.blk
  rcases hbt : bat m (ofS f.buf) with ⟨cb, mb, nb⟩
  have hol := Sm.ofS_len f.buf
  have hF := h.lt
  have HO : Hid (Calls Tryz.prog 109 #[hv] W fun e w1 => ∃ r, e = .returned r ∧ Hid (Calls Tryz.prog 57 #[.pointer (some ⟨sb, 0, none⟩), r] w1 fun e w2 => e = .returned (.tuple #[.int .i64 nb, .int .i64 cb]) ∧ Chg F W w2 ∧ ∃ S2, GIn w2 sb gb mb f (Up F W w2) S2 hv mv)) := by
    refine (Kz.rof h.hel.crow (by omega)).mono ?_
    rintro e w1 ⟨a, cc, rfl, ho, hnew, hbl⟩
    have h1 := h.kept (W' := w1) (fun b hb => hbl.block b (h.lt b hb)) hbl.size
    obtain ⟨rv, sl, hd⟩ := h1.sto
    refine ⟨_, rfl, ?_⟩
    refine (written_any hd (fun W2 hc => own_tx2 (ho.kept fun g hg => hc.block g (own_lt ho hg).2 fun hS => ?_)) (by omega) (fun x hx => hs x (Sm.ofS_mem.1 hx)) hbt).mono ?_
    · have := hnew g hg
      have := h.lt g (h.sub g hS)
      omega
    · rintro e w2 ⟨rfl, hr⟩
      have s1 := hbl.size
      have s2 := hr.2.size
      refine ⟨rfl, (Chg.of_below hbl).trans ((hr.2.mono h.sub).mono fun b x => .inl x), _, (h1.next hr).sup (fun b x => x.imp id fun y => ⟨by omega, y.2⟩) fun b x => x.elim (fun y => by have := h.lt b y; omega) fun y => y.2⟩
  unfold fwr at HR
  rw [hbt] at HR
  dsimp only at HR
  by_cases hc : cb = 0
  · subst hc
    have e := unhide HR
    rw [if_pos rfl] at e
    injection e with e1 e
    injection e with e2 e3
    subst e1 e2 e3
    have HN : Hid (∀ w2 S2, Chg F W w2 → GIn w2 sb gb mb f (Up F W w2) S2 hv mv → ∃ g c w3, (Builtin.append_ #[28, 28] 28 #[mv, .slice (some ⟨w2.heap.size, 0, none⟩) 1 1]).run Tryz.prog (w2.alloc (.cells #[.int .i64 nb] 3)) = .ok (.slice (some ⟨g, 0, none⟩) (f.made.length + 1) c) w3 ∧ (w3.cell? ⟨gb, 2, none⟩ = some mv ∧ (∀ k, w3.frozen? ⟨gb, k, none⟩ = false) ∧ (w3.setCell ⟨gb, 2, none⟩ (.slice (some ⟨g, 0, none⟩) (f.made.length + 1) c)).cell? ⟨gb, 0, none⟩ = some hv) ∧ GRes F W sb gb 0 mb (f.wrote nb) ((w3.setCell ⟨gb, 2, none⟩ (.slice (some ⟨g, 0, none⟩) (f.made.length + 1) c)).setCell ⟨gb, 0, none⟩ (.slice none 0 0))) := fun w2 S2 hc2 h2 => by
      obtain ⟨g, c, w3, hrun, ho, hc3, hg⟩ := push_num nb h2.mad (by omega) 28
      obtain ⟨q1, q2⟩ := h2.wrote ho hc3 hg
      have hb3 : GBk w3 gb hv mv f.size f.dead := h2.blk.kept (hc3.block gb (h2.lt gb h2.own) fun e => kind_ne h2.blk (by decide) h2.mad gb e rfl)
      refine ⟨g, c, w3, hrun, ⟨(gcells hb3).2.2.1, (gcells hb3).2.2.2.2.1, (gcells (hb3.set2 _)).1⟩, GRes.pre hc2 ⟨q2, .inl ⟨rfl, _, _, _, q1⟩⟩ hF⟩
    clear h hbt hs HR hF
    go_enter Tryz.func75, Tryz.ntmps75
    go_wp2_with (first
      | (go_at_call 109; refine (unhide HO).mono ?_; clear HO; rintro e w1 ⟨r, rfl, HW⟩)
      | (go_at_call 57; refine (unhide HW).mono ?_; clear HW; rintro e w2 ⟨rfl, hc2, S2, h2⟩; obtain ⟨g, c, w3, hrun, ⟨k1, k2, k3⟩, hG⟩ := unhide HN w2 S2 hc2 h2; obtain ⟨y0, y1, y2, y3, yf, hy⟩ := gcells h2.blk; have HRN := hide hrun; have HGR := hide hG; clear hrun hG h2 hc2 HN)
      | (at_builtin; refine Kz.wpList_append_run rfl _ _ 28 28 rfl _ _ rfl rfl (.slice (some ⟨g, 0, none⟩) (f.made.length + 1) c) w3 (unhide HRN) ?_; clear HRN))
    go_ret
    exact ⟨rfl, unhide HGR⟩
  · have e := unhide HR
    rw [if_neg hc] at e
    injection e with e1 e
    injection e with e2 e3
    subst e1 e2 e3
    have q3 : ((cb : Int) == 0) = false := by simp; omega
    have HG : Hid (∀ w2 S2, Chg F W w2 → GIn w2 sb gb mb f (Up F W w2) S2 hv mv → Calls Tryz.prog 110 #[.pointer (some ⟨sb, 0, none⟩), .pointer (some ⟨gb, 0, none⟩)] w2 fun e w3 => e = .returned (.tuple #[]) ∧ GBk w3 gb hv (.slice none 0 0) f.size f.dead ∧ Hid (GRes F W sb gb cb (remAll mb f.made) (f.die cb) (w3.setCell ⟨gb, 3, none⟩ (.int .i64 cb)))) := fun w2 S2 hc2 h2 => by
      refine (gone_any h2 hl).mono ?_
      rintro e w3 ⟨rfl, ⟨rv, sl, hd⟩, hbk, hc3⟩
      have s3 := hc3.size
      have hgb2 := h2.lt gb h2.own
      have hng : ¬ Up S2 w2 w3 gb := fun x => by
        rcases x with x | x
        · exact h2.ngb x
        · omega
      refine ⟨rfl, hbk, GRes.pre hc2 ⟨hc3.setCell (p := ⟨gb, 3, none⟩) (.inl h2.own) _, .inr ⟨hc, ⟨Up S2 w2 w3, rv, sl, hd.kept (fun b hb => Below.heap_setCell _ _ _ _ fun e => hng (by have e : b = gb := e; rw [← e]; exact hb)) (fun _ x => x) (fun b hb => by rw [World.size_setCell]; exact hd.lt b hb), fun b hb => ?_, hng⟩, ⟨_, _, _, hbk.set3 cb⟩, .inl h2.own⟩⟩ hF⟩
      rcases hb with hb | hb
      · exact .inl (h2.sub b hb)
      · exact .inr ⟨hb.1, by rw [World.size_setCell]; exact hb.2⟩
    clear h hbt hs HR hF
    go_enter Tryz.func75, Tryz.ntmps75
    go_wp2_with (first
      | (go_at_call 109; refine (unhide HO).mono ?_; clear HO; rintro e w1 ⟨r, rfl, HW⟩)
      | (go_at_call 57; refine (unhide HW).mono ?_; clear HW; rintro e w2 ⟨rfl, hc2, S2, h2⟩; have HGG := hide (unhide HG w2 S2 hc2 h2); clear h2 hc2 HG)
      | (go_at_call 110; refine (unhide HGG).mono ?_; clear HGG; rintro e w3 ⟨rfl, hbk, HGR⟩; obtain ⟨y0, y1, y2, y3, yf, hy⟩ := gcells hbk; clear hbk))
    go_ret
    exact ⟨rfl, unhide HGR⟩
end Rs
end Go.Proofs.YtohfhkdhccpoaaaGreatDoor
/- Layer 9: the document's Add. -/
namespace Go.Proofs.YtohfhkdhccpoaaaGreatDoor
open Go.RowKit
namespace Rs
open Sm (Tx ofS)
section
variable {W : World} {sb gb : Nat} {m : Sto} {f : For} {F S : Nat → Prop} {hv mv : Value}
/-- a word more is held -/
theorem GIn.push {w3 : World} {g c : Nat} {x : Tx} (h : GIn W sb gb m f F S hv mv) (ho : Own w3 (.slice (some ⟨g, 0, none⟩) (f.buf.length + 1) c) (f.buf ++ [x])) (hc : Chg (fun b => hv.ownBlock = some b) W w3) (hg : hv.ownBlock = some g ∨ W.heap.size ≤ g) :
    w3.cell? ⟨gb, 0, none⟩ = some hv ∧ (∀ k, w3.frozen? ⟨gb, k, none⟩ = false) ∧ GIn (w3.setCell ⟨gb, 0, none⟩ (.slice (some ⟨g, 0, none⟩) (f.buf.length + 1) c)) sb gb m (f.push x) (Up F W (w3.setCell ⟨gb, 0, none⟩ (.slice (some ⟨g, 0, none⟩) (f.buf.length + 1) c))) S (.slice (some ⟨g, 0, none⟩) (f.buf.length + 1) c) mv ∧
    Chg F W (w3.setCell ⟨gb, 0, none⟩ (.slice (some ⟨g, 0, none⟩) (f.buf.length + 1) c)) := by
  have s := hc.size
  have hgl := h.lt gb h.own
  have hmg : ¬ hv.ownBlock = some gb := fun e => kind_ne h.blk (by decide) h.hel gb e rfl
  have hb3 : GBk w3 gb hv mv f.size f.dead := h.blk.kept (hc.block gb hgl hmg)
  have hgg : g ≠ gb := kind_ne hb3 (by decide) ho g rfl
  have hg3 : g < w3.heap.size := (own_lt ho (g := g) rfl).2
  have hap : ∀ b, mv.ownBlock = some b → ¬ hv.ownBlock = some b := fun b hb e => by
    rcases h.hel.2 with ⟨e1, _⟩ | ⟨g', cap, cur, e1, _, hx, _⟩
    · rw [e1] at e; cases e
    · rw [e1] at e
      have e2 : g' = b := by injection e
      rw [e2] at hx
      exact kind_ne hx (by decide) h.mad b hb rfl
  have hm3 : w3.ownsRow 0 3 1 mv f.made.length (nts f.made) := own_kept h.mad fun b hb => hc.block b (h.lt b (h.mF b hb).1) (hap b hb)
  generalize hv' : Value.slice (some ⟨g, 0, none⟩) (f.buf.length + 1) c = v' at *
  have hvb : v'.ownBlock = some g := by rw [← hv']; rfl
  have hne : ∀ b, b ≠ gb → (w3.setCell ⟨gb, 0, none⟩ v').heap[b]? = w3.heap[b]? := fun b hb => Below.heap_setCell _ _ _ _ hb
  have hz : (w3.setCell ⟨gb, 0, none⟩ v').heap.size = w3.heap.size := World.size_setCell _ _ _
  have hS3 : ∀ b, S b → w3.heap[b]? = W.heap[b]? := fun b hb => hc.block b (h.lt b (h.sub b hb)) fun e => (h.hF b e).2 hb
  obtain ⟨rv, sl, hd⟩ := h.sto
  have hch : Chg F W (w3.setCell ⟨gb, 0, none⟩ v') := (hc.mono fun b e => (h.hF b e).1).setCell (p := ⟨gb, 0, none⟩) (.inl h.own) _
  refine ⟨(gcells hb3).1, (gcells hb3).2.2.2.2.1, ⟨⟨rv, sl, hd.kept (fun b hb => (hne b fun e => h.ngb (e ▸ hb)).trans (hS3 b hb)) (fun _ x => x) fun b hb => ?_⟩, hb3.set0 v', ho.kept fun b hb => hne b ?_, own_kept hm3 fun b hb => hne b (kind_ne hb3 (by decide) hm3 b hb), fun b hb => .inl (h.sub b hb), .inl h.own, h.ngb, fun b hb => ?_, fun b hb => ⟨.inl (h.mF b hb).1, (h.mF b hb).2⟩, fun b hb => ?_⟩, hch⟩
  · rw [hz]
    have := h.lt b (h.sub b hb)
    omega
  · rw [hvb] at hb
    injection hb with hb
    rw [← hb]; exact hgg
  · rw [hvb] at hb
    injection hb with hb
    subst hb
    rcases hg with e | e
    · exact ⟨.inl (h.hF g e).1, (h.hF g e).2⟩
    · exact ⟨.inr ⟨e, by rw [hz]; exact hg3⟩, fun hS => by have := h.lt g (h.sub g hS); omega⟩
  · rcases hb with hb | hb
    · rw [hz]; have := h.lt b hb; omega
    · exact hb.2
end
theorem GIn.over {W V U : World} {sb gb : Nat} {m : Sto} {f : For} {F S : Nat → Prop} {hv mv : Value} (hc : Chg F W V) (h : GIn V sb gb m f (Up F W V) S hv mv) (hb : Below V.heap.size V U) : Chg F W U ∧ GIn U sb gb m f (Up F W U) S hv mv := by
  have s := hb.size
  exact ⟨hc.trans (Chg.of_below hb), (h.kept (W' := U) (fun b x => hb.block b (h.lt b x)) s).sup (fun b x => x.imp id fun y => ⟨y.1, by omega⟩) fun b x => x.elim (fun y => Nat.lt_of_lt_of_le (h.lt b (.inl y)) s) fun y => y.2⟩
/-- behind some of the words; Z are left -/
def Gd (W : World) (F : Nat → Prop) (sb gb : Nat) (R : Nat × Sto × For) (sz : Nat) (Z : List Tx) (wr : World) : Prop :=
  ∃ mk fk, R = adds mk fk Z ∧ fk.Ok mk ∧ fk.buf.length < fk.size ∧ fk.size = sz ∧ Chg F W wr ∧ ∃ S hv mv, GIn wr sb gb mk fk (Up F W wr) S hv mv
set_option maxRecDepth 100000 in
set_option maxHeartbeats 4000000 in
theorem add_doc {W : World} {sb gb : Nat} {m : Sto} {f : For} {F S : Nat → Prop} {hv mv v : Value} {X : List Tx} (h : GIn W sb gb m f F S hv mv) (ok : f.Ok m) (hful : f.buf.length < f.size) (hT : ∀ wr, Chg F W wr → Um.Txs wr v X) (hn : X.length ≤ 16777216) (hs : ∀ x ∈ X, x.size ≤ 255) (cA : Nat) (mA : Sto) (fA : For) (HR : adds m f X = (cA, mA, fA)) :
    Calls Tryz.prog 50 #[.pointer (some ⟨sb, 0, none⟩), .pointer (some ⟨gb, 0, none⟩), v] W fun e w' => e = .returned (.int .i64 cA) ∧ GRes F W sb gb cA mA fA w' := by
  have hF := h.lt
  obtain ⟨c0, c1, c2, c3, cf, hgl⟩ := gcells h.blk
  rw [ok.live] at c3
  obtain ⟨sz, hsz⟩ : ∃ sz, f.size = sz := ⟨_, rfl⟩
  have hsz2 : sz ≤ 65536 := by rw [← hsz]; exact ok.s2
  have H0 : Hid (Gd W F sb gb (cA, mA, fA) sz X W) := ⟨m, f, HR.symm, ok, hful, hsz, Chg.refl _ _, S, hv, mv, h.sup (fun b hb => .inl hb) fun b hb => hb.elim (h.lt b) fun y => y.2⟩
  obtain ⟨ao, cap, rfl, hcap, -, hat⟩ := hT W (Chg.refl _ _)
  obtain ⟨N, hN⟩ : ∃ N, X.length = N := ⟨_, rfl⟩
  have HC : Hid (∀ wr k, k < N → Chg F W wr → ∃ g off x, ao = some ⟨g, off, none⟩ ∧ X[k]? = some x ∧ x.size ≤ 255 ∧ wr.cell? ⟨g, off + k, none⟩ = some (.string x) ∧ g < wr.heap.size) := fun wr k hk hc => by
    obtain ⟨ao', cap', e, _, _, hat'⟩ := hT wr hc
    injection e with e _ _
    obtain ⟨g, off, e1, hg, hcc⟩ := hat' (by omega)
    obtain ⟨x, hx⟩ : ∃ x, X[k]? = some x := ⟨_, List.getElem?_eq_getElem (by omega)⟩
    exact ⟨g, off, x, by rw [e, e1], hx, hs x (List.mem_of_getElem? hx), hcc k x hx, hg⟩
  have HN := hide hN
  rw [hN] at hn hcap ⊢
  clear h hT HR ok hful hsz hat hs hN
  go_enter Tryz.func50, Tryz.ntmps50
  go_wp2
  go_loop [7] (fun i => ∃ k : Nat, i = .int .i64 k ∧ k ≤ N) (fun i => N - (intOf i).toNat)
  case atStart => exact ⟨0, rfl, Nat.zero_le _⟩
  case round =>
    obtain ⟨k, rfl, hk⟩ := hrel
    by_cases hlt : k < N
    · have hltz : (k : Int) < (N : Int) := by omega
      have hk0 : 0 ≤ (k : Int) := by omega
      obtain ⟨g, off, x, rfl, _, hxs, hcx, _⟩ := unhide HC W k hlt (Chg.refl _ _)
      have hxz : ¬ 255 < (x.size : Int) := by omega
      clear HC H0
      go_wp2
      go_round
      case rel => exact ⟨k + 1, by go_num, by omega⟩
      case measure => simp [intOf]; omega
    · have hltz : ¬ (k : Int) < (N : Int) := by omega
      go_wp2
      clear hltz hlt hk
      go_loopw [8] (fun s8 wr => ∃ k : Nat, s8 = .int .i64 k ∧ k ≤ N ∧ Hid (Gd W F sb gb (cA, mA, fA) sz (X.drop k) wr)) (fun s8 _ => N - (intOf s8).toNat)
      case atStart => exact ⟨0, rfl, Nat.zero_le _, H0⟩
      case round =>
        clear H0 c0 c1 c2 c3 cf hgl
        obtain ⟨k, rfl, hk, HD⟩ := hrel
        obtain ⟨mk, fk, hA, hok, hfl, hsk, hch, S1, hv1, mv1, hG⟩ := unhide HD
        clear HD
        by_cases hlt : k < N
        · have hltz : (k : Int) < (N : Int) := by omega
          have hk0 : 0 ≤ (k : Int) := by omega
          obtain ⟨g2, off2, x, rfl, hx, hxs, hcx, hg2⟩ := unhide HC wr k hlt hch
          have hdr : X.drop k = x :: X.drop (k + 1) := by
            obtain ⟨hl, he⟩ := List.getElem?_eq_some_iff.1 hx
            rw [List.drop_eq_getElem_cons hl, he]
          rw [hdr] at hA
          have hGd := hG.kept (W' := wr.drew) (fun _ _ => rfl) (Nat.le_refl _)
          have hml : fk.made.length ≤ 16777216 := by
            obtain ⟨_, _, hd⟩ := hG.sto
            exact Nat.le_trans hok.made hd.ok.made
          obtain ⟨e0, e1, e2, e3, ef, hgl⟩ := gcells hG.blk
          obtain ⟨a1, cc1, rfl⟩ := hG.hel.slice
          obtain ⟨g5, c5, W5, hap, hown5, hc5, hup5, _⟩ := push_tx (W := wr.drew) x hGd.hel (by omega) 29 29 Tryz.underlying29
          obtain ⟨p1, p2, p3, p4⟩ := hGd.push hown5 hc5 (hup5.imp id And.left)
          have p5 : Chg (Up F W wr) wr (W5.setCell ⟨gb, 0, none⟩ (.slice (some ⟨g5, 0, none⟩) (fk.buf.length + 1) c5)) := ⟨p4.os, p4.tape, p4.output, p4.size, p4.block⟩
          have s1 := hch.size
          have s2 := p5.size
          have HPU : Hid (Chg F W (W5.setCell ⟨gb, 0, none⟩ (.slice (some ⟨g5, 0, none⟩) (fk.buf.length + 1) c5)) ∧ GIn (W5.setCell ⟨gb, 0, none⟩ (.slice (some ⟨g5, 0, none⟩) (fk.buf.length + 1) c5)) sb gb mk (fk.push x) (Up F W (W5.setCell ⟨gb, 0, none⟩ (.slice (some ⟨g5, 0, none⟩) (fk.buf.length + 1) c5))) S1 (.slice (some ⟨g5, 0, none⟩) (fk.buf.length + 1) c5) mv1) :=
            ⟨hch.trans p5, p3.sup (fun b y => up_up9 (w1 := wr) s1 s2 y) fun b y => y.elim (fun z => by have := hF b z; omega) fun z => z.2⟩
          have l0 : ∀ o, (wr.alloc o).cell? ⟨gb, 0, none⟩ = some (.slice a1 fk.buf.length cc1) := fun o => cell?_alloc_old o e0
          have HAP := hide hap
          have HOK := hide hok
          have HOK2 := hide (hok.push hxs)
          have HA := hide hA
          have HFL := hide hfl
          have HSK := hide hsk
          have HML := hide hml
          rw [hsk] at e1
          obtain ⟨q, hq⟩ : ∃ q, fk.buf.length = q := ⟨_, rfl⟩
          have HQ := hide hq
          have hqs : q < sz := by omega
          rw [hq] at HAP HPU e0 l0 p1
          obtain ⟨q1, hq1⟩ : ∃ q1, q + 1 = q1 := ⟨_, rfl⟩
          have HQ1 := hide hq1
          rw [hq1] at HAP HPU
          have hq1s : q1 ≤ sz := by omega
          clear hG hGd hap hown5 hc5 hup5 p3 p4 p5 hch hok hA hdr hx hxs HC hfl hsk hml hq hq1 s1 s2
          go_wp2
          apply wp_one
          · go_region_law (refine step_appD (by rfl) _ _ _ (by rfl) _ _ _ _ (by rfl) (by rfl) (by exact unhide HAP) ?_)
            all_goals exact one_intro
          · clear HAP e0 e1 e2 e3 ef l0 p1 p2 hcx
            have hPU := unhide HPU
            clear HPU
            generalize World.setCell _ _ _ = V6 at hPU ⊢
            obtain ⟨t0, t1, t2, t3, tf, htl⟩ := gcells hPU.2.blk
            have t1' : V6.cell? ⟨gb, 1, none⟩ = some (.int .i64 sz) := by rw [← unhide HSK]; exact t1
            have HOV : Hid (∀ U, Below V6.heap.size V6 U → Chg F W U ∧ GIn U sb gb mk (fk.push x) (Up F W U) S1 (.slice (some ⟨g5, 0, none⟩) q1 c5) mv1) := fun U hU => GIn.over hPU.1 hPU.2 hU
            clear hPU t1 t2 t3 tf
            by_cases hl : q1 < sz
            · have hlz : ¬ (sz : Int) ≤ (q1 : Int) := by omega
              have HNX : Hid (∀ U, Below V6.heap.size V6 U → Gd W F sb gb (cA, mA, fA) sz (X.drop (k + 1)) U) := fun U hU =>
                ⟨mk, fk.push x, by rw [unhide HA, adds_room (by rw [unhide HQ, unhide HQ1, unhide HSK]; exact hl)], unhide HOK2, by show (fk.buf ++ [x]).length < fk.size; rw [List.length_append, unhide HQ, unhide HSK]; show q + 1 < sz; rw [unhide HQ1]; exact hl, unhide HSK, (unhide HOV U hU).1, _, _, _, (unhide HOV U hU).2⟩
              clear HOV
              go_wp2
              go_quiet (fail)
              have HV := hide (unhide HNX _ (drewN_below V6 nq))
              clear HNX
              go_wp2
              go_roundw
              case rel => exact ⟨k + 1, by go_num, by omega, HV⟩
              case measure => simp [intOf]; omega
            · have hlz : (sz : Int) ≤ (q1 : Int) := by omega
              obtain ⟨c, m', f', hw⟩ : ∃ c m' f', fwr mk (fk.push x) = (c, m', f') := ⟨_, _, _, rfl⟩
              have hnl : ¬ fk.buf.length + 1 < fk.size := by rw [unhide HQ, unhide HQ1, unhide HSK]; exact hl
              have HWR : Hid (∀ U, Below V6.heap.size V6 U → Calls Tryz.prog 75 #[.pointer (some ⟨sb, 0, none⟩), .pointer (some ⟨gb, 0, none⟩)] U fun e w' => e = .returned (.int .i64 c) ∧ GRes F W sb gb c m' f' w') := fun U hU => by
                obtain ⟨u1, u2⟩ := unhide HOV U hU
                have hq1 := unhide HQ1
                refine (write_doc u2 (unhide HML) (by show (fk.buf ++ [x]).length ≤ 65536; rw [List.length_append, unhide HQ]; show q + 1 ≤ 65536; omega) (unhide HOK2).short c m' f' hw).mono ?_
                rintro e w' ⟨rfl, hg⟩
                exact ⟨rfl, GRes.pre u1 hg hF⟩
              by_cases hc : c = 0
              · subst hc
                have HNX : Hid (∀ U, GRes F W sb gb 0 m' f' U → Gd W F sb gb (cA, mA, fA) sz (X.drop (k + 1)) U) := fun U hU => by
                  obtain ⟨o1, o2, o3⟩ := (unhide HOK2).wrote (by rw [hw])
                  have eA := unhide HA
                  rw [adds_go hnl (by rw [hw]), hw] at eA
                  rw [hw] at o1 o2 o3
                  obtain ⟨u1, ⟨_, S2, hv2, mv2, u2⟩ | ⟨u3, _⟩⟩ := hU
                  · refine ⟨m', f', eA, o1, ?_, ?_, u1, S2, hv2, mv2, u2⟩
                    · rw [o2, o3]; exact (unhide HOK2).s1
                    · rw [o3]; exact unhide HSK
                  · exact absurd rfl u3
                clear hw hnl HOV
                go_wp2
                go_quiet (fail)
                have HV := hide (unhide HWR _ (drewN_below V6 nq))
                clear HWR
                go_wp2_with (go_at_call 75; refine (unhide HV).mono ?_; rintro e w5 ⟨rfl, h5⟩; have H5 := hide (unhide HNX _ h5); clear h5)
                go_roundw
                case rel => exact ⟨k + 1, by go_num, by omega, H5⟩
                case measure => simp [intOf]; omega
              · have hfin : (cA, mA, fA) = (c, m', f') := by rw [unhide HA, adds_no hnl (by rw [hw]; exact hc), hw]
                injection hfin with i1 i2
                injection i2 with i2 i3
                subst i1 i2 i3
                have q5 : ((cA : Int) == 0) = false := by simp; omega
                clear hw hnl HOV
                go_wp2
                go_quiet (fail)
                have HV := hide (unhide HWR _ (drewN_below V6 nq))
                clear HWR
                go_wp2_with (go_at_call 75; refine (unhide HV).mono ?_; rintro e w5 ⟨rfl, h5⟩; have H5 := hide h5; clear h5)
                go_ret
                exact ⟨rfl, unhide H5⟩
        · obtain rfl : k = N := by omega
          have hltz : ¬ (k : Int) < (k : Int) := by omega
          rw [List.drop_of_length_le (by rw [unhide HN]; exact Nat.le_refl _), adds_stop] at hA
          injection hA with i1 i2
          injection i2 with i2 i3
          subst i1 i2 i3
          have HG9 : Hid (GRes F W sb gb 0 mA fA wr) := ⟨hch, .inl ⟨rfl, _, _, _, hG⟩⟩
          clear hG hch hok hfl hsk
          go_wp2
          go_ret
          exact ⟨rfl, unhide HG9⟩
end Rs
end Go.Proofs.YtohfhkdhccpoaaaGreatDoor
/- Layer 9: the document's Finish and New. -/
namespace Go.Proofs.YtohfhkdhccpoaaaGreatDoor
open Go.RowKit
namespace Rs
open Sm (Tx ofS)
set_option maxRecDepth 100000 in
set_option maxHeartbeats 2000000 in
theorem finish_doc {W : World} {sb gb : Nat} {m : Sto} {f : For} {F S : Nat → Prop} {hv mv : Value} (h : GIn W sb gb m f F S hv mv) (ok : f.Ok m) (hful : f.buf.length < f.size) (c : Nat) (m' : Sto) (f' : For) (HR : fins m f = (c, m', f')) :
    Calls Tryz.prog 51 #[.pointer (some ⟨sb, 0, none⟩), .pointer (some ⟨gb, 0, none⟩)] W fun e w' => ∃ l, e = .returned (.tuple #[l, .int .i64 c]) ∧ Chg F W w' := by
  obtain ⟨c0, c1, c2, c3, cf, hgl⟩ := gcells h.blk
  rw [ok.live] at c3
  have hml : f.made.length ≤ 16777216 := by
    obtain ⟨_, _, hd⟩ := h.sto
    exact Nat.le_trans ok.made hd.ok.made
  have hs2 := ok.s2
  obtain ⟨a1, cc1, rfl⟩ := h.hel.slice
  unfold fins at HR
  by_cases hb : f.buf = []
  · rw [if_pos hb] at HR
    injection HR with i1 i2
    subst i1
    rw [hb] at c0 h
    simp only [List.length_nil] at c0
    have HC : Hid (∀ v, Chg F W (W.setCell ⟨gb, 3, none⟩ v)) := fun v => (Chg.refl F W).setCell (p := ⟨gb, 3, none⟩) (.inl h.own) v
    clear h i2
    go_enter Tryz.func51, Tryz.ntmps51
    go_wp2
    go_ret2
    exact ⟨_, rfl, unhide HC _⟩
  · rw [if_neg hb] at HR
    have hb0 : 0 < f.buf.length := by
      rcases Nat.eq_zero_or_pos f.buf.length with e | e
      · exact absurd (List.eq_nil_of_length_eq_zero e) hb
      · exact e
    obtain ⟨q, hq⟩ : ∃ q, f.buf.length = q := ⟨_, rfl⟩
    have HW := hide (write_doc h hml (by omega) ok.short c m' f' HR)
    have hFo := h.own
    rw [hq] at c0 hb0
    have hbz : 0 < (q : Int) := by omega
    clear h HR ok hq hful
    by_cases hc : c = 0
    · subst hc
      go_enter Tryz.func51, Tryz.ntmps51
      go_wp2_with (go_at_call 75; refine (unhide HW).mono ?_; rintro e w1 ⟨rfl, hch, ⟨_, S2, hv2, mv2, u2⟩ | ⟨u3, _⟩⟩; obtain ⟨y0, y1, y2, y3, yf, hyl⟩ := gcells u2.blk; have HC := hide (hch.setCell (p := ⟨gb, 3, none⟩) (.inl hFo) (.int .i64 13)); clear u2 hch)
      · go_ret2
        exact ⟨_, rfl, unhide HC⟩
      · exact absurd rfl u3
    · have q5 : ((c : Int) == 0) = false := by simp; omega
      go_enter Tryz.func51, Tryz.ntmps51
      go_wp2_with (go_at_call 75; refine (unhide HW).mono ?_; rintro e w1 ⟨rfl, hch, _⟩; have HC := hide hch; clear hch)
      go_ret2
      exact ⟨_, rfl, unhide HC⟩
set_option maxRecDepth 100000 in
theorem finish_dead {W : World} {s hv mv : Value} {gb sz c : Nat} (h : GBk W gb hv mv sz c) (hc : c ≠ 0) :
    Calls Tryz.prog 51 #[s, .pointer (some ⟨gb, 0, none⟩)] W fun e w' => e = .returned (.tuple #[.slice none 0 0, .int .i64 c]) ∧ Below W.heap.size W w' := by
  obtain ⟨c0, c1, c2, c3, cf, hgl⟩ := gcells h
  have q5 : ((c : Int) == 0) = false := by simp; omega
  clear h
  go_enter Tryz.func51, Tryz.ntmps51
  go_wp2
  go_quiet (fail)
  go_wp2
  go_ret2
  exact ⟨rfl, Kz.below_drewN _ _ _⟩
set_option maxRecDepth 100000 in
theorem gnew (b : Nat) (w : World) (h1 : 1 ≤ b) (h2 : b ≤ 65536) :
    Calls Tryz.prog 49 #[.int .i64 b] w fun e w' => e = .returned (.tuple #[.pointer (some ⟨w.heap.size, 0, none⟩), .int .i64 0]) ∧ GBk w' w.heap.size (.slice none 0 0) (.slice none 0 0) b 0 ∧ Below w.heap.size w w' ∧ w.heap.size < w'.heap.size := by
  have q1 : ¬ (b : Int) < 1 := by omega
  have q2 : ¬ 65536 < (b : Int) := by omega
  go_enter Tryz.func49, Tryz.ntmps49
  go_wp2
  go_ret2
  exact ⟨rfl, (MapKept.heap_alloc w _).1, (Below.refl _ w).alloc (Nat.le_refl _) _, by simp⟩
end Rs
end Go.Proofs.YtohfhkdhccpoaaaGreatDoor
