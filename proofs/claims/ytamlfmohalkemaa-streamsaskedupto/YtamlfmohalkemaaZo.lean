/- Layer 8: the document's merge of two rising lists, and its Of. -/
import Derived.Test.YtamlfmohalkemaaZh
namespace Go.Proofs.Ytamlfmohalkemaa
open Go.RowKit Go.Shelf
namespace Sm

/-- what was merged when i and j were taken -/
structure Mrg (A C : List Tx) (i j : Nat) (O : List Tx) : Prop where
  rs : Rs O
  mem : ∀ x, x ∈ O ↔ x ∈ A.take i ∨ x ∈ C.take j
  la : ∀ x ∈ O, ∀ z ∈ A.drop i, lt x z = true
  lc : ∀ x ∈ O, ∀ z ∈ C.drop j, lt x z = true
theorem Mrg.start (A C : List Tx) : Mrg A C 0 0 [] := ⟨rs_nil, by simp, by simp, by simp⟩
theorem drop_get {A : List Tx} {i : Nat} {x : Tx} (h : A[i]? = some x) : A.drop i = x :: A.drop (i + 1) := by
  obtain ⟨hl, rfl⟩ := List.getElem?_eq_some_iff.1 h
  exact List.drop_eq_getElem_cons hl
theorem take_get {A : List Tx} {i : Nat} {x : Tx} (h : A[i]? = some x) : A.take (i + 1) = A.take i ++ [x] := by rw [List.take_add_one, h]; rfl
theorem rs_drop {A : List Tx} {i : Nat} {x : Tx} (hA : Rs A) (h : A[i]? = some x) : ∀ z ∈ A.drop (i + 1), lt x z = true := by
  have : Rs (A.drop i) := List.Pairwise.sublist (List.drop_sublist i A) hA
  rw [drop_get h] at this
  exact (rs_cons.1 this).1
theorem Mrg.left {A C : List Tx} {i j : Nat} {O : List Tx} {x : Tx} (h : Mrg A C i j O) (hA : Rs A) (hx : A[i]? = some x) (hc : ∀ z ∈ C.drop j, lt x z = true) : Mrg A C (i + 1) j (O ++ [x]) := by
  have hm : x ∈ A.drop i := by rw [drop_get hx]; simp
  refine ⟨rs_snoc h.rs fun a ha => h.la a ha x hm, fun z => ?_, fun z hz y hy => ?_, fun z hz y hy => ?_⟩
  · rw [List.mem_append, h.mem, take_get hx, List.mem_append]
    constructor
    · rintro ((e | e) | e)
      · exact .inl (.inl e)
      · exact .inr e
      · exact .inl (.inr e)
    · rintro ((e | e) | e)
      · exact .inl (.inl e)
      · exact .inr e
      · exact .inl (.inr e)
  · rcases List.mem_append.1 hz with e | e
    · exact h.la z e y (by rw [drop_get hx]; exact List.mem_cons_of_mem _ hy)
    · simp at e; subst e; exact rs_drop hA hx y hy
  · rcases List.mem_append.1 hz with e | e
    · exact h.lc z e y hy
    · simp at e; subst e; exact hc y hy
theorem Mrg.right {A C : List Tx} {i j : Nat} {O : List Tx} {x : Tx} (h : Mrg A C i j O) (hC : Rs C) (hx : C[j]? = some x) (ha : ∀ z ∈ A.drop i, lt x z = true) : Mrg A C i (j + 1) (O ++ [x]) := by
  have hm : x ∈ C.drop j := by rw [drop_get hx]; simp
  refine ⟨rs_snoc h.rs fun a ha => h.lc a ha x hm, fun z => ?_, fun z hz y hy => ?_, fun z hz y hy => ?_⟩
  · rw [List.mem_append, h.mem, take_get hx, List.mem_append]
    constructor
    · rintro ((e | e) | e)
      · exact .inl e
      · exact .inr (.inl e)
      · exact .inr (.inr e)
    · rintro (e | (e | e))
      · exact .inl (.inl e)
      · exact .inl (.inr e)
      · exact .inr e
  · rcases List.mem_append.1 hz with e | e
    · exact h.la z e y hy
    · simp at e; subst e; exact ha y hy
  · rcases List.mem_append.1 hz with e | e
    · exact h.lc z e y (by rw [drop_get hx]; exact List.mem_cons_of_mem _ hy)
    · simp at e; subst e; exact rs_drop hC hx y hy
theorem Mrg.both {A C : List Tx} {i j : Nat} {O : List Tx} {x : Tx} (h : Mrg A C i j O) (hA : Rs A) (hC : Rs C) (hx : A[i]? = some x) (hy : C[j]? = some x) : Mrg A C (i + 1) (j + 1) (O ++ [x]) := by
  have hm : x ∈ C.drop j := by rw [drop_get hy]; simp
  refine ⟨rs_snoc h.rs fun a ha => h.lc a ha x hm, fun z => ?_, fun z hz y hy' => ?_, fun z hz y hy' => ?_⟩
  · rw [List.mem_append, h.mem, take_get hx, take_get hy, List.mem_append, List.mem_append]
    constructor
    · rintro ((e | e) | e)
      · exact .inl (.inl e)
      · exact .inr (.inl e)
      · exact .inr (.inr e)
    · rintro ((e | e) | (e | e))
      · exact .inl (.inl e)
      · exact .inr e
      · exact .inl (.inr e)
      · exact .inr e
  · rcases List.mem_append.1 hz with e | e
    · exact h.la z e y (by rw [drop_get hx]; exact List.mem_cons_of_mem _ hy')
    · simp at e; subst e; exact rs_drop hA hx y hy'
  · rcases List.mem_append.1 hz with e | e
    · exact h.lc z e y (by rw [drop_get hy]; exact List.mem_cons_of_mem _ hy')
    · simp at e; subst e; exact rs_drop hC hy y hy'
theorem Mrg.done {A C O : List Tx} {i j : Nat} (h : Mrg A C i j O) (hi : A.length ≤ i) (hj : C.length ≤ j) : O = ofS (A ++ C) := by
  refine rs_ext h.rs (ofS_rs _) fun x => ?_
  rw [h.mem, ofS_mem, List.take_of_length_le hi, List.take_of_length_le hj, List.mem_append]
/-- the list that was made up to now -/
structure Mk (w wr : World) (A C : List Tx) (i j : Nat) (v : Value) (O : List Tx) : Prop where
  own : Own wr v O
  new : ∀ g, v.ownBlock = some g → w.heap.size ≤ g
  old : Below w.heap.size w wr
  mrg : Mrg A C i j O
theorem own_drewN {w : World} {v : Value} {O : List Tx} (h : Own w v O) (q : Nat) : Own (w.drewN q) v O := h.below (below_drewN _ _ _)
/-- one text more -/
theorem Mk.push {w wr V : World} {A C O : List Tx} {i j i' j' : Nat} {v : Value} (h : Mk w wr A C i j v O) (hV : Below wr.heap.size wr V) (x : Tx) (hm : Mrg A C i' j' (O ++ [x])) (hz : O.length + 1 ≤ 8796093022208) (ty : TypeId) :
    ∃ g c W', (Builtin.append_ #[24, 24] ty #[v, .slice (some ⟨V.heap.size, 0, none⟩) 1 1]).run Try.prog (V.alloc (.cells #[.string x] 9)) = .ok (.slice (some ⟨g, 0, none⟩) (O.length + 1) c) W' ∧ Mk w W' A C i' j' (.slice (some ⟨g, 0, none⟩) (O.length + 1) c) (O ++ [x]) := by
  obtain ⟨g, c, W', hrun, ho, hc, hu, hd⟩ := push_tx x (h.own.below hV) hz 24 ty Try.underlying24
  have s1 := h.old.size
  have s2 := hV.size
  refine ⟨g, c, W', hrun, ho, fun g' hg' => ?_, (h.old.trans (hV.mono s1)).trans (hc.below (by omega) fun b hb => h.new b hb), hm⟩
  have e : g = g' := by injection hg'
  subst e
  rcases hu with e | e
  · exact h.new g e
  · omega
set_option maxRecDepth 100000 in
set_option maxHeartbeats 8000000 in
theorem merge_any {w : World} {va vc : Value} {A C : List Tx} (ha : RowAt w va A w.heap.size) (hc : RowAt w vc C w.heap.size) (hA : Rs A) (hC : Rs C) (hz : A.length + C.length ≤ 8796093022208) :
    Calls Try.prog 28 #[va, vc] w fun e w' => ∃ a c, e = .returned (.slice a (ofS (A ++ C)).length c) ∧ Own w' (.slice a (ofS (A ++ C)).length c) (ofS (A ++ C)) ∧ (∀ g, (Value.slice a (ofS (A ++ C)).length c).ownBlock = some g → w.heap.size ≤ g) ∧ Below w.heap.size w w' := by
  obtain ⟨aa, ca, rfl, hat⟩ := ha
  obtain ⟨ac, cc, rfl, hct⟩ := hc
  have HA := hide hat
  have HC := hide hct
  have HR := hide (⟨hA, hC⟩ : _ ∧ _)
  clear hat hct hA hC
  go_enter Try.func28, Try.ntmps28
  go_wp2
  go_loopw [5, 6, 7] (fun s p q wr => ∃ (a : Option Addr) (c i j : Nat) (O : List Tx), s = .slice a O.length c ∧ p = .int .i64 (i : Int) ∧ q = .int .i64 (j : Int) ∧ i ≤ A.length ∧ j ≤ C.length ∧ O.length ≤ i + j ∧ Hid (Mk w wr A C i j (.slice a O.length c) O)) (fun _ p q _ => A.length + C.length - (intOf p).toNat - (intOf q).toNat)
  case atStart => exact ⟨none, 0, 0, 0, [], rfl, rfl, rfl, Nat.zero_le _, Nat.zero_le _, by simp, World.ownsRow_nil _ _ _ _, (fun g hg => by cases hg), Below.refl _ _, Mrg.start A C⟩
  case round =>
    obtain ⟨a, c, i, j, O, rfl, rfl, rfl, hi, hj, hO, HM⟩ := hrel
    by_cases hil : i < A.length
    · obtain ⟨ga, oa, rfl, hga, hca⟩ := unhide HA (by omega)
      obtain ⟨x, hx⟩ : ∃ x, A[i]? = some x := ⟨_, List.getElem?_eq_getElem hil⟩
      have c1 : ∀ V, Below wr.heap.size wr V → V.cell? ⟨ga, oa + i, none⟩ = some (.string x) := fun V hV => (((unhide HM).old.trans (hV.mono (unhide HM).old.size)).cell (p := ⟨ga, oa + i, none⟩) hga).trans (hca i x hx)
      have HX := hide hx
      have C1 := hide c1
      clear hca hx c1
      by_cases hjl : j < C.length
      · obtain ⟨gc, oc, rfl, hgc, hcc⟩ := unhide HC (by omega)
        obtain ⟨y, hy⟩ : ∃ y, C[j]? = some y := ⟨_, List.getElem?_eq_getElem hjl⟩
        have c2 : ∀ V, Below wr.heap.size wr V → V.cell? ⟨gc, oc + j, none⟩ = some (.string y) := fun V hV => (((unhide HM).old.trans (hV.mono (unhide HM).old.size)).cell (p := ⟨gc, oc + j, none⟩) hgc).trans (hcc j y hy)
        have HY := hide hy
        have C2 := hide c2
        clear hcc hy c2
        have e1 := lt_def x y
        cases hlt : lt x y with
        | true =>
          rw [hlt] at e1
          have hm := (unhide HM).mrg.left (unhide HR).1 (unhide HX) (fun z hz => by
            rw [drop_get (unhide HY)] at hz
            rcases List.mem_cons.1 hz with e | e
            · rw [e]; exact hlt
            · exact lt_tr hlt (rs_drop (unhide HR).2 (unhide HY) z e))
          have HMm := hide hm
          clear hm
          have k1 := unhide C1 wr (Below.refl _ _)
          have k2 := unhide C2 wr (Below.refl _ _)
          have hqC : ¬ C.length ≤ j := by omega
          go_wp2
          go_quiet (fail)
          obtain ⟨V, hV⟩ : ∃ V, V = wr.drewN nq := ⟨_, rfl⟩
          rw [← hV]
          have bV : Below wr.heap.size wr V := by rw [hV]; exact below_drewN _ _ _
          clear hV k1 k2
          have k3 := unhide C1 V bV
          obtain ⟨g9, c9, W9, hrun9, mk9⟩ := (unhide HM).push bV x (unhide HMm) (by omega) 24
          have HRN := hide hrun9
          have HMK := hide mk9
          clear hrun9 mk9 HM HMm
          go_wp2_with (at_builtin; refine wpList_append_run rfl _ _ 24 24 rfl _ _ rfl rfl (.slice (some ⟨g9, 0, none⟩) (O.length + 1) c9) W9 (unhide HRN) ?_)
          go_roundw
          case rel => exact ⟨some ⟨g9, 0, none⟩, c9, i + 1, j, O ++ [x], by simp, by simp, by simp, by omega, by omega, by simp; omega, by rw [List.length_append]; exact HMK⟩
          case measure => simp [intOf]; omega
        | false =>
          rw [hlt] at e1
          cases heq : (x.toList == y.toList) with
          | true =>
            have exy : x = y := tx_beq.1 heq
            have hm := (unhide HM).mrg.both (unhide HR).1 (unhide HR).2 (unhide HX) (by rw [exy]; exact unhide HY)
            rw [exy] at hm
            clear exy hlt
            have HMm := hide hm
            clear hm
            have k1 := unhide C1 wr (Below.refl _ _)
            have k2 := unhide C2 wr (Below.refl _ _)
            have hqC : ¬ C.length ≤ j := by omega
            go_wp2
            go_quiet (fail)
            obtain ⟨V, hV⟩ : ∃ V, V = wr.drewN nq := ⟨_, rfl⟩
            rw [← hV]
            have bV : Below wr.heap.size wr V := by rw [hV]; exact below_drewN _ _ _
            clear hV k1 k2
            have k1 := unhide C1 V bV
            have k2 := unhide C2 V bV
            go_wp2
            go_quiet (fail)
            obtain ⟨U, hU⟩ : ∃ U, U = V.drewN nq := ⟨_, rfl⟩
            rw [← hU]
            have bU : Below wr.heap.size wr U := by rw [hU]; exact bV.trans (below_drewN _ _ _)
            clear hU k2 k1
            have k3 := unhide C2 U bU
            obtain ⟨g9, c9, W9, hrun9, mk9⟩ := (unhide HM).push bU y (unhide HMm) (by omega) 24
            have HRN := hide hrun9
            have HMK := hide mk9
            clear hrun9 mk9 HM HMm
            go_wp2_with (at_builtin; refine wpList_append_run rfl _ _ 24 24 rfl _ _ rfl rfl (.slice (some ⟨g9, 0, none⟩) (O.length + 1) c9) W9 (unhide HRN) ?_)
            go_roundw
            case rel => exact ⟨some ⟨g9, 0, none⟩, c9, i + 1, j + 1, O ++ [y], by simp, by simp, by simp, by omega, by omega, by simp; omega, by rw [List.length_append]; exact HMK⟩
            case measure => simp [intOf]; omega
          | false =>
            have hyx : lt y x = true := by
              rcases lt_tri x y with e | e | e
              · rw [e] at hlt; cases hlt
              · have := tx_beq.2 e; rw [this] at heq; cases heq
              · exact e
            have hm := (unhide HM).mrg.right (unhide HR).2 (unhide HY) (fun z hz => by
              rw [drop_get (unhide HX)] at hz
              rcases List.mem_cons.1 hz with e | e
              · rw [e]; exact hyx
              · exact lt_tr hyx (rs_drop (unhide HR).1 (unhide HX) z e))
            clear hyx hlt
            have HMm := hide hm
            clear hm
            have k1 := unhide C1 wr (Below.refl _ _)
            have k2 := unhide C2 wr (Below.refl _ _)
            have hqC : ¬ C.length ≤ j := by omega
            go_wp2
            go_quiet (fail)
            obtain ⟨V, hV⟩ : ∃ V, V = wr.drewN nq := ⟨_, rfl⟩
            rw [← hV]
            have bV : Below wr.heap.size wr V := by rw [hV]; exact below_drewN _ _ _
            clear hV k1 k2
            have k1 := unhide C1 V bV
            have k2 := unhide C2 V bV
            go_wp2
            go_quiet (fail)
            obtain ⟨U, hU⟩ : ∃ U, U = V.drewN nq := ⟨_, rfl⟩
            rw [← hU]
            have bU : Below wr.heap.size wr U := by rw [hU]; exact bV.trans (below_drewN _ _ _)
            clear hU k2 k1
            have k3 := unhide C2 U bU
            obtain ⟨g9, c9, W9, hrun9, mk9⟩ := (unhide HM).push bU y (unhide HMm) (by omega) 24
            have HRN := hide hrun9
            have HMK := hide mk9
            clear hrun9 mk9 HM HMm
            go_wp2_with (at_builtin; refine wpList_append_run rfl _ _ 24 24 rfl _ _ rfl rfl (.slice (some ⟨g9, 0, none⟩) (O.length + 1) c9) W9 (unhide HRN) ?_)
            go_roundw
            case rel => exact ⟨some ⟨g9, 0, none⟩, c9, i, j + 1, O ++ [y], by simp, by simp, by simp, by omega, by omega, by simp; omega, by rw [List.length_append]; exact HMK⟩
            case measure => simp [intOf]; omega
      · have hm := (unhide HM).mrg.left (unhide HR).1 (unhide HX) (fun z hz => by rw [List.drop_eq_nil_of_le (by omega)] at hz; cases hz)
        obtain rfl : j = C.length := by omega
        clear hj hjl
        have HMm := hide hm
        clear hm
        have k1 := unhide C1 wr (Below.refl _ _)
        go_wp2
        go_quiet (fail)
        obtain ⟨V, hV⟩ : ∃ V, V = wr.drewN nq := ⟨_, rfl⟩
        rw [← hV]
        have bV : Below wr.heap.size wr V := by rw [hV]; exact below_drewN _ _ _
        clear hV k1
        have k3 := unhide C1 V bV
        obtain ⟨g9, c9, W9, hrun9, mk9⟩ := (unhide HM).push bV x (unhide HMm) (by omega) 24
        have HRN := hide hrun9
        have HMK := hide mk9
        clear hrun9 mk9 HM HMm
        go_wp2_with (at_builtin; refine wpList_append_run rfl _ _ 24 24 rfl _ _ rfl rfl (.slice (some ⟨g9, 0, none⟩) (O.length + 1) c9) W9 (unhide HRN) ?_)
        go_roundw
        case rel => exact ⟨some ⟨g9, 0, none⟩, c9, i + 1, C.length, O ++ [x], by simp, by simp, by simp, by omega, by omega, by simp; omega, by rw [List.length_append]; exact HMK⟩
        case measure => simp [intOf]; omega
    · by_cases hjl : j < C.length
      · obtain ⟨gc, oc, rfl, hgc, hcc⟩ := unhide HC (by omega)
        obtain ⟨y, hy⟩ : ∃ y, C[j]? = some y := ⟨_, List.getElem?_eq_getElem hjl⟩
        have c2 : ∀ V, Below wr.heap.size wr V → V.cell? ⟨gc, oc + j, none⟩ = some (.string y) := fun V hV => (((unhide HM).old.trans (hV.mono (unhide HM).old.size)).cell (p := ⟨gc, oc + j, none⟩) hgc).trans (hcc j y hy)
        have HY := hide hy
        have C2 := hide c2
        clear hcc hy c2
        have hm := (unhide HM).mrg.right (unhide HR).2 (unhide HY) (fun z hz => by rw [List.drop_eq_nil_of_le (by omega)] at hz; cases hz)
        obtain rfl : i = A.length := by omega
        clear hi hil
        have HMm := hide hm
        clear hm
        have k2 := unhide C2 wr (Below.refl _ _)
        have hqC : ¬ C.length ≤ j := by omega
        go_wp2
        go_quiet (fail)
        obtain ⟨V, hV⟩ : ∃ V, V = wr.drewN nq := ⟨_, rfl⟩
        rw [← hV]
        have bV : Below wr.heap.size wr V := by rw [hV]; exact below_drewN _ _ _
        clear hV k2
        have k2 := unhide C2 V bV
        go_wp2
        go_quiet (fail)
        obtain ⟨U, hU⟩ : ∃ U, U = V.drewN nq := ⟨_, rfl⟩
        rw [← hU]
        have bU : Below wr.heap.size wr U := by rw [hU]; exact bV.trans (below_drewN _ _ _)
        clear hU k2
        have k3 := unhide C2 U bU
        obtain ⟨g9, c9, W9, hrun9, mk9⟩ := (unhide HM).push bU y (unhide HMm) (by omega) 24
        have HRN := hide hrun9
        have HMK := hide mk9
        clear hrun9 mk9 HM HMm
        go_wp2_with (at_builtin; refine wpList_append_run rfl _ _ 24 24 rfl _ _ rfl rfl (.slice (some ⟨g9, 0, none⟩) (O.length + 1) c9) W9 (unhide HRN) ?_)
        go_roundw
        case rel => exact ⟨some ⟨g9, 0, none⟩, c9, A.length, j + 1, O ++ [y], by simp, by simp, by simp, by omega, by omega, by simp; omega, by rw [List.length_append]; exact HMK⟩
        case measure => simp [intOf]; omega
      · have HF : Hid (∃ a' c', Value.slice a O.length c = .slice a' (ofS (A ++ C)).length c' ∧ Own wr (.slice a' (ofS (A ++ C)).length c') (ofS (A ++ C)) ∧ (∀ g, (Value.slice a' (ofS (A ++ C)).length c').ownBlock = some g → w.heap.size ≤ g) ∧ Below w.heap.size w wr) := by
          have e := (unhide HM).mrg.done (by omega) (by omega)
          rw [← e]
          exact ⟨a, c, rfl, (unhide HM).own, (unhide HM).new, (unhide HM).old⟩
        go_wp2
        go_ret
        obtain ⟨a', c', e, h1⟩ := unhide HF
        exact ⟨a', c', by rw [← e]; rfl, h1⟩
end Sm
end Go.Proofs.Ytamlfmohalkemaa
