/- Contracts: what of a line's fields is kept ahead of a remark; the rows of a text (lines.Rows). -/
import Derived.Test.YtaaonaaciomijabDoorShJ
import Derived.Test.YtaaonaaciomijabDoorEachW
import Derived.Test.YtaaonaaciomijabDoorRowB
namespace Go.Proofs.YtaaonaaciomijabDoor
open Go.RowKit Go.Shelf
namespace RowW
open FldW EachW RowB
attribute [local go_sem] Oper.semAt_some

theorem begins_any (f : ByteArray) (w : World) : Calls Tryd.prog 62 #[.string f] w fun e w' => e = .returned (.bool (Rw.rem f.data.toList)) ∧ w' = w := by
  go_enter Tryd.func62, Tryd.ntmps62
  go_wp2_with fail
  refine (Tryd.strings_HasPrefix f ⟨#[35]⟩ w).mono ?_
  rintro e w' ⟨rfl, hw⟩
  obtain rfl := hw.symm
  go_wp2
  go_ret
  exact ⟨rfl, rfl⟩

set_option maxHeartbeats 1000000 in
theorem ahead_any (fs : List (List UInt8)) (n₀ : Nat) (v : Value) (w : World) (h : w.ownsRow n₀ 9 1 v fs.length (vals fs)) :
    Calls Tryd.prog 44 #[v] w fun e w' => (∃ r, e = .returned r ∧ ((Rw.keep fs = [] ∧ ∃ a, r = .slice a 0 0) ∨ (Rw.keep fs ≠ [] ∧ ∃ g, r = .slice (some ⟨g, 0, none⟩) (Rw.keep fs).length (Rw.keep fs).length ∧ v.ownBlock = some g ∧ StrRow n₀ w r ((Rw.keep fs).map Fld.str)))) ∧ w' = w := by
  by_cases h0 : fs = []
  · subst h0
    rw [List.length_nil] at h
    have hk : Rw.keep [] = [] := rfl
    rw [hk]
    clear hk
    obtain ⟨_, ⟨rfl, _⟩ | ⟨g', cap', cur, rfl, _, hh, hc1, hc2⟩⟩ := h
    · go_enter Tryd.func44, Tryd.ntmps44
      go_wp2
      go_loop [3] (fun i => i = .int .i64 0) (fun _ => 0)
      case atStart => rfl
      case round =>
        subst hrel
        go_wp2
        go_ret
        exact ⟨⟨_, rfl, _, rfl⟩, rfl⟩
    · clear hh hc2
      go_enter Tryd.func44, Tryd.ntmps44
      go_wp2
      go_loop [3] (fun i => i = .int .i64 0) (fun _ => 0)
      case atStart => rfl
      case round =>
        subst hrel
        go_wp2
        go_ret
        exact ⟨⟨_, rfl, _, rfl⟩, rfl⟩
  · have hRow := strRow_of_owns h h0
    have hIs := isStrs_of_row hRow
    obtain ⟨g, cap, cur, rfl, hg, hh, hc, hm, hz, ht⟩ := hRow
    rw [List.length_map] at hc ht ⊢
    have hcell : ∀ j f, fs[j]? = some f → w.cell? ⟨g, j, none⟩ = some (.string (Fld.str f)) := by
      obtain ⟨ao, c2, e, _, h1 | ⟨g2, o2, e2, hx⟩⟩ := hIs
      · simp at h1; exact absurd h1 h0
      · intro j f hf
        injection e with e3
        rw [e2] at e3
        injection e3 with e4
        injection e4 with e5 e6
        subst e5; subst e6
        have := hx j (Fld.str f) (by simp [hf])
        simpa using this
    have HC := hide hcell
    clear hcell hIs h
    have hkl := Rw.keep_le fs
    have HT : Hid (Rw.keep fs ≠ [] → StrRow n₀ w (.slice (some ⟨g, 0, none⟩) (Rw.keep fs).length (Rw.keep fs).length) ((Rw.keep fs).map Fld.str)) := fun _ =>
      ⟨g, (Rw.keep fs).length, cur, by simp, hg, hh, by simp, by omega, by omega, by
        rw [List.length_map]
        have hk := Rw.keep_take fs
        have e1 : cur.toList.take (Rw.keep fs).length = (cur.toList.take fs.length).take (Rw.keep fs).length := by rw [List.take_take]; congr 1; omega
        rw [e1, ht, ← List.map_take, ← List.map_take, ← hk]⟩
    have HLT := hide (Rw.keep_lt_of fs)
    have HEND := hide (Rw.keep_end fs)
    generalize hL : fs.length = z at *
    have HL := hide hL
    generalize hK : (Rw.keep fs).length = kk at *
    have HK := hide hK
    clear hL hK ht hh h0
    unfold maxLen at hm
    go_enter Tryd.func44, Tryd.ntmps44
    go_wp2
    go_loop [3] (fun i => ∃ k : Nat, k ≤ kk ∧ i = .int .i64 k) (fun i => kk - (intOf i).toNat)
    case atStart => exact ⟨0, Nat.zero_le _, rfl⟩
    case round =>
      obtain ⟨k, hk, rfl⟩ := hrel
      have hfin : k = kk → ∃ r, Ending.returned (.slice (some ⟨g, 0, none⟩) k k) = .returned r ∧ ((Rw.keep fs = [] ∧ ∃ a, r = .slice a 0 0) ∨ (Rw.keep fs ≠ [] ∧ ∃ g', r = .slice (some ⟨g', 0, none⟩) kk kk ∧ (Value.slice (some ⟨g, 0, none⟩) z cap).ownBlock = some g' ∧ StrRow n₀ w r ((Rw.keep fs).map Fld.str))) := by
        intro e
        subst e
        refine ⟨_, rfl, ?_⟩
        by_cases hke : Rw.keep fs = []
        · left
          have : k = 0 := by rw [← unhide HK, hke]; rfl
          subst this
          exact ⟨hke, _, rfl⟩
        · right
          exact ⟨hke, g, rfl, rfl, unhide HT hke⟩
      have HFIN := hide hfin
      clear hfin
      by_cases hlt : k < z
      · obtain ⟨f, hf⟩ : ∃ f, fs[k]? = some f := ⟨_, List.getElem?_eq_getElem (by rw [unhide HL]; exact hlt)⟩
        have hck := unhide HC k f hf
        have hb := fun wq => begins_any (Fld.str f) wq
        rw [Rw.str_data] at hb
        cases hr : Rw.rem f with
        | false =>
          rw [hr] at hb
          have hk2 := unhide HLT k hk f hf hr
          have HBG := hide hb
          clear hb hr hf
          go_wp2_with (go_at_call 62; refine (unhide HBG _).mono ?_; rintro e w' ⟨rfl, hw⟩; obtain rfl := hw.symm)
          go_round
          case rel => exact ⟨k + 1, by omega, by go_num⟩
          case measure => simp [intOf]; omega
        | true =>
          rw [hr] at hb
          have hk2 := unhide HEND k hk f hf hr
          have HFE := hide (unhide HFIN hk2)
          have HBG := hide hb
          clear hb hr hf hk2
          go_wp2_with (go_at_call 62; refine (unhide HBG _).mono ?_; rintro e w' ⟨rfl, hw⟩; obtain rfl := hw.symm)
          go_ret
          exact ⟨unhide HFE, rfl⟩
      · have hnl : ¬ ((k : Int) < (z : Int)) := by omega
        have HFE := hide (unhide HFIN (by omega))
        go_wp2
        go_ret
        exact ⟨unhide HFE, rfl⟩

theorem ahead_none (fs : List (List UInt8)) (hk : Rw.keep fs = []) (n₀ : Nat) (v : Value) (w : World) (h : w.ownsRow n₀ 9 1 v fs.length (vals fs)) :
    Calls Tryd.prog 44 #[v] w fun e w' => ∃ a, e = .returned (.slice a 0 0) ∧ w' = w := by
  refine (ahead_any fs n₀ v w h).mono ?_
  rintro e w' ⟨⟨r, rfl, ⟨_, a, rfl⟩ | ⟨h2, _⟩⟩, hw⟩
  · exact ⟨a, rfl, hw⟩
  · exact absurd hk h2
theorem ahead_some (fs : List (List UInt8)) (hk : Rw.keep fs ≠ []) (n₀ : Nat) (v : Value) (w : World) (h : w.ownsRow n₀ 9 1 v fs.length (vals fs)) :
    Calls Tryd.prog 44 #[v] w fun e w' => ∃ g, e = .returned (.slice (some ⟨g, 0, none⟩) (Rw.keep fs).length (Rw.keep fs).length) ∧ StrRow n₀ w (.slice (some ⟨g, 0, none⟩) (Rw.keep fs).length (Rw.keep fs).length) ((Rw.keep fs).map Fld.str) ∧ w' = w := by
  refine (ahead_any fs n₀ v w h).mono ?_
  rintro e w' ⟨⟨r, rfl, ⟨h2, _⟩ | ⟨_, g, rfl, _, hs⟩⟩, hw⟩
  · exact absurd h2 hk
  · exact ⟨g, rfl, hs, hw⟩
theorem keepsOthers_below {W W' : World} (h : Below W.heap.size W W') : KeepsOthers W W' := ⟨h.size, fun k _ hk _ => (h.block k (Array.getElem?_eq_some_iff.1 hk).1).trans hk⟩
theorem infoRow : (Tryd.prog.info? 53).map (fun i => (i.zero, i.size, i.bytes)) = some (some (.agg #[.int .i64 0, .slice none 0 0]), 2, 32) := by kernel_rfl
theorem Boxed_below {W W' : World} {B : Nat} {t : TypeId} {v : Value} (h : Boxed W B t v) (hB : Below W.heap.size W W') : Boxed W' B t v := (hB.block B h.lt).trans h

/-- the box of the rows, as it stands between two rounds -/
def Held (n₀ : Nat) (pre : List EachW.Item) (W : World) : Prop := ∃ v, Boxed W n₀ 49 v ∧ RowsAre n₀ 53 W v (Rw.rowsP (raw pre))
theorem held_own (n₀ : Nat) : Own (Held n₀) := by
  rintro s X Y row ⟨v, hv, E, h1, h2, h3⟩ hg hrow
  refine ⟨v, hv.kept hg (fun e' => ?_), E, h1.kept (Keep9.grown hg ?_), h2.kept hg ?_, h3⟩
  · obtain ⟨o, ho, hc⟩ := hrow n₀ e'.symm
    rw [show X.heap[n₀]? = _ from hv] at ho; cases ho; cases hc
  · intro r hr cur hx
    obtain ⟨o, ho, hc⟩ := hrow r hr
    rw [hx] at ho; cases ho; cases hc
  · obtain ⟨_, ⟨rfl, _⟩ | ⟨g, cap, cur, rfl, _, hgb, _⟩⟩ := h2
    · exact .inl rfl
    · refine .inr fun e' => ?_
      obtain ⟨o, ho, hc⟩ := hrow g (by simpa [Value.ownBlock] using e'.symm)
      rw [hgb] at ho; cases ho; cases hc

/-- a row more -/
theorem rows_push {n₀ : Nat} {W W1 w1 : World} {v v' r : Value} {R : List (Nat × List (List UInt8))} {E : List (Nat × Value)} {k : Nat} {ks : List (List UInt8)} {o : Obj} {g : Nat}
    (hv : Boxed W1 n₀ 49 v) (hW : Below W.heap.size W W1) (hF : Fits n₀ W E R) (hO : W1.ownsRow n₀ 53 2 v E.length (cellsE E)) (hN : (E.map fun e => e.2.ownBlock).Nodup ∧ Exact 53 E) (hre : ∃ g n, r = .slice (some ⟨g, 0, none⟩) n n)
    (hr : StrRow W.heap.size W1 r (ks.map Fld.str)) (hrb : r.ownBlock = some g) (hn : n₀ ≤ W.heap.size)
    (hown' : w1.ownsRow n₀ 53 2 v' (E.length + 1) (cellsE E ++ [.int .i64 (k : Int), r])) (hgrow : (W1.alloc o).grownBy w1 v.ownBlock) :
    Boxed w1 n₀ 49 v ∧ KeepsOthers W (w1.setCell ⟨n₀, 0, none⟩ v') ∧ Below n₀ W (w1.setCell ⟨n₀, 0, none⟩ v') ∧ ∃ v2, Boxed (w1.setCell ⟨n₀, 0, none⟩ v') n₀ 49 v2 ∧ RowsAre n₀ 53 (w1.setCell ⟨n₀, 0, none⟩ v') v2 (R ++ [(k, ks)]) := by
  obtain ⟨hv1, hv2, hr2, hk2, hb2⟩ := hv.appended (by decide) hO (Nat.le_trans hn hW.size) (Nat.le_refl _) hown' hgrow
  have k9 : Keep9 W1 (w1.setCell ⟨n₀, 0, none⟩ v') := ((Keep9.alloc W1 o).trans (Keep9.grown_own (hO.alloc o) (by decide) hgrow)).trans (Keep9.box hv1 (by decide) v')
  refine ⟨hv1, (keepsOthers_below hW).trans hk2, (hW.mono hn).trans hb2, v', hv2, E ++ [(k, r)], ?_, ?_, ?_⟩
  · exact Fits.snoc rfl ((hr.mono hn).kept k9) (hF.kept ((Keep9.below hW).trans k9))
  · rw [cellsE_snoc, List.length_append]
    exact hr2
  · refine ⟨?_, hN.2.snoc fun _ => hre⟩
    rw [List.map_append]
    refine nodup_snoc hN.1 ?_
    intro hm
    obtain ⟨g2, e2, _, h2⟩ := hF.blocks _ hm
    obtain ⟨g3, cap3, cur3, e3, h3, _⟩ := hr
    rw [e3] at hrb e2
    simp [Value.ownBlock] at hrb e2
    omega

set_option maxHeartbeats 400000 in
theorem rows_long (s : ByteArray) (w : World) (hs : 65536 < (s.size : Int)) :
    Calls Tryd.prog 25 #[.string s] w fun e w' => e = .returned (.tuple #[.slice none 0 0, .int .i64 10]) ∧ w' = w := by
  go_enter Tryd.func25, Tryd.ntmps25
  go_wp2
  go_ret2
  exact ⟨rfl, rfl⟩

set_option maxRecDepth 100000 in
set_option maxHeartbeats 4000000 in
theorem rows_short (s : ByteArray) (w : World) (hs : s.size ≤ 65536) (hM : MaxIs w) :
    Calls Tryd.prog 25 #[.string s] w fun e w' => ∃ v, e = .returned (.tuple #[v, .int .i64 0]) ∧ RowsAre w.heap.size 53 w' v (Rw.rowsOf s.data.toList) ∧ Below w.heap.size w w' := by
  have hs2 : ¬ (65536 : Int) < (s.size : Int) := by omega
  obtain ⟨i0, hi, hz0, hz1, hz2⟩ := info_parts infoRow
  refine (callsIn_wide (n := 3)).1 ?_
  refine callsIn_of_wp_marks Tryd.func25 rfl trivial ?_ rfl
  simp only [Tryd.ntmps25, List.size_toArray, List.length_cons, List.length_nil, Nat.reduceAdd, Nat.reduceSub, Array.replicate_succ, Array.replicate_zero, List.push_toArray, List.append_toArray, List.nil_append, List.cons_append]
  gi_wp2_with (refine ⟨trivial, ?_⟩; gi_at_call 43; refine (each_in _ s _).mono ?_; rintro e w' ⟨rfl, rfl⟩)
  have bO := Boxed.new w 49 (.slice none 0 0)
  have bN := Boxed.new (w.alloc (.cells #[.slice none 0 0] 49)) 9 (.string s)
  rw [World.size_alloc] at bN
  have hB0 : Below w.heap.size w ((w.alloc (.cells #[.slice none 0 0] 49)).alloc (.cells #[.string s] 9)) := ((Below.refl _ w).alloc (Nat.le_refl _) _).alloc (by simp) _
  have hg0 : 0 < w.heap.size := by
    obtain ⟨m, hm⟩ := hM
    exact World.block_lt_of_cell? w ⟨0, 0, none⟩ hm
  have hN : (gives s).length ≤ 65536 := by
    rw [show gives s = Ln.items s.data.toList from if_pos hs, Ln.items_length]
    have := Ln.linesOf_len s.data.toList
    simp at this
    omega
  refine wpIn_rangeFunc_ownG rfl (by omega) (gf := 58) (lb := #[.pointer (some ⟨w.heap.size + 1, 0, none⟩)]) rfl trivial (enters_of Tryd.func58 (by kernel_rfl) rfl)
    (each_stops _ (by omega) (w.heap.size + 1) w.heap.size s _ (by simp) hg0 (by simp; omega) bN.cell (hM.below hg0 hB0)) belowK_t (belowK_b (by simp; omega)) (Below.refl _ _) (fun _ => rfl)
    (fun pre W => Held w.heap.size pre W ∧ Below w.heap.size w W)
    (fun _ _ _ => False)
    (OwnFrom.and (Own.from (held_own w.heap.size) _) (ownFrom_below (Nat.le_refl _) (by simp; omega)))
    (fun _ _ _ _ _ hs _ _ => hs)
    ⟨⟨_, bO.alloc _, [], trivial, World.ownsRow_nil _ _ _ _, by simp, Exact.nil _⟩, hB0⟩
    (fun x => { tmps := #[.string s, undef, .slice none 0 0, .int .i64 0, .pointer (some ⟨w.heap.size, 0, none⟩), .int .i64 (x.1.1 : Int), .string x.1.2, undef, .string s, .int .i64 s.size, .bool false, .string s, .func (.func 58) #[] #[.pointer (some ⟨w.heap.size + 1, 0, none⟩)], .int .i64 (x.1.1 : Int), .string x.1.2, undef, undef, undef, undef, undef, undef, undef, undef, undef, undef, undef, undef, undef], defers := [] }) ?assign ?body ?done ?stop
  case assign =>
    intro l x W K hK
    gi_wp2
    exact hK
  case body =>
    rintro l pre x W ⟨⟨v, hv, E, hF, hO, hND⟩, hB⟩ hlt
    have hx := x.2
    have hfl := fun wq => fields_any x.1.2 wq (by omega)
    have HFL := hide hfl
    have hEl : E.length ≤ 65536 := by
      rw [hF.length]
      have := Rw.rowsP_len (raw pre)
      rw [raw_length] at this
      omega
    clear hfl
    have hsn : Rw.rowsP (raw (pre ++ [x])) = Rw.rowsP (raw pre) ++ Rw.rowOf x.1.1 x.1.2.data.toList := by rw [raw_snoc, Rw.rowsP_snoc]
    by_cases hkne : Rw.keep (Fld.fieldsOf x.1.2.data.toList) = []
    · have HSN : Hid (Rw.rowsP (raw (pre ++ [x])) = Rw.rowsP (raw pre)) := by
        show Rw.rowsP (raw (pre ++ [x])) = Rw.rowsP (raw pre)
        rw [hsn]
        unfold Rw.rowOf
        rw [hkne]
        simp
      have HAH := hide (fun n₁ v w => ahead_none _ hkne n₁ v w)
      clear hsn hkne
      gi_wp2_with (first | (refine ⟨trivial, ?_⟩; gi_at_call 41; refine (CallsIn.inRound l (callsIn_wide.2 (unhide HFL _))).mono ?_; rintro e W1 ⟨vf, rfl, hOf, hBf⟩) | (refine ⟨trivial, ?_⟩; gi_at_call 44; refine (CallsIn.inRound l (callsIn_wide.2 (unhide HAH _ _ _ hOf))).mono ?_; rintro e W2 ⟨a, rfl, hw⟩; obtain rfl := hw.symm))
      exact ⟨(keepsOthers_below hBf).from _, hBf.mono hB.size, ⟨v, Boxed_below hv hBf, E, by rw [unhide HSN]; exact hF.kept (Keep9.below hBf), Same.owns_below hO hBf, hND⟩, hB.trans (hBf.mono hB.size)⟩
    · have HSN : Hid (Rw.rowsP (raw (pre ++ [x])) = Rw.rowsP (raw pre) ++ [(x.1.1, Rw.keep (Fld.fieldsOf x.1.2.data.toList))]) := by
        show Rw.rowsP (raw (pre ++ [x])) = Rw.rowsP (raw pre) ++ [(x.1.1, Rw.keep (Fld.fieldsOf x.1.2.data.toList))]
        rw [hsn]
        unfold Rw.rowOf
        rw [if_neg (by simpa using hkne)]
      have hkp : 0 < (Rw.keep (Fld.fieldsOf x.1.2.data.toList)).length := List.length_pos_iff.2 hkne
      have hkl : (Rw.keep (Fld.fieldsOf x.1.2.data.toList)).length ≤ 65536 := by
        have h1 := Rw.keep_le (Fld.fieldsOf x.1.2.data.toList)
        have h2 := Fld.fieldsOf_len x.1.2.data.toList
        have h3 := hx.2
        simp at h2
        omega
      have HAH := hide (fun n₁ v w => ahead_some _ hkne n₁ v w)
      clear hsn hkne
      generalize Rw.keep (Fld.fieldsOf x.1.2.data.toList) = ks at *
      generalize hkz : ks.length = kz at *
      clear hkz
      gi_wp2_with (first | (refine ⟨trivial, ?_⟩; gi_at_call 41; refine (CallsIn.inRound l (callsIn_wide.2 (unhide HFL _))).mono ?_; rintro e W1 ⟨vf, rfl, hOf, hBf⟩; have hv1 := Boxed_below hv hBf; have hO1 := Same.owns_below hO hBf; have hc := hv1.cell) | (refine ⟨trivial, ?_⟩; gi_at_call 44; refine (CallsIn.inRound l (callsIn_wide.2 (unhide HAH _ _ _ hOf))).mono ?_; rintro e W2 ⟨g, rfl, hSR, hw⟩; obtain rfl := hw.symm) | (gi_at_builtin; refine wpListIn_append_own _ rfl _ _ 49 rfl w.heap.size 53 i0 (.agg #[.int .i64 0, .slice none 0 0]) 2 32 Tryd.underlying49 hi hz0 hz1 hz2 rfl (by decide) _ _ _ rfl (hO1.alloc _) ⟨W1.heap.size, 0, none⟩ 1 1 [.int .i64 (x.1.1 : Int), .slice (some ⟨g, 0, none⟩) kz kz] rfl rfl (cell_two_new _ _ _ _) (by simp [Value.oneCell']) (by unfold maxLen; omega) (by omega) (by have := hB.size; have := hBf.size; simp; omega) ?_; intro v' w1 hown' hgrow _; obtain ⟨g', cap', rfl⟩ := ownsRow_succ hown'; obtain ⟨hb1, hko, hbl, hres⟩ := rows_push hv1 hBf hF hO1 hND ⟨_, _, rfl⟩ hSR rfl hB.size hown' hgrow; have hc1 := hb1.cell; have hf1 := hb1.frozen))
      exact ⟨hko.from _, hbl, by unfold Held; rw [unhide HSN]; exact hres, hB.trans hbl⟩
  case done =>
    rintro D ys W hD hys ⟨⟨v, hv, E, hF, hO, hND⟩, hB⟩ hK
    have hc := hv.cell
    gi_wp2
    refine ⟨by simp, .inl ⟨_, _, rfl, run_takeDeferred hK, ?_⟩⟩
    refine ⟨_, results_tmp2 rfl _ _ _, v, rfl, ⟨E, ?_, ownsRow_putObj hO (.deferred none) hK rfl, hND⟩, hB.trans (belowK_b (w := w) (Nat.le_refl _) W D _ _ (by simp at hD; omega) hK rfl rfl)⟩
    have e : gives s = Ln.items s.data.toList := if_pos hs
    rw [hys, e] at hF
    exact hF.kept (Keep9.grown (grownBy_putObj' W D (.deferred none)) (fun r hr cur hx => by
      obtain rfl : D = r := by simpa using hr
      rw [hK] at hx
      cases hx))
  case stop =>
    rintro D c pre W _ _ h _
    exact h.elim
end RowW
end Go.Proofs.YtaaonaaciomijabDoor
