/- Layer 6: Put of a living writer. -/
import Derived.Test.YtigffjbefbndnaaDoorWc
namespace Go.Proofs.YtigffjbefbndnaaDoor
open Go.RowKit
namespace Rs
/-- a writer behind Put -/
def putX (x : Wri) (c : Nat) (rest : List UInt8) : Wri := if c = 0 then { x with buf := rest } else { x with buf := [], dead := c }
theorem putX_no {x : Wri} {c : Nat} {rest : List UInt8} (h : c ≠ 0) : putX x c rest = { x with buf := [], dead := c } := if_neg h
/-- the start of the loop: the frames lie behind what was held -/
theorem Lw.start {w w1 W : World} {E : Nat → Addr} {F G : Nat → Prop} {sb wb : Nat} {x : Wri} {m : Sto} {bv : Value} {g n cap : Nat} {full : List UInt8} (h : At w1 sb m F) (hw : WIn w1 E sb wb x G bv) (hd : ∀ b, F b → ¬ G b) (hb : Below w.heap.size w w1)
    (ho : W.ownsRow 0 5 1 (.slice (some ⟨g, 0, none⟩) n cap) full.length (full.map encB)) (hg : w1.grownBy W bv.ownBlock) (ha : (Value.slice (some ⟨g, 0, none⟩) n cap).ownBlock = bv.ownBlock ∨ (Value.slice (some ⟨g, 0, none⟩) n cap).ownBlock = some w1.heap.size) :
    Lw w (W.setCell ⟨wb, 3, none⟩ (.slice (some ⟨g, 0, none⟩) n cap)) E F G sb wb x m g cap full F := by
  obtain rfl : n = full.length := by
    obtain ⟨_, _, e⟩ := own_slice ho
    injection e
  have hbs : bv.ownBlock ≠ some wb := fun e => by
    obtain ⟨c1, z1, q1⟩ := Lib.ownsRow_kind hw.row wb e
    rw [hw.sto] at q1
    injection q1 with q1
    injection q1 with _ q1 _
    exact absurd q1 (by decide)
  have lw := hw.lt wb hw.own
  have hgw : g ≠ wb := fun e => by
    rcases ha with y | y
    · exact hbs (by rw [← y, e]; rfl)
    · have y2 : g = w1.heap.size := by injection y
      omega
  have hWb : W.heap[wb]? = w1.heap[wb]? := hg.block wb lw (fun e => hbs e.symm)
  have hz : (W.setCell ⟨wb, 3, none⟩ (.slice (some ⟨g, 0, none⟩) full.length cap)).heap.size = W.heap.size := by simp
  have hne : ∀ b, b ≠ wb → (W.setCell ⟨wb, 3, none⟩ (.slice (some ⟨g, 0, none⟩) full.length cap)).heap[b]? = W.heap[b]? := fun b hb => Below.heap_setCell _ _ _ _ hb
  have hF1 : ∀ b, F b → b ≠ wb ∧ bv.ownBlock ≠ some b := fun b hb' => ⟨fun e => hd b hb' (e ▸ hw.own), fun e => hd b hb' (hw.rowG b e)⟩
  have l1 := hb.size
  have l2 := hg.size
  refine ⟨?_, own_kept ho fun k hk => hne k ?_, h.kept (fun b hF => ?_) (fun _ x => x) (fun b hF => ?_), fun b hF => .inl hF, fun hF => hd wb hF hw.own, fun hF => ?_, ?_, ?_⟩
  · rw [set_heap1 (hWb.trans hw.sto)]
    simp [wriC]
  · injection hk with hk
    rw [← hk]; exact hgw
  · rw [hne b (hF1 b hF).1, hg.block b (h.lt b hF) (fun e => (hF1 b hF).2 e.symm)]
  · rw [hz]; have := h.lt b hF; omega
  · rcases ha with y | y
    · exact (hF1 g hF).2 (by rw [← y]; rfl)
    · have y2 : g = w1.heap.size := by injection y
      have := h.lt g hF; omega
  · rcases ha with y | y
    · exact .inl (hw.rowG g (by rw [← y]; rfl))
    · have y2 : g = w1.heap.size := by injection y
      exact .inr (by omega)
  · refine Chg.setCell ?_ (.inl (.inr hw.own)) _
    refine Chg.grown (Chg.of_below hb) hg fun k hk => .inl (.inr (hw.rowG k hk))
theorem parts_one {W : World} {F : Nat → Prop} (X : ByteArray) (hF : ∀ b, F b → b < W.heap.size) : Parts (W.alloc (.cells #[.string X] 9)) (.slice (some ⟨W.heap.size, 0, none⟩) 1 1) [X] F := by
  refine ⟨_, 1, rfl, by simp, fun _ => ⟨W.heap.size, 0, rfl, by simp, fun h => by have := hF _ h; omega, fun j y hy => ?_⟩⟩
  have : j = 0 := by
    have := (List.getElem?_eq_some_iff.1 hy).1
    simpa using this
  subst this
  simp at hy
  subst hy
  rw [Nat.zero_add, World.cell?_alloc_at _ _ _ _ rfl]
  rfl
set_option maxRecDepth 100000 in
set_option maxHeartbeats 4000000 in
theorem put_go {w : World} {E : Nat → Addr} {B sb wb : Nat} {m : Sto} {F G : Nat → Prop} {x : Wri} {bv v : Value} {L : List ByteArray} (V : Env w E B) (hF : ∀ b, F b → B ≤ b) (hG : ∀ b, G b → B ≤ b) (hB : B ≤ w.heap.size) (h : At w sb m F) (hw : WIn w E sb wb x G bv) (hd : ∀ b, F b → ¬ G b) (hx : x.dead = 0) (hrun : x.run ≤ 16777216)
    (hT : Um.Txs w v L) (hn : L.length ≤ 1048576) (hfit : Um.fit (Um.rl L) = true) (hne : 0 < L.length) (c : Nat) (m' : Sto) (rest : List UInt8) (HP : Hid (wputs x.run x.blk m (x.buf ++ Um.frs (Um.rl L)) = (c, m', rest))) :
    Calls Tryd.prog 39 #[.pointer (some ⟨wb, 0, none⟩), v] w fun e w' => e = .returned (errV E c) ∧ WRes F G w E sb wb m' (putX x c rest) w' := by
  obtain ⟨A, hA⟩ : ∃ A, Um.frA L = A := ⟨_, rfl⟩
  have hAe : A = Um.str (Um.frs (Um.rl L)) := by rw [← hA]; unfold Um.frA; rw [if_pos hfit]
  have HFR := hide (Um.frame_any v L w hT (by omega) A 0 hA (by show Um.frE L = 0; unfold Um.frE; rw [if_pos hfit]))
  have hAs : A.size ≤ 257 * L.length := by
    rw [hAe, Um.str_size]
    have := Um.fk_len (L := L) L.length (Nat.le_refl _) (fun j x _ hx => Um.fit_of hfit hx)
    rw [Um.fk_all (Nat.le_refl _)] at this
    exact this
  have HCK := hide (check_any hw)
  rw [show errV E x.dead = .nilIface by rw [hx]; rfl] at HCK
  obtain ⟨full, hfull⟩ : ∃ full, full = x.buf ++ Um.frs (Um.rl L) := ⟨_, rfl⟩
  rw [← hfull] at HP
  have hb1 := hw.blk1
  have hb2 := hw.blk2
  have hsm := hw.small
  have hfl : full.length = x.buf.length + A.size := by rw [hfull, List.length_append, hAe, Um.str_size]
  have HFC : Hid (full.map encB = x.buf.map encB ++ byteCells A) := by
    show _ = _
    rw [hfull, List.map_append, hAe]
    simp [byteCells, Um.str, encB]
  have hfp : 0 < full.length := by
    rw [hfull, List.length_append]
    cases L with
    | nil => simp at hne
    | cons y z =>
      have := Um.uL_pos (Um.lst y).length
      simp only [Um.rl, List.map_cons, Um.frs_cons, List.length_append, Um.fr_len]
      omega
  have HV := hide V
  have HH := hide h
  have HW := hide hw
  have HDJ := hide hd
  have HGF := hide hF
  have HBB : Hid (∀ W, Chg (fun b => F b ∨ G b) w W → Below B w W) := fun W c => c.below hB (fun k hk => hk.elim (hF k) (hG k))
  obtain ⟨ab, cb, rfl⟩ := own_slice hw.row
  have hflb : full.length ≤ 300000000 := by omega
  have HFL := hide hfl
  clear V h hw hd hF hT hA hAe hfull hG hfl hx
  go_enter Tryd.func39, Tryd.ntmps39
  go_wp2_with fail
  refine (unhide HCK).mono ?_
  rintro e w0 ⟨rfl, hw0⟩
  have hw00 := hw0.symm
  subst hw00
  clear hw0 HCK
  go_wp2_with fail
  refine (unhide HFR).mono ?_
  rintro e w1 ⟨rfl, hB1⟩
  have HB1 := hide hB1
  clear hB1 HFR
  have HW1 := hide ((unhide HW).below (unhide HB1))
  have HH1 := hide ((unhide HH).kept (w' := w1) (fun b hF => (unhide HB1).block b ((unhide HH).lt b hF)) (fun _ x => x) (fun b hF => Nat.lt_of_lt_of_le ((unhide HH).lt b hF) (unhide HB1).size))
  obtain ⟨c0, c1, c2, c3, c4, cf⟩ := wcells (unhide HW1).sto
  have hwb : wb < w1.heap.size := (unhide HW1).lt wb (unhide HW1).own
  obtain ⟨v', W', hap, hO2, hgr2, hat2⟩ := Um.append_str w1 (.slice ab x.buf.length cb) x.buf.length (x.buf.map encB) A 66 (B := 0) (Nat.zero_le _) (unhide HW1).row (by omega)
  have hWwb : W'.heap[wb]? = some (.cells (wriC E sb x (.slice ab x.buf.length cb)) 86 (0, 0)) := by
    rw [hgr2.block wb hwb (fun e => ?_)]
    · exact (unhide HW1).sto
    · obtain ⟨k1, z1, q1⟩ := Lib.ownsRow_kind (unhide HW1).row wb e.symm
      rw [(unhide HW1).sto] at q1
      injection q1 with q1
      injection q1 with _ q1 _
      exact absurd q1 (by decide)
  obtain ⟨e0, e1, e2, e3, e4, ef⟩ := wcells hWwb
  have hwbW : wb < W'.heap.size := (Array.getElem?_eq_some_iff.1 hWwb).1
  obtain ⟨g, k2, rfl⟩ : ∃ g k2, v' = .slice (some ⟨g, 0, none⟩) (x.buf.length + A.size) k2 := by
    rcases hO2.2 with ⟨_, e⟩ | ⟨g, cap, cur, e, _⟩
    · have := unhide HFL; omega
    · exact ⟨g, cap, e⟩
  have HAP := hide hap
  have HLW := hide (Lw.start (unhide HH1) (unhide HW1) (unhide HDJ) (unhide HB1) (full := full) (by rw [unhide HFL, unhide HFC]; exact hO2) hgr2 hat2)
  rw [← unhide HFL] at HAP HLW
  clear hap hO2 hgr2 hat2 hWwb
  go_wp2_with (at_builtin; refine Um.wpList_app _ rfl _ _ rfl _ _ _ _ rfl rfl (by exact unhide HAP) ?_)
  have HP0 := HP
  clear HP HAP
  have hGwb : G wb := (unhide HW).own
  have HGWB := hide hGwb
  have hlw := unhide HLW
  clear e0 e1 e2 e3 e4 ef c0 c1 c2 c3 c4 cf hGwb
  go_loopw [8] (fun s8 wr => ∃ (T : List UInt8) (mr : Sto) (off rc : Nat) (F' : Nat → Prop), s8 = .slice (some ⟨g, off, none⟩) T.length rc ∧ T.length ≤ rc ∧ T.length ≤ full.length ∧ Hid (0 < T.length → off + T.length = full.length) ∧ Hid (full.drop (full.length - T.length) = T) ∧ Hid (wputs x.run x.blk mr T = (c, m', rest)) ∧ Hid (Lw w wr E F G sb wb x mr g k2 full F')) (fun s8 _ => match s8 with | .slice _ n _ => n | _ => 0)
  case atStart =>
    refine ⟨full, m, 0, k2, F, rfl, ?_, Nat.le_refl _, fun _ => by omega, (by show _ = _; rw [Nat.sub_self, List.drop_zero]), HP0, hlw⟩
    rcases hlw.row.2 with ⟨e, _⟩ | ⟨g', cap, cur, e, _, _, hc, _⟩
    · cases e
    · injection e with _ _ e3
      omega
  case round =>
    obtain ⟨T, mr, off, rc, F', rfl, hrc, hTf, HOF, HTD, HPT, HL⟩ := hrel
    obtain ⟨c0, c1, c2, c3, c4, cf⟩ := wcells (unhide HL).sto
    have hwbr : wb < wr.heap.size := (Array.getElem?_eq_some_iff.1 (unhide HL).sto).1
    by_cases hl : T.length < x.blk
    · have hlz : ¬ (x.blk : Int) ≤ (T.length : Int) := by omega
      have hp := unhide HPT
      rw [wputs_stop hl] at hp
      injection hp with hp1 hp2
      injection hp2 with hp2 hp3
      subst hp1 hp2 hp3
      by_cases hs : T.length < full.length
      · have hsz : (T.length : Int) < (full.length : Int) := by omega
        have HCL := hide (clone_any (.slice (some ⟨g, off, none⟩) T.length rc) T wr ⟨g, off, rc, rfl, ((unhide HL).row.lt g rfl).2, fun j y hj => by
          have hjl := (List.getElem?_eq_some_iff.1 hj).1
          have ho := unhide HOF (by omega)
          have hcell := (unhide HL).row.cellAt (off + j) (by omega)
          rw [hcell, List.getElem?_map]
          have : full[off + j]? = some y := by
            rw [← hj]
            conv => rhs; rw [← unhide HTD]
            rw [List.getElem?_drop]
            congr 1
            omega
          rw [this]
          rfl⟩ (by omega))
        go_wp2_with (go_at_call 53; refine (unhide HCL).mono ?_; rintro e w4 ⟨u, rfl, ho4, hb4⟩; obtain ⟨au, cu, rfl⟩ := own_slice ho4; have HFI := hide ((unhide HL).fresh (unhide HGWB) ho4 hb4 hl hb1 hb2); obtain ⟨z0, z1, z2, z3, z4, zf⟩ := wcells ((unhide HL).below hb4).sto; have hz4 : wb < w4.heap.size := Nat.lt_of_lt_of_le hwbr hb4.size; clear ho4 hb4)
        go_ret
        exact ⟨rfl, unhide HFI⟩
      · have hsz : ¬ (T.length : Int) < (full.length : Int) := by omega
        have hTe : T = full := by
          have := unhide HTD
          rw [show full.length - T.length = 0 by omega, List.drop_zero] at this
          exact this.symm
        have HFI := hide ((unhide HL).stay (unhide HGWB) (by omega) hb1 hb2)
        rw [← hTe] at HFI
        clear hTe
        go_wp2
        go_ret
        exact ⟨rfl, unhide HFI⟩
    · have hlz : (x.blk : Int) ≤ (T.length : Int) := by omega
      have hof := unhide HOF (by omega)
      have hTe : full.drop off = T := by
        have := unhide HTD
        rw [show full.length - T.length = off by omega] at this
        exact this
      obtain ⟨X, hX⟩ : ∃ X, strB (T.take x.blk) = X := ⟨_, rfl⟩
      have HCV : Hid (∀ {W : World} {mm : Sto} {FF : Nat → Prop}, Lw w W E F G sb wb x mm g k2 full FF → (convert 66 9 (.slice (some ⟨g, off, none⟩) x.blk rc)).run Tryd.prog W = .ok (.string X) W) := fun {W mm FF} hW => by
        have := conv_row hW.row off x.blk rc (by omega)
        rw [hTe, hX] at this
        exact this
      obtain ⟨c9, hc9⟩ : ∃ c9, (app mr x.run [X]).1 = c9 := ⟨_, rfl⟩
      obtain ⟨m9, hm9⟩ : ∃ m9, (app mr x.run [X]).2 = m9 := ⟨_, rfl⟩
      have HAPP : Hid (∀ W, Below wr.heap.size wr W → wr.heap.size < W.heap.size → W.cell? ⟨wr.heap.size, 0, none⟩ = some (.string X) → Calls Tryd.prog 51 #[.pointer (some ⟨sb, 0, none⟩), .int .i64 x.run, .slice (some ⟨wr.heap.size, 0, none⟩) 1 1] W fun e w' => e = .returned (errV E c9) ∧ Lw w w' E F G sb wb x m9 g k2 full (Up F' W w')) := fun W hW hlt hcell => by
        have l := (unhide HL).below hW
        have hFB : ∀ b, F' b → B ≤ b := fun b hb => by
          rcases (unhide HL).sub b hb with y | y
          · exact unhide HGF b y
          · omega
        have hBW : Below B w W := (unhide HBB wr (unhide HL).chg).trans (hW.mono (by have := (unhide HL).chg.size; omega))
        have q := append_any (k := (x.run : Int)) (v := .slice (some ⟨wr.heap.size, 0, none⟩) 1 1) (L := [X]) l.at_ (((unhide HV).below hBW).gs hFB) (by omega) (by omega) ⟨_, 1, rfl, by simp, fun _ => ⟨wr.heap.size, 0, rfl, hlt, fun hb => by have := (unhide HL).at_.lt _ hb; omega, fun j y hy => by
          have : j = 0 := by
            have := (List.getElem?_eq_some_iff.1 hy).1
            simpa using this
          subst this
          simp at hy
          subst hy
          rw [Nat.zero_add]; exact hcell⟩⟩
        rw [hc9, hm9] at q
        exact q.mono fun e w' hh => ⟨hh.1, l.res hh.2⟩
      have HWP : Hid ((c9 = 0 → wputs x.run x.blk mr T = wputs x.run x.blk m9 (T.drop x.blk)) ∧ (c9 ≠ 0 → wputs x.run x.blk mr T = (c9, m9, T))) := by
        refine ⟨fun e => ?_, fun e => ?_⟩
        · have := wputs_go (k := (x.run : Int)) (m := mr) hb1 hl (by rw [hX, hc9]; exact e)
          rw [hX, hm9] at this
          exact this
        · have := wputs_no (k := (x.run : Int)) (m := mr) hb1 hl (by rw [hX, hc9]; exact e)
          rw [hX, hm9, hc9] at this
          exact this
      have HTE := hide hTe
      clear hX hc9 hm9 hTe
      have s0 := unhide HCV (unhide HL)
      have hrcz : (x.blk : Int) ≤ (rc : Int) := by omega
      have hbz : 0 ≤ (x.blk : Int) := by omega
      have hrcn : x.blk ≤ rc := by omega
      by_cases h9 : c9 = 0
      · subst h9
        rw [show errV E 0 = .nilIface from rfl] at HAPP
        go_wp2
        go_region_held3 (fun w' => w'.cell? ⟨wb, 0, none⟩ = some (.pointer (some ⟨sb, 0, none⟩)) ∧ w'.cell? ⟨wb, 1, none⟩ = some (.int .i64 x.run) ∧ w'.cell? ⟨wb, 2, none⟩ = some (.int .i64 x.blk) ∧ (convert 66 9 (.slice (some ⟨g, off, none⟩) x.blk rc)).run Tryd.prog w' = .ok (.string X) w')
          (first | exact ⟨c0, c1, c2, s0⟩ | exact s3 | (refine ⟨?_, ?_, ?_, unhide HCV ((unhide HL).below (by (repeat (first | exact Below.refl _ _ | refine Below.drew ?_ | refine Below.alloc ?_ (by first | (simp; done) | (simp; omega)) _ | refine Below.setCell ?_ (by first | (simp; done) | (simp; omega)) _))))⟩ <;> go_simp))
          (first | (go_at_call 51; refine (unhide HAPP _ (by (repeat (first | exact Below.refl _ _ | refine Below.drew ?_ | refine Below.alloc ?_ (by first | (simp; done) | (simp; omega)) _ | refine Below.setCell ?_ (by first | (simp; done) | (simp; omega)) _))) (by simp) (by go_simp)).mono ?_; rintro e w3 ⟨rfl, hl3⟩; have HL3 := hide hl3; obtain ⟨z0, z1, z2, z3, z4, zf⟩ := wcells hl3.sto; have s3 := (⟨z0, z1, z2, unhide HCV hl3⟩ : _ ∧ _ ∧ _ ∧ _); have hz3 : wb < w3.heap.size := (Array.getElem?_eq_some_iff.1 hl3.sto).1; clear hl3))
        clear s3
        go_wp2
        have hdl : (T.drop x.blk).length = T.length - x.blk := List.length_drop
        have hwp : wputs x.run x.blk m9 (T.drop x.blk) = (c, m', rest) := ((unhide HWP).1 trivial).symm.trans (unhide HPT)
        have htd : full.drop (full.length - (T.length - x.blk)) = T.drop x.blk := by
          rw [show full.length - (T.length - x.blk) = off + x.blk by omega, ← List.drop_drop, unhide HTE]
        by_cases hq : rc = x.blk
        · rw [if_pos hq]
          refine ⟨⟨T.drop x.blk, m9, off, rc - x.blk, _, by rw [hdl], by omega, by omega, fun h0 => by omega, (by show _ = _; rw [hdl]; exact htd), hwp, HL3⟩, by show T.length - x.blk < T.length; omega⟩
        · rw [if_neg hq]
          refine ⟨⟨T.drop x.blk, m9, off + x.blk, rc - x.blk, _, by rw [hdl], by omega, by omega, fun h0 => by omega, (by show _ = _; rw [hdl]; exact htd), hwp, HL3⟩, by show T.length - x.blk < T.length; omega⟩
      · have herr : errV E c9 = er E c9 := if_neg h9
        have hp := (unhide HWP).2 h9
        rw [unhide HPT] at hp
        injection hp with hp1 hp2
        injection hp2 with hp2 hp3
        subst hp1 hp2 hp3
        have HDIE : Hid (∀ {W : World} {mm : Sto} {FF : Nat → Prop}, Lw w W E F G sb wb x mm g k2 full FF → Calls Tryd.prog 52 #[.pointer (some ⟨wb, 0, none⟩), er E c] W fun e w' => e = .returned (er E c) ∧ WRes F G w E sb wb mm { x with buf := [], dead := c } w') := fun {W mm FF} hW => by
          refine (die_any hW.sto rfl (er E c) (.inr ⟨_, _, rfl⟩)).mono ?_
          rintro e w' ⟨rfl, rfl⟩
          have := hW.died (c := c) (unhide HGWB) hb1 hb2
          rw [herr] at this
          exact ⟨rfl, this⟩
        rw [herr] at HAPP
        have HERR := hide herr
        have HN9 := hide h9
        clear herr h9
        go_wp2
        go_region_held3 (fun w' => w'.cell? ⟨wb, 0, none⟩ = some (.pointer (some ⟨sb, 0, none⟩)) ∧ w'.cell? ⟨wb, 1, none⟩ = some (.int .i64 x.run) ∧ w'.cell? ⟨wb, 2, none⟩ = some (.int .i64 x.blk) ∧ (convert 66 9 (.slice (some ⟨g, off, none⟩) x.blk rc)).run Tryd.prog w' = .ok (.string X) w')
          (first | exact ⟨c0, c1, c2, s0⟩ | exact s3 | (refine ⟨?_, ?_, ?_, unhide HCV ((unhide HL).below (by (repeat (first | exact Below.refl _ _ | refine Below.drew ?_ | refine Below.alloc ?_ (by first | (simp; done) | (simp; omega)) _ | refine Below.setCell ?_ (by first | (simp; done) | (simp; omega)) _))))⟩ <;> go_simp))
          (first | (go_at_call 51; refine (unhide HAPP _ (by (repeat (first | exact Below.refl _ _ | refine Below.drew ?_ | refine Below.alloc ?_ (by first | (simp; done) | (simp; omega)) _ | refine Below.setCell ?_ (by first | (simp; done) | (simp; omega)) _))) (by simp) (by go_simp)).mono ?_; rintro e w3 ⟨rfl, hl3⟩; have HL3 := hide hl3; obtain ⟨z0, z1, z2, z3, z4, zf⟩ := wcells hl3.sto; have s3 := (⟨z0, z1, z2, unhide HCV hl3⟩ : _ ∧ _ ∧ _ ∧ _); have hz3 : wb < w3.heap.size := (Array.getElem?_eq_some_iff.1 hl3.sto).1; clear hl3))
        clear s3
        go_wp2_with (go_at_call 52; refine (unhide HDIE (unhide HL3)).mono ?_; rintro e w4 ⟨rfl, hr4⟩; have HR4 := hide hr4; clear hr4)
        go_ret
        refine ⟨by rw [unhide HERR]; rfl, ?_⟩
        rw [putX_no (unhide HN9)]
        exact unhide HR4
end Rs
end Go.Proofs.YtigffjbefbndnaaDoor
