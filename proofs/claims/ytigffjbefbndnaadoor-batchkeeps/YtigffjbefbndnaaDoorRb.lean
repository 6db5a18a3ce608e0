/- Layer 5: Append. -/
import Derived.Test.YtigffjbefbndnaaDoorRa
namespace Go.Proofs.YtigffjbefbndnaaDoor
open Go.RowKit
namespace Rs
theorem append_nil (w : World) (k : Int) (v : Value) {E : Nat → Addr} {F : Nat → Prop} (G : Gs w E F) : Calls Tryd.prog 51 #[.pointer none, .int .i64 k, v] w fun e w' => e = .returned (errV E 1) ∧ Below w.heap.size w w' := by
  have HS := hide (step_nil w G)
  clear G
  go_enter Tryd.func51, Tryd.ntmps51
  go_wp2_with (go_at_call 75; refine (unhide HS).mono ?_; rintro e w1 ⟨rfl, rfl⟩)
  go_ret
  exact ⟨rfl, Below.refl _ _⟩
/-- a list of texts that lies outside the store -/
def Parts (w : World) (v : Value) (L : List ByteArray) (F : Nat → Prop) : Prop :=
  ∃ ao cap, v = .slice ao L.length cap ∧ L.length ≤ 9223372036854775807 ∧ (0 < L.length → ∃ g off, ao = some ⟨g, off, none⟩ ∧ g < w.heap.size ∧ ¬ F g ∧ ∀ (j : Nat) x, L[j]? = some x → w.cell? ⟨g, off + j, none⟩ = some (.string x))
theorem Parts.strs {w : World} {v : Value} {L : List ByteArray} {F : Nat → Prop} (h : Parts w v L F) : Strs w v L := by
  obtain ⟨ao, cap, e, hl, h2⟩ := h
  refine ⟨ao, cap, e, hl, fun h0 => ?_⟩
  obtain ⟨g, off, e1, hg, _, hc⟩ := h2 h0
  exact ⟨g, off, e1, hg, hc⟩
theorem Parts.chg {w w' : World} {v : Value} {L : List ByteArray} {F : Nat → Prop} (h : Parts w v L F) (c : Chg F w w') : Parts w' v L F := by
  obtain ⟨ao, cap, e, hl, h2⟩ := h
  refine ⟨ao, cap, e, hl, fun h0 => ?_⟩
  obtain ⟨g, off, e1, hg, hn, hc⟩ := h2 h0
  exact ⟨g, off, e1, Nat.lt_of_lt_of_le hg c.size, hn, fun j x hx => (World.cell?_of_block (a := ⟨g, off + j, none⟩) (c.block g hg hn)).trans (hc j x hx)⟩
theorem wpList_app (w : World) {ops : Array Oper} {rest : List Oper} {o : Oper} {a : Act} {Q : Exit → Act → World → Prop} (hg : o.guard = none) (s x : Operand) (hop : o.op = .call { callee := .builtin .append, args := #[s, x], argTypes := #[66, 9] })
    (v v' : Value) (str : ByteArray) (W' : World) (hs : a.eval s = v) (hx : a.eval x = .string str) (hrun : (Builtin.append_ #[66, 9] o.type #[v, .string str]).run Tryd.prog w = .ok v' W') (hK : wpList Tryd.prog ops Q rest (a.put o.dst v') W') : wpList Tryd.prog ops Q (o :: rest) a w := by
  refine wpList_plain hg fun K' hK' => ?_
  unfold Oper.wp execOp
  simp only [hop, resolve, invoke, builtin, Sem.run_bind, Sem.run_pure, Result.andThen_ok, List.map_toArray, List.map_cons, List.map_nil, hs, hx, hrun]
  exact hK' _ _ hK
theorem lp_cells {wr : World} {b : Nat} {v : Value} (h : wr.heap[b]? = some (.cells #[v, .bool false] 79 (0, 0))) : wr.cell? ⟨b, 0, none⟩ = some v ∧ wr.cell? ⟨b, 1, none⟩ = some (.bool false) ∧ wr.frozen? ⟨b, 0, none⟩ = false := by
  refine ⟨?_, ?_, ?_⟩ <;> simp [World.cell?, World.frozen?, h]
set_option maxRecDepth 100000 in
set_option maxHeartbeats 1000000 in
theorem append_ok {w : World} {sb : Nat} {m : Sto} {F : Nat → Prop} {k : Int} {v : Value} {L : List ByteArray} {r : Run} (h : At w sb m F) (hk1 : -9223372036854775808 ≤ k) (hk2 : k ≤ 9223372036854775807) (hL : Parts w v L F)
    (ha : m.ahead ≠ 1) (hl : look m.runs k = some r) (hs : r.shut = false) (hf : tot m.runs + sz L ≤ m.cap) :
    Calls Tryd.prog 51 #[.pointer (some ⟨sb, 0, none⟩), .int .i64 k, v] w fun e w' => e = .returned .nilIface ∧ Res F w sb (m.tick.app r L) w' := by
  have HS := hide (step_no h ha)
  have HL := hide hl
  have HSH := hide hs
  have HLT := hide h.lt
  have HP := hide hL
  have HFT := hide hf
  have hcap : m.cap ≤ 67108864 := h.ok.cap
  have HSZ : Hid (sz L ≤ 67108864) := hide (by omega)
  obtain ⟨ao, cp, rfl, hn, -⟩ := hL
  obtain ⟨N, hN⟩ : ∃ N, N = L.length := ⟨_, rfl⟩
  have HN := hide hN
  rw [← hN] at hn
  have HP : Hid (Parts w (.slice ao N cp) L F) := by rw [hN]; exact HP
  rw [← hN]
  clear h ha hl hs hf hN hcap
  go_enter Tryd.func51, Tryd.ntmps51
  go_wp2_with fail
  refine (unhide HS).mono ?_
  rintro e w1 ⟨rfl, h1, h2, h3⟩
  obtain ⟨bm, sl, fl, hin⟩ : ∃ bm sl fl, In w1 sb m.tick F bm sl fl := by
    rcases h1.open with ⟨_, he⟩ | hx
    · have := (look_mem (unhide HL)).1
      rw [show m.runs = [] from he] at this
      cases this
    · exact hx
  have hfo := open_some hin hk1 hk2 (unhide HL) (unhide HSH)
  have HM := hide (look_mem (unhide HL))
  obtain ⟨a, c, ev⟩ := own_slice (hin.rows.own r (unhide HM).1)
  rw [ev] at hfo
  have HF := hide hfo
  have HEV := hide ev
  have HI := hide hin
  have H2 := hide h2
  clear h1 h2 h3 hin hfo ev
  go_wp2_with fail
  refine (unhide HF).mono ?_
  rintro e w2 ⟨rfl, hb⟩
  have HI2 := hide ((unhide HI).below hb)
  have H22 : Hid (Chg F w w2) := (unhide H2).trans (Chg.of_below hb)
  have hsb := (unhide HI2).lt _ (unhide HI2).own
  have HRM : Hid (∀ o, Calls Tryd.prog 79 #[.pointer (some ⟨sb, 0, none⟩), .slice ao N cp] (w2.alloc o) fun e w' => e = .returned (.bool true) ∧ Below (w2.alloc o).heap.size (w2.alloc o) w') := fun o => by
    have q := room_any ((unhide HI2).at.alloc o) ((unhide HP).chg ((unhide H22).alloc o)).strs
    rw [decide_eq_true (show tot m.tick.runs + sz L ≤ m.tick.cap from unhide HFT)] at q
    exact q
  clear hb
  have HLP : Hid (∀ o w3, o = Obj.cells #[.slice a r.txt.length c, .bool false] 79 → Below (w2.alloc o).heap.size (w2.alloc o) w3 → Lp w w3 F sb bm w2.heap.size m.tick sl fl r (.slice a r.txt.length c) (r.txt ++ bytes (L.take 0))) := by
    intro o w3 ho hb3
    have hi := (unhide HI2).alloc o
    have hrm := (unhide HM).1
    refine Lp.below ⟨hi.sto, hi.map, ⟨fun x hx => hi.rows.fl x (drop_mem hx).1, fun x hx => hi.rows.own x (drop_mem hx).1, fun x hx => hi.rows.inF x (drop_mem hx).1, fun x hx y hy => hi.rows.apart x (drop_mem hx).1 y (drop_mem hy).1⟩, ?_, ?_, fun g hg => ?_, fun g hg x hx => ?_, (unhide H22).alloc o, (unhide H22).size⟩ hb3
    · have := hi.rows.own r hrm
      rw [unhide HEV] at this
      simpa [bytes] using this
    · rw [ho]; exact (MapKept.heap_alloc w2 _).1
    · exact .inl (hi.rows.inF r hrm g (by rw [unhide HEV]; exact hg))
    · refine hi.rows.apart r hrm x (drop_mem hx).1 (fun e => (drop_mem hx).2 (by rw [e])) g (by rw [unhide HEV]; exact hg)
  go_wp2_with (go_at_call 79; refine (unhide HRM _).mono ?_; rintro e w3 ⟨rfl, hb3⟩; have hlp := unhide HLP _ w3 rfl hb3; have HLP3 := hide hlp; obtain ⟨j0, j1, jf⟩ := lp_cells hlp.cell; clear hb3 hlp)
  go_loopw [37] (fun i wr => ∃ (k : Nat) (ai : Option Addr) (ci : Nat), i = .int .i64 k ∧ k ≤ N ∧ Hid (Lp w wr F sb bm w2.heap.size m.tick sl fl r (.slice ai (r.txt.length + sz (L.take k)) ci) (r.txt ++ bytes (L.take k)))) (fun i _ => N - (intOf i).toNat)
  case atStart => exact ⟨0, a, c, rfl, Nat.zero_le _, HLP3⟩
  case round =>
    obtain ⟨j, ai, ci, rfl, hjn, HLPr⟩ := hrel
    by_cases hlt : j < N
    · obtain ⟨x, hx⟩ : ∃ x, L[j]? = some x := ⟨_, List.getElem?_eq_getElem (by rw [← unhide HN]; exact hlt)⟩
      obtain ⟨ao', cp', ea, -, hcc⟩ := (unhide HP).chg (unhide HLPr).chg
      obtain ⟨rfl, -⟩ : ao = ao' ∧ cp = cp' := by injection ea with e1 e2 e3; exact ⟨e1, e3⟩
      obtain ⟨g, off, rfl, hg, -, hc⟩ := hcc (by rw [← unhide HN]; omega)
      have hcx : wr.cell? ⟨g, off + j, none⟩ = some (.string x) := hc j x hx
      have hltz : (j : Int) < (N : Int) := by omega
      have HSX := hide (sz_take hx)
      have HBX := hide (bytes_take hx)
      obtain ⟨k0, k1, kf⟩ := lp_cells (unhide HLPr).cell
      have hlen : (r.txt ++ bytes (L.take j)).length = r.txt.length + sz (L.take j) := by rw [List.length_append, bytes_len]
      obtain ⟨a2, c2, W2, hrun, hcell2, hlp2⟩ := (unhide HLPr).step (unhide HLT) (unhide HI).own x 66 (by
        have q1 := unhide HSX
        have q2 := sz_le L (j + 1)
        have q3 := tot_mem (unhide HM).1
        have q4 := unhide HFT
        have q5 : m.cap ≤ 67108864 := (unhide HI).ok.cap
        rw [hlen]; omega)
      rw [hlen] at hrun hlp2
      obtain ⟨i0, i1, iF⟩ := lp_cells hcell2
      have HL2 : Hid (Lp w (W2.setCell ⟨w2.heap.size, 0, none⟩ (.slice a2 (r.txt.length + sz (L.take j) + x.size) c2)) F sb bm w2.heap.size m.tick sl fl r (.slice a2 (r.txt.length + sz (L.take (j + 1))) c2) (r.txt ++ bytes (L.take (j + 1)))) := by
        rw [unhide HSX, unhide HBX, ← List.append_assoc, ← Nat.add_assoc]
        exact hlp2
      have HRUN := hide hrun
      generalize sz (L.take j) = S at *
      clear hlp2 hcell2 hlen hcc hc hx ea hrun
      go_wp2_with (at_builtin; refine wpList_app _ rfl _ _ rfl _ _ _ _ rfl rfl (by exact unhide HRUN) ?_)
      go_roundw
      case rel => exact ⟨j + 1, a2, c2, by go_num, by omega, HL2⟩
      case measure => simp [intOf]; omega
    · have e : j = N := by omega
      have hltz : ¬ (j : Int) < (N : Int) := by omega
      have eT : L.take j = L := by rw [e, unhide HN, List.take_length]
      rw [eT] at HLPr
      have hM := unhide HM
      have ok : m.tick.Ok := (unhide HI).ok
      have hlp := unhide HLPr
      obtain ⟨V1, hrun, hmp, hgr⟩ := put_own (w := wr.drew) (F := F) (r := { r with txt := r.txt ++ bytes L }) (v := .slice ai (r.txt.length + sz L) ci) (l := m.runs) (unhide HI).bmF hlp.map ⟨hlp.rows.fl, hlp.rows.own, hlp.rows.inF, hlp.rows.apart⟩ ok.sorted hM.1 rfl (by have := (ok.nums r hM.1).2; have := ok.made; omega) (by have q : m.runs.length ≤ m.made := ok.len; have q2 : m.made ≤ 16777216 := ok.made; omega) (by have := hlp.own; rw [List.length_append, bytes_len] at this; rw [List.length_append, bytes_len]; exact this) hlp.apart
      simp only [unhide HSH, hM.2] at hrun
      have hne : sb ≠ bm := fun e => by
        obtain ⟨es, cl, hb, _⟩ := hlp.map
        rw [← e, hlp.sto] at hb
        cases hb
      have hne2 : w2.heap.size ≠ bm := fun e => by
        obtain ⟨es, cl, hb, _⟩ := hlp.map
        rw [← e, hlp.cell] at hb
        cases hb
      have hsto : V1.heap[sb]? = some (.cells (stoC m.tick (.map (some bm))) 52 (0, 0)) := (hgr.block sb (Array.getElem?_eq_some_iff.1 hlp.sto).1 (fun e => hne (by cases e; rfl))).trans hlp.sto
      have hcell : V1.heap[w2.heap.size]? = some (.cells #[.slice ai (r.txt.length + sz L) ci, .bool false] 79 (0, 0)) := (hgr.block _ (Array.getElem?_eq_some_iff.1 hlp.cell).1 (fun e => hne2 (by cases e; rfl))).trans hlp.cell
      obtain ⟨j0, j1, jf⟩ := lp_cells hlp.cell
      obtain ⟨i0, i1, iF⟩ := lp_cells hcell
      obtain ⟨-, k1, -⟩ := cells_sto hlp.sto
      obtain ⟨-, -, -, k3, k4, -, kf⟩ := cells_sto hsto
      have et := app_tot (m := m.tick) ok hM.1 L
      have etr : tot m.tick.runs = tot m.runs := rfl
      have hU : tot m.runs + sz L ≤ 67108864 := by have := unhide HFT; have : m.cap ≤ 67108864 := ok.cap; omega
      have hnU := tot_mem hM.1
      have HFIN : Hid (Res F w sb (m.tick.app r L) ((V1.setCell ⟨sb, 3, none⟩ (.int .i64 ((tot m.runs : Int) + sz L))).setCell ⟨sb, 4, none⟩ (.int .i64 ((max m.peak (tot m.runs + sz L) : Nat) : Int)))) := by
        have h3 := set_heap1 (k := 3) hsto (.int .i64 ((tot m.runs : Int) + sz L))
        refine res_of (app_ok ok hM.1 (unhide HFT)) ?_ (Mp.setSb (Mp.setSb hmp hsto 3 _) h3 4 _) (fun b hb => ?_) (unhide HLT) (unhide HI).own ((((hlp.chg.drew).grown hgr (fun k hk => by cases hk; exact .inl (unhide HI).bmF)).setCell (.inl (unhide HI).own) _).setCell (.inl (unhide HI).own) _)
        · rw [set_heap1 h3]
          have e3 : ((tot (m.tick.app r L).runs : Nat) : Int) = (tot m.runs : Int) + sz L := by rw [et]; omega
          simp only [stoC, e3]
          rfl
        · rcases hb with hb | hb
          · exact .inl hb
          · rcases hlp.inF b hb with x | x
            · exact .inl x
            · refine .inr ⟨x, ?_⟩
              have := (hlp.own.lt b hb).2
              have := hgr.size
              simp [World.setCell]
              exact Nat.lt_of_lt_of_le (hlp.own.lt b hb).2 hgr.size
      simp only [Sto.tick] at k3 k4
      have hp1 : m.peak ≤ 67108864 := by have : m.peak ≤ m.cap := ok.peakle; have : m.cap ≤ 67108864 := ok.cap; omega
      generalize tot m.runs = U at *
      generalize sz L = S at *
      generalize m.peak = P at *
      clear hsto hcell hmp hgr hlp e eT et etr ok hM hne hne2
      go_wp2
      go_region
      all_goals
        go_wp2
        clear hrun j0 j1 jf k1
        go_region
        go_wp2
        refine gen_world ?_
        intro V hV
        rw [show (U : Int) + ((r.txt.length : Int) + (S : Int) - (r.txt.length : Int)) = (U : Int) + S by omega] at hV
        have HFV : Hid (∀ X : Int, X = ((max P (U + S) : Nat) : Int) → Res F w sb (m.tick.app r L) (V.setCell ⟨sb, 4, none⟩ (.int .i64 X))) := by
          intro X hX
          rw [hV, hX]
          exact (unhide HFIN).below (Below.refl _ _).drew
        have v3 : V.cell? ⟨sb, 3, none⟩ = some (.int .i64 ((U : Int) + S)) := by rw [hV]; go_simp
        have v4 : V.cell? ⟨sb, 4, none⟩ = some (.int .i64 (P : Int)) := by rw [hV]; go_simp
        have vf : ∀ i, V.frozen? ⟨sb, i, none⟩ = false := fun i => by rw [hV]; simp [kf]
        clear hV k3 k4 kf i0 i1 iF
        go_region
        all_goals go_wp2
        all_goals
          go_ret
          refine ⟨rfl, (unhide HFV _ ?_).below (Below.refl _ _).drew⟩
          omega
set_option maxRecDepth 100000 in
set_option maxHeartbeats 1000000 in
theorem append_any {w : World} {sb : Nat} {m : Sto} {F : Nat → Prop} {E : Nat → Addr} {k : Int} {v : Value} {L : List ByteArray} (h : At w sb m F) (G : Gs w E F) (hk1 : -9223372036854775808 ≤ k) (hk2 : k ≤ 9223372036854775807) (hL : Parts w v L F) :
    Calls Tryd.prog 51 #[.pointer (some ⟨sb, 0, none⟩), .int .i64 k, v] w fun e w' => e = .returned (errV E (app m k L).1) ∧ Res F w sb (app m k L).2 w' := by
  by_cases ha : m.ahead = 1
  · have HS := hide (step_yes h G ha)
    have HR : Hid (app m k L = (9, m.tick)) := hide (by unfold app; rw [if_pos ha])
    clear h G ha hL
    rw [unhide HR]
    go_enter Tryd.func51, Tryd.ntmps51
    go_wp2_with (go_at_call 75; refine (unhide HS).mono ?_; rintro e w1 ⟨rfl, h1, h2, h3⟩; clear h3; have H1 := hide h1; have H2 := hide h2; clear h1 h2)
    go_ret
    exact ⟨rfl, (unhide H1).res (unhide H2)⟩
  have HS := hide (step_no h ha)
  have HG : Hid (∀ w1, Chg F w w1 → Gs w1 E F) := fun w1 c => (G.chg c).sub G.hi
  rcases hl : look m.runs k with _ | r
  · have HR : Hid (app m k L = (3, m.tick)) := hide (by unfold app; rw [if_neg ha, hl])
    have HL := hide hl
    clear h G ha hl hL
    rw [unhide HR]
    go_enter Tryd.func51, Tryd.ntmps51
    go_wp2_with fail
    refine (unhide HS).mono ?_
    rintro e w1 ⟨rfl, h1, h2, h3⟩
    have HF := hide (open_none h1 (unhide HG w1 h2) hk1 hk2 (unhide HL))
    have H1 := hide (h1.res h2)
    clear h1 h2 h3
    go_wp2_with fail
    refine (unhide HF).mono ?_
    rintro e w2 ⟨rfl, hb⟩
    have H2 := hide ((unhide H1).below hb)
    clear hb
    go_wp2
    go_ret
    exact ⟨rfl, (unhide H2).below ((Below.refl _ _).alloc (Nat.le_refl _) _)⟩
  by_cases hs : r.shut = true
  · have HR : Hid (app m k L = (4, m.tick)) := hide (by unfold app; rw [if_neg ha, hl]; simp only [hs, if_true])
    have HL := hide hl
    have HSH := hide hs
    clear h G ha hl hs hL
    rw [unhide HR]
    go_enter Tryd.func51, Tryd.ntmps51
    go_wp2_with fail
    refine (unhide HS).mono ?_
    rintro e w1 ⟨rfl, h1, h2, h3⟩
    obtain ⟨bm, sl, fl, hin⟩ : ∃ bm sl fl, In w1 sb m.tick F bm sl fl := by
      rcases h1.open with ⟨_, he⟩ | hx
      · have := (look_mem (unhide HL)).1
        rw [show m.runs = [] from he] at this
        cases this
      · exact hx
    have HF := hide (open_shut hin (unhide HG w1 h2) hk1 hk2 (unhide HL) (unhide HSH))
    have H1 := hide (h1.res h2)
    clear h1 h2 h3 hin
    go_wp2_with fail
    refine (unhide HF).mono ?_
    rintro e w2 ⟨rfl, hb⟩
    have H2 := hide ((unhide H1).below hb)
    clear hb
    go_wp2
    go_ret
    exact ⟨rfl, (unhide H2).below ((Below.refl _ _).alloc (Nat.le_refl _) _)⟩
  have hs : r.shut = false := by simpa using hs
  by_cases hf : tot m.runs + sz L ≤ m.cap
  · have HR : app m k L = (0, m.tick.app r L) := by unfold app; rw [if_neg ha, hl]; simp only [hs, hf, if_true]; rfl
    rw [HR]
    exact append_ok h hk1 hk2 hL ha hl hs hf
  · have HR : Hid (app m k L = (7, m.tick)) := hide (by unfold app; rw [if_neg ha, hl]; simp only [hs, hf, if_false]; rfl)
    have HL := hide hl
    have HSH := hide hs
    have HFT := hide hf
    have HP := hide hL
    obtain ⟨ao, cp, rfl, hn, -⟩ := hL
    clear h G ha hl hs hf hn
    rw [unhide HR]
    go_enter Tryd.func51, Tryd.ntmps51
    go_wp2_with fail
    refine (unhide HS).mono ?_
    rintro e w1 ⟨rfl, h1, h2, h3⟩
    obtain ⟨bm, sl, fl, hin⟩ : ∃ bm sl fl, In w1 sb m.tick F bm sl fl := by
      rcases h1.open with ⟨_, he⟩ | hx
      · have := (look_mem (unhide HL)).1
        rw [show m.runs = [] from he] at this
        cases this
      · exact hx
    have hfo := open_some hin hk1 hk2 (unhide HL) (unhide HSH)
    obtain ⟨a, c, ev⟩ := own_slice (hin.rows.own r (look_mem (unhide HL)).1)
    rw [ev] at hfo
    have HF := hide hfo
    have HI := hide hin
    have H2 := hide h2
    have H1 := hide (h1.res h2)
    clear h1 h2 h3 hin hfo ev
    go_wp2_with fail
    refine (unhide HF).mono ?_
    rintro e w2 ⟨rfl, hb⟩
    have H22 : Hid (Chg F w w2) := (unhide H2).trans (Chg.of_below hb)
    have HRM : Hid (∀ o, Calls Tryd.prog 79 #[.pointer (some ⟨sb, 0, none⟩), .slice ao L.length cp] (w2.alloc o) fun e w' => e = .returned (.bool false) ∧ Below (w2.alloc o).heap.size (w2.alloc o) w') := fun o => by
      have q := room_any (((unhide HI).below hb).at.alloc o) ((unhide HP).chg ((unhide H22).alloc o)).strs
      rw [decide_eq_false (show ¬ tot m.tick.runs + sz L ≤ m.tick.cap from unhide HFT)] at q
      exact q
    have HGG : Hid (∀ o w3, Below (w2.alloc o).heap.size (w2.alloc o) w3 → w3.cell? ⟨8, 0, none⟩ = some (er E 7)) := fun o w3 hb3 => (unhide HG w3 (((unhide H22).alloc o).trans (Chg.of_below hb3))).full
    have H3 := hide ((unhide H1).below hb)
    clear hb
    go_wp2_with (go_at_call 79; refine (unhide HRM _).mono ?_; rintro e w3 ⟨rfl, hb3⟩; have hg := unhide HGG _ w3 hb3; have HB3 := hide hb3; clear hb3)
    go_ret
    exact ⟨rfl, ((unhide H3).below ((Below.refl _ _).alloc (Nat.le_refl _) _)).below (unhide HB3)⟩
end Rs
end Go.Proofs.YtigffjbefbndnaaDoor
