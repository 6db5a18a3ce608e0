/- Layer 5: Create. -/
import Derived.Test.YtdcffkahijpcbabDoorRp
namespace Go.Proofs.YtdcffkahijpcbabDoor
open Go.RowKit
namespace Rs
def errV (E : Nat → Addr) (c : Nat) : Value := if c = 0 then .nilIface else er E c
theorem errV_zero (E : Nat → Addr) : errV E 0 = .nilIface := rfl
theorem errV_pos (E : Nat → Addr) {c : Nat} (h : c ≠ 0) : errV E c = er E c := if_neg h
def Res (F : Nat → Prop) (w : World) (sb : Nat) (m : Sto) (w' : World) : Prop := At w' sb m (Up F w w') ∧ Chg F w w'
theorem At.res {F : Nat → Prop} {w w' : World} {sb : Nat} {m : Sto} (h : At w' sb m F) (c : Chg F w w') : Res F w sb m w' :=
  ⟨h.kept (fun _ _ => rfl) (fun _ hb => .inl hb) (fun b hb => hb.elim (h.lt b) fun x => x.2), c⟩
theorem Res.below {F : Nat → Prop} {w w1 w2 : World} {sb : Nat} {m : Sto} (h : Res F w sb m w1) (hb : Below w1.heap.size w1 w2) : Res F w sb m w2 :=
  ⟨h.1.up2 hb, h.2.trans (Chg.of_below hb)⟩
theorem Res.trans {F : Nat → Prop} {w w1 w2 : World} {sb : Nat} {m m1 : Sto} (h : Res F w sb m1 w1) (k : Res (Up F w w1) w1 sb m w2) : Res F w sb m w2 :=
  ⟨k.1.join h.2.size k.2.size, h.2.trans k.2⟩
def Sto.grow (m : Sto) : Sto := { m with made := m.made + 1 }
def Sto.newRun (m : Sto) : Sto := { m with made := m.made + 1, runs := m.runs ++ [⟨m.made + 1, [], false⟩] }
theorem newRun_ok {m : Sto} (h : m.Ok) (hm : m.made < 16777216) : m.newRun.Ok := by
  have et : tot m.newRun.runs = tot m.runs := by simp [Sto.newRun, tot_app, tot]
  refine ⟨h.cap, by simp only [Sto.newRun]; omega, by rw [et]; exact h.used, by rw [et]; exact h.peak, h.peakle, h.ahead, ?_, fun r hr => ?_⟩
  · simp only [Sto.newRun]
    rw [List.pairwise_append]
    exact ⟨h.sorted, by simp, fun a ha b hb => by simp at hb; subst hb; have := h.nums a ha; simp only; omega⟩
  · simp only [Sto.newRun] at hr ⊢
    rcases List.mem_append.1 hr with hr | hr
    · have := h.nums r hr; omega
    · simp at hr; subst hr; simp
def crt (m : Sto) : (Int × Nat) × Sto :=
  if m.ahead = 1 then ((0, 9), m.tick) else if 16777216 ≤ m.made then ((0, 8), m.tick) else ((((m.made + 1 : Nat) : Int), 0), m.tick.newRun)
/-- cells and map together -/
theorem At.of_mp {w : World} {sb : Nat} {m : Sto} {F : Nat → Prop} {bm : Nat} {sl : Nat → Value} {fl : Nat → Bool} (ok : m.Ok) (lt : ∀ b, F b → b < w.heap.size) (ho : F sb) (hs : w.heap[sb]? = some (.cells (stoC m (.map (some bm))) 81 (0, 0))) (h : Mp w bm sl fl m.runs F) : At w sb m F :=
  ⟨ok, lt, ho, _, hs, .inr ⟨bm, sl, fl, rfl, h.bmF, h.map, h.rows⟩⟩
theorem stoC_new (m : Sto) (mv : Value) : stoC m.newRun mv = stoC m.grow mv := by simp [stoC, Sto.newRun, Sto.grow, tot_app, tot]
theorem Mp.sub {w : World} {bm : Nat} {sl : Nat → Value} {fl : Nat → Bool} {l : List Run} {F G : Nat → Prop} (h : Mp w bm sl fl l F) (hG : ∀ b, F b → G b) : Mp w bm sl fl l G := h.kept (fun _ _ => rfl) hG
theorem res_of {w V : World} {sb bm : Nat} {m : Sto} {sl : Nat → Value} {fl : Nat → Bool} {F G : Nat → Prop} (ok : m.Ok) (hs : V.heap[sb]? = some (.cells (stoC m (.map (some bm))) 81 (0, 0))) (h : Mp V bm sl fl m.runs G) (hG : ∀ b, G b → Up F w V b) (hF : ∀ b, F b → b < w.heap.size) (ho : F sb) (c : Chg F w V) : Res F w sb m V :=
  ⟨At.of_mp ok (fun b hb => hb.elim (fun x => Nat.lt_of_lt_of_le (hF b x) c.size) fun x => x.2) (.inl ho) hs (h.sub hG), c⟩
/-- the last step of Create: the new run is laid into the map -/
theorem new_facts {V : World} {sb bm : Nat} {m : Sto} {sl : Nat → Value} {fl : Nat → Bool} {G : Nat → Prop} (ok : m.Ok) (hm : m.made < 16777216) (hs : V.heap[sb]? = some (.cells (stoC m.grow (.map (some bm))) 81 (0, 0))) (h : Mp V bm sl fl m.runs G) :
    ∃ V1, (Instr.mapUpdate 79 (.map (some bm)) (.int .i64 ((m.made + 1 : Nat) : Int)) zc).run Tryd.prog V.drew = .ok () V1 ∧ (∃ sl fl, Mp V1 bm sl fl m.newRun.runs G) ∧ V1.heap[sb]? = some (.cells (stoC m.newRun (.map (some bm))) 81 (0, 0)) ∧ V.drew.grownBy V1 (some bm) := by
  have hne : sb ≠ bm := fun e => by
    obtain ⟨es, cl, hb, _⟩ := h.map
    rw [← e, hs] at hb
    cases hb
  have hd : Mp V.drew bm sl fl m.runs G := h.kept (fun _ _ => rfl) (fun _ x => x)
  have hl := ok.len
  obtain ⟨V1, h1, h2, h3⟩ := hd.new (n := m.made + 1) (fun r hr => by have := ok.nums r hr; omega) (by omega) (by omega)
  refine ⟨V1, h1, ⟨_, _, h2⟩, ?_, h3⟩
  rw [stoC_new, h3.block sb (Array.getElem?_eq_some_iff.1 hs).1 (fun e => hne (by cases e; rfl))]
  exact hs
theorem eq_map (w : World) (b : Nat) : (binOp .eql 79 (.map (some b)) (.map none)).run Tryd.prog w = .ok (.bool false) w := by
  have h : ∀ d : Nat, (Op.equalIn (d + 1) 79 (.map (some b)) (.map none)).run Tryd.prog w = .ok false w := fun d => by simp [Op.equalIn, run_underlying Tryd.underlying79]
  simp only [binOp]
  simp [Op.equal, Op.maxDepth, h 9999]
theorem eq_nomap (w : World) : (binOp .eql 79 (.map none) (.map none)).run Tryd.prog w = .ok (.bool true) w := by
  have h : ∀ d : Nat, (Op.equalIn (d + 1) 79 (.map none) (.map none)).run Tryd.prog w = .ok true w := fun d => by simp [Op.equalIn, run_underlying Tryd.underlying79]
  simp only [binOp]
  simp [Op.equal, Op.maxDepth, h 9999]
theorem create_nil (w : World) {E : Nat → Addr} {F : Nat → Prop} (G : Gs w E F) : Calls Tryd.prog 39 #[.pointer none] w fun e w' => e = .returned (.tuple #[.int .i64 0, errV E 1]) ∧ Below w.heap.size w w' := by
  have HS := hide (step_nil w G)
  clear G
  go_enter Tryd.func39, Tryd.ntmps39
  go_wp2_with (go_at_call 60; refine (unhide HS).mono ?_; rintro e w1 ⟨rfl, rfl⟩)
  go_ret2
  exact ⟨rfl, Below.refl _ _⟩
set_option maxRecDepth 100000 in
set_option maxHeartbeats 1000000 in
theorem create_any {w : World} {sb : Nat} {m : Sto} {F : Nat → Prop} {E : Nat → Addr} (h : At w sb m F) (G : Gs w E F) :
    Calls Tryd.prog 39 #[.pointer (some ⟨sb, 0, none⟩)] w fun e w' => e = .returned (.tuple #[.int .i64 (crt m).1.1, errV E (crt m).1.2]) ∧ Res F w sb (crt m).2 w' := by
  by_cases ha : m.ahead = 1
  · have HS := hide (step_yes h G ha)
    have HR : Hid (crt m = ((0, 9), m.tick)) := hide (by unfold crt; rw [if_pos ha])
    clear h G ha
    rw [unhide HR]
    go_enter Tryd.func39, Tryd.ntmps39
    go_wp2_with (go_at_call 60; refine (unhide HS).mono ?_; rintro e w1 ⟨rfl, h1, h2, h3⟩; clear h3; have H1 := hide h1; have H2 := hide h2; clear h1 h2)
    go_ret2
    exact ⟨rfl, (unhide H1).res (unhide H2)⟩
  by_cases hm : 16777216 ≤ m.made
  · have HS := hide (step_no h ha)
    have HR : Hid (crt m = ((0, 8), m.tick)) := hide (by unfold crt; rw [if_neg ha, if_pos hm])
    have HG : Hid (∀ w1, Chg F w w1 → w1.cell? ⟨10, 0, none⟩ = some (er E 8)) := fun w1 c => (G.chg c).spent
    have hmi : (16777216 : Int) ≤ (m.made : Int) := by omega
    clear h G ha hm
    rw [unhide HR]
    go_enter Tryd.func39, Tryd.ntmps39
    go_wp2_with (go_at_call 60; refine (unhide HS).mono ?_; rintro e w1 ⟨rfl, h1, h2, h3⟩; clear h3; have hg := unhide HG w1 h2; obtain ⟨mv, hs, hmm⟩ := h1.map; obtain ⟨_, _, c2, _⟩ := cells_sto hs; clear hmm hs; simp only [Sto.tick] at c2; have H1 := hide h1; have H2 := hide h2; clear h1 h2)
    go_region
    all_goals
      go_wp2
      go_ret2
      exact ⟨rfl, ((unhide H1).res (unhide H2)).below (Below.refl _ _).drew⟩
  · have HS := hide (step_no h ha)
    have HR : Hid (crt m = ((((m.made + 1 : Nat) : Int), 0), m.tick.newRun)) := hide (by unfold crt; rw [if_neg ha, if_neg hm])
    obtain ⟨M, hM⟩ : ∃ M : Int, M = (m.made : Int) := ⟨_, rfl⟩
    have hmi : M < 16777216 := by omega
    have hm0 : 0 ≤ M := by omega
    have HM := hide hm
    have HMM := hide hM
    have HLT := hide h.lt
    clear h G ha hm hM
    rw [unhide HR]
    go_enter Tryd.func39, Tryd.ntmps39
    go_wp2_with fail
    refine (unhide HS).mono ?_
    rintro e w1 ⟨rfl, h1, h2, h3⟩
    have H1 := hide h1
    have H2 := hide h2
    have hsb := h1.lt _ h1.own
    rcases h1.open with ⟨hs, he⟩ | ⟨bm, sl, fl, hin⟩
    · obtain ⟨_, c1, c2, _, _, _, fz⟩ := cells_sto hs
      simp only [Sto.tick] at c2
      rw [← unhide HMM] at c2
      have hmm := @run_makeMap Tryd.prog
      have heq := eq_nomap
      have HH := hide hs
      have HE := hide he
      clear hs he h1 h2 h3
      go_wp2
      refine gen_world ?_
      intro V hV
      have hsV : V.heap[sb]? = some (.cells (stoC m.tick.grow (.map (some w1.heap.size))) 81 (0, 0)) := by
        rw [hV, Below.heap_alloc _ _ _ (by simpa [World.setCell] using hsb), set_heap1 (set_heap1 (unhide HH) _) _]
        have e : ((m.tick.grow.made : Nat) : Int) = M + 1 := by have := unhide HMM; simp only [Sto.tick, Sto.grow]; omega
        simp only [stoC, e]
        rfl
      have hsz : ((w1.setCell ⟨sb, 1, none⟩ (.map (some w1.heap.size))).setCell ⟨sb, 2, none⟩ (.int .i64 (M + 1))).heap.size = w1.heap.size := by simp [World.setCell]
      have hmpV : Mp V w1.heap.size (fun _ => .nilIface) (fun _ => false) m.tick.runs (fun b => F b ∨ b = w1.heap.size) := by
        rw [unhide HE, hV]
        have := Mp.made (sl := fun _ => .nilIface) (fl := fun _ => false) (F := fun b => F b ∨ b = w1.heap.size) ((w1.setCell ⟨sb, 1, none⟩ (.map (some w1.heap.size))).setCell ⟨sb, 2, none⟩ (.int .i64 (M + 1))) (.inr hsz)
        rw [hsz] at this
        exact this
      have hVs : w1.heap.size < V.drew.heap.size := by show _ < V.heap.size; rw [hV]; simp [World.setCell]
      have HCV : Chg F w V := by rw [hV]; exact (((unhide H2).setCell (.inl (unhide H1).own) _).setCell (.inl (unhide H1).own) _).alloc _
      have HG3 : F w1.heap.size ∨ w.heap.size ≤ w1.heap.size := .inr (unhide H2).size
      clear hsz
      obtain ⟨V1, hrun, HMP, hs1, hgr⟩ := new_facts (m := m.tick) (unhide H1).ok (by have := unhide HM; simp only [Sto.tick]; omega) hsV hmpV
      obtain ⟨-, k1, k2, -, -, -, kf⟩ := cells_sto hsV
      obtain ⟨-, -, j2, -⟩ := cells_sto hs1
      have e1 : ((m.tick.made + 1 : Nat) : Int) = M + 1 := by have := unhide HMM; simp only [Sto.tick]; omega
      have e2 : ((m.tick.grow.made : Nat) : Int) = M + 1 := e1
      have e3 : ((m.tick.newRun.made : Nat) : Int) = M + 1 := e1
      rw [e1] at hrun
      rw [e2] at k2
      rw [e3] at j2
      have HFIN : Hid (Res F w sb m.tick.newRun V1) := by
        obtain ⟨sl1, fl1, hmp1⟩ := HMP
        exact res_of (newRun_ok (unhide H1).ok (by have := unhide HM; simp only [Sto.tick]; omega)) hs1 hmp1 (fun b hb => by
          rcases hb with x | x
          · exact .inl x
          · exact .inr ⟨by rw [x]; exact (unhide H2).size, by rw [x]; exact Nat.lt_of_lt_of_le hVs hgr.size⟩) (unhide HLT) (unhide H1).own ((HCV.drew).grown hgr (fun k hk => by cases hk; exact HG3))
      have HE1 : Hid (((m.made + 1 : Nat) : Int) = M + 1) := hide e1
      clear hV e1 e2 e3 hs1 hgr HMP hsV hmpV HCV HG3 hVs
      go_region
      all_goals
        go_wp2
        go_ret2
        refine ⟨?_, unhide HFIN⟩
        rw [unhide HE1]
        rfl
    · obtain ⟨_, c1, c2, _, _, _, fz⟩ := cells_sto hin.sto
      simp only [Sto.tick] at c2
      rw [← unhide HMM] at c2
      have HI := hide hin
      have heq := eq_map
      clear hin h1 h2 h3
      go_wp2
      refine gen_world ?_
      intro V hV
      have hbn : bm ≠ sb := fun e => by
        obtain ⟨es, cl, hb, _⟩ := (unhide HI).map
        rw [e, (unhide HI).sto] at hb
        cases hb
      have hsV : V.heap[sb]? = some (.cells (stoC m.tick.grow (.map (some bm))) 81 (0, 0)) := by
        rw [hV, set_heap1 (unhide HI).sto _]
        have e : ((m.tick.grow.made : Nat) : Int) = M + 1 := by have := unhide HMM; simp only [Sto.tick, Sto.grow]; omega
        simp only [stoC, e]
        rfl
      have hmpV : Mp V bm sl fl m.tick.runs F := by
        rw [hV]
        refine ⟨(unhide HI).bmF, map_kept (unhide HI).map (Below.heap_setCell _ _ _ _ hbn), ⟨(unhide HI).rows.fl, fun r hr => own_kept ((unhide HI).rows.own r hr) fun g hg => Below.heap_setCell _ _ _ _ fun e => ?_, (unhide HI).rows.inF, (unhide HI).rows.apart⟩⟩
        obtain ⟨c, fz, hk⟩ := Lib.ownsRow_kind ((unhide HI).rows.own r hr) g hg
        rw [show g = sb from e, (unhide HI).sto] at hk
        injection hk with hk
        injection hk with _ hk _
        exact absurd hk (by decide)
      have hVs : True := trivial
      have HCV : Chg F w V := by rw [hV]; exact (unhide H2).setCell (.inl (unhide H1).own) _
      have HG3 : F bm ∨ w.heap.size ≤ bm := .inl (unhide HI).bmF
      obtain ⟨V1, hrun, HMP, hs1, hgr⟩ := new_facts (m := m.tick) (unhide H1).ok (by have := unhide HM; simp only [Sto.tick]; omega) hsV hmpV
      obtain ⟨-, k1, k2, -, -, -, kf⟩ := cells_sto hsV
      obtain ⟨-, -, j2, -⟩ := cells_sto hs1
      have e1 : ((m.tick.made + 1 : Nat) : Int) = M + 1 := by have := unhide HMM; simp only [Sto.tick]; omega
      have e2 : ((m.tick.grow.made : Nat) : Int) = M + 1 := e1
      have e3 : ((m.tick.newRun.made : Nat) : Int) = M + 1 := e1
      rw [e1] at hrun
      rw [e2] at k2
      rw [e3] at j2
      have HFIN : Hid (Res F w sb m.tick.newRun V1) := by
        obtain ⟨sl1, fl1, hmp1⟩ := HMP
        exact res_of (newRun_ok (unhide H1).ok (by have := unhide HM; simp only [Sto.tick]; omega)) hs1 hmp1 (fun b hb => by
          exact .inl hb) (unhide HLT) (unhide H1).own ((HCV.drew).grown hgr (fun k hk => by cases hk; exact HG3))
      have HE1 : Hid (((m.made + 1 : Nat) : Int) = M + 1) := hide e1
      clear hV e1 e2 e3 hs1 hgr HMP hsV hmpV HCV HG3 hVs
      go_region
      all_goals
        go_wp2
        go_ret2
        refine ⟨?_, unhide HFIN⟩
        rw [unhide HE1]
        rfl
end Rs
end Go.Proofs.YtdcffkahijpcbabDoor
