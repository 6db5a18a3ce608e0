/- Layer 5: Seal. -/
import Derived.Test.YtigffjbefbndnaaDoorGa
namespace Go.Proofs.YtigffjbefbndnaaDoor
open Go.RowKit
namespace Rs
def sel (m : Sto) (k : Int) : Nat × Sto :=
  if m.ahead = 1 then (9, m.tick) else match look m.runs k with
    | none => (3, m.tick)
    | some r => if r.shut then (4, m.tick) else (0, { m.tick with runs := repl m.runs { r with shut := true } })
theorem repl_ok {m : Sto} (h : m.Ok) {r0 r : Run} (h0 : r0 ∈ m.runs) (hn : r.num = r0.num) (ht : r.txt.length = r0.txt.length) : ({ m with runs := repl m.runs r } : Sto).Ok := by
  have e := tot_repl h.sorted h0 hn
  have et : tot (repl m.runs r) = tot m.runs := by omega
  refine ⟨h.cap, h.made, by simp only [et]; exact h.used, by simp only [et]; exact h.peak, h.peakle, h.ahead, repl_sorted _ h.sorted, fun x hx => ?_⟩
  rcases repl_mem hx with ⟨rfl, _⟩ | ⟨hx, _⟩
  · rw [hn]; exact h.nums r0 h0
  · exact h.nums x hx
theorem seal_nil (w : World) (k : Int) {E : Nat → Addr} {F : Nat → Prop} (G : Gs w E F) : Calls Tryd.prog 54 #[.pointer none, .int .i64 k] w fun e w' => e = .returned (errV E 1) ∧ Below w.heap.size w w' := by
  have HS := hide (step_nil w G)
  clear G
  go_enter Tryd.func54, Tryd.ntmps54
  go_wp2_with (go_at_call 75; refine (unhide HS).mono ?_; rintro e w1 ⟨rfl, rfl⟩)
  go_ret
  exact ⟨rfl, Below.refl _ _⟩
set_option maxRecDepth 100000 in
set_option maxHeartbeats 1000000 in
theorem seal_any {w : World} {sb : Nat} {m : Sto} {F : Nat → Prop} {E : Nat → Addr} {k : Int} (h : At w sb m F) (G : Gs w E F) (hk1 : -9223372036854775808 ≤ k) (hk2 : k ≤ 9223372036854775807) :
    Calls Tryd.prog 54 #[.pointer (some ⟨sb, 0, none⟩), .int .i64 k] w fun e w' => e = .returned (errV E (sel m k).1) ∧ Res F w sb (sel m k).2 w' := by
  by_cases ha : m.ahead = 1
  · have HS := hide (step_yes h G ha)
    have HR : Hid (sel m k = (9, m.tick)) := hide (by unfold sel; rw [if_pos ha])
    clear h G ha
    rw [unhide HR]
    go_enter Tryd.func54, Tryd.ntmps54
    go_wp2_with (go_at_call 75; refine (unhide HS).mono ?_; rintro e w1 ⟨rfl, h1, h2, h3⟩; clear h3; have H1 := hide h1; have H2 := hide h2; clear h1 h2)
    go_ret
    exact ⟨rfl, (unhide H1).res (unhide H2)⟩
  have HS := hide (step_no h ha)
  have HG : Hid (∀ w1, Chg F w w1 → Gs w1 E F) := fun w1 c => (G.chg c).sub G.hi
  rcases hl : look m.runs k with _ | r
  · have HR : Hid (sel m k = (3, m.tick)) := hide (by unfold sel; rw [if_neg ha, hl])
    have HL := hide hl
    clear h G ha hl
    rw [unhide HR]
    go_enter Tryd.func54, Tryd.ntmps54
    go_wp2_with fail
    refine (unhide HS).mono ?_
    rintro e w1 ⟨rfl, h1, h2, h3⟩
    have HF := hide (open_none h1 (unhide HG w1 h2) hk1 hk2 (unhide HL))
    have H1 := hide (h1.res h2)
    clear h1 h2 h3
    go_wp2_with fail
    refine (unhide HF).mono ?_
    rintro e w2 ⟨rfl, hb⟩
    have H2 := hide ((unhide H1).below hb)
    clear hb
    go_wp2
    go_ret
    exact ⟨rfl, (unhide H2).below ((Below.refl _ _).alloc (Nat.le_refl _) _)⟩
  · by_cases hs : r.shut = true
    · have HR : Hid (sel m k = (4, m.tick)) := hide (by unfold sel; rw [if_neg ha, hl]; simp only [hs, if_true])
      have HL := hide hl
      have HSH := hide hs
      clear h G ha hl hs
      rw [unhide HR]
      go_enter Tryd.func54, Tryd.ntmps54
      go_wp2_with fail
      refine (unhide HS).mono ?_
      rintro e w1 ⟨rfl, h1, h2, h3⟩
      obtain ⟨bm, sl, fl, hin⟩ : ∃ bm sl fl, In w1 sb m.tick F bm sl fl := by
        rcases h1.open with ⟨_, he⟩ | hx
        · have := (look_mem (unhide HL)).1
          rw [show m.runs = [] from he] at this
          cases this
        · exact hx
      have HF := hide (open_shut hin (unhide HG w1 h2) hk1 hk2 (unhide HL) (unhide HSH))
      have H1 := hide (h1.res h2)
      clear h1 h2 h3 hin
      go_wp2_with fail
      refine (unhide HF).mono ?_
      rintro e w2 ⟨rfl, hb⟩
      have H2 := hide ((unhide H1).below hb)
      clear hb
      go_wp2
      go_ret
      exact ⟨rfl, (unhide H2).below ((Below.refl _ _).alloc (Nat.le_refl _) _)⟩
    · have hs : r.shut = false := by simpa using hs
      have HR : Hid (sel m k = (0, { m.tick with runs := repl m.runs { r with shut := true } })) := hide (by unfold sel; rw [if_neg ha, hl]; simp only [hs]; rfl)
      have HL := hide hl
      have HSH := hide hs
      have HLT := hide h.lt
      clear h G ha hl hs
      rw [unhide HR]
      go_enter Tryd.func54, Tryd.ntmps54
      go_wp2_with fail
      refine (unhide HS).mono ?_
      rintro e w1 ⟨rfl, h1, h2, h3⟩
      obtain ⟨bm, sl, fl, hin⟩ : ∃ bm sl fl, In w1 sb m.tick F bm sl fl := by
        rcases h1.open with ⟨_, he⟩ | hx
        · have := (look_mem (unhide HL)).1
          rw [show m.runs = [] from he] at this
          cases this
        · exact hx
      have hf := open_some hin hk1 hk2 (unhide HL) (unhide HSH)
      have HM := look_mem (unhide HL)
      obtain ⟨a, c, ev⟩ := own_slice (hin.rows.own r HM.1)
      rw [ev] at hf
      have HF := hide hf
      have HEV := hide ev
      have HI := hide hin
      have H2 := hide h2
      clear h1 h2 h3 hin hf ev HM
      go_wp2_with fail
      refine (unhide HF).mono ?_
      rintro e w2 ⟨rfl, hb⟩
      have HI2 := hide ((unhide HI).below hb)
      have H22 : Hid (Chg F w w2) := (unhide H2).trans (Chg.of_below hb)
      have c1 := (cells_sto (unhide HI2).sto).2.1
      have hsb := (unhide HI2).lt _ (unhide HI2).own
      clear hb
      go_wp2
      refine gen_world ?_
      intro V hV
      have hin : In V sb m.tick F bm sl fl := by rw [hV]; exact (unhide HI2).alloc _
      have HM := look_mem (unhide HL)
      have ok := hin.ok
      obtain ⟨V1, hrun, hmp, hgr⟩ := (hin.mp.kept (w' := V.drew) (fun _ _ => rfl) (fun _ x => x)).put (r := { r with shut := true }) (v := sl r.num) ok.sorted HM.1 rfl (by have := (ok.nums r HM.1).2; have := ok.made; omega) (by have := ok.len; have := ok.made; omega) (hin.rows.own r HM.1) (fun g hg => hin.rows.inF r HM.1 g hg) (fun g hg x hx hne => hin.rows.apart r HM.1 x hx (Ne.symm hne) g hg)
      rw [unhide HEV, HM.2] at hrun
      have k1 := (cells_sto hin.sto).2.1
      have j0 : V.cell? ⟨w2.heap.size, 0, none⟩ = some (.slice a r.txt.length c) := by rw [hV, World.cell?_alloc_at _ _ _ _ rfl]; rfl
      have j1 : V.cell? ⟨w2.heap.size, 1, none⟩ = some (.bool true) := by rw [hV, World.cell?_alloc_at _ _ _ _ rfl]; rfl
      have HFIN : Hid (Res F w sb { m.tick with runs := repl m.runs { r with shut := true } } V1) := by
        have hne : sb ≠ bm := fun e => by
          obtain ⟨es, cl, hb, _⟩ := hin.map
          rw [← e, hin.sto] at hb
          cases hb
        refine res_of (repl_ok (m := m.tick) ok HM.1 rfl rfl) ?_ hmp (fun b hb => .inl hb) (unhide HLT) hin.own ((((unhide H22).alloc _).drew).grown (by rw [← hV]; exact hgr) (fun k hk => by cases hk; exact .inl hin.bmF))
        rw [hgr.block sb (hin.lt _ hin.own) (fun e => hne (by cases e; rfl))]
        show V.heap[sb]? = _
        rw [hin.sto]
        have e := tot_repl ok.sorted HM.1 (r := { r with shut := true }) rfl
        have et : tot (repl m.runs { r with shut := true }) = tot m.runs := by
          have e' : tot (repl m.runs { r with shut := true }) + r.txt.length = tot m.runs + r.txt.length := e
          omega
        simp only [stoC, et]
        rfl
      clear hV hin hmp hgr ok HM c1
      go_region
      all_goals
        go_wp2
        go_ret
        exact ⟨rfl, unhide HFIN⟩
end Rs
end Go.Proofs.YtigffjbefbndnaaDoor
