/- Layer 5: the document's Create. -/
import Derived.Test.YtdcffkahijpcbabDoorDh
import Derived.Deep.RegionLaw
import Derived.BigRegion
namespace Go.Proofs.YtdcffkahijpcbabDoor
open Go.RowKit
namespace Rs
theorem DIn.up {w w1 : World} {sb : Nat} {m : Sto} {F : Nat → Prop} {rv : Value} {sl : Nat → Value} (h : DIn w1 sb m F rv sl) : DIn w1 sb m (Up F w w1) rv sl := h.kept (fun _ _ => rfl) (fun _ x => .inl x) (fun b x => x.elim (h.lt b) fun y => y.2)
set_option maxRecDepth 100000 in
set_option maxHeartbeats 1000000 in
theorem create_doc {w : World} {sb : Nat} {m : Sto} {F : Nat → Prop} {rv : Value} {sl : Nat → Value} (h : DIn w sb m F rv sl) :
    Calls Tryd.prog 50 #[.pointer (some ⟨sb, 0, none⟩)] w fun e w' => e = .returned (.tuple #[.int .i64 (crt m).1.1, .int .i64 (crt m).1.2]) ∧ (∃ rv' sl', DIn w' sb (crt m).2 (Up F w w') rv' sl') ∧ Chg F w w' := by
  have HR := hide (refused_any h)
  have hsz : sb < w.heap.size := h.lt sb h.own
  by_cases ha : m.ahead = 1
  · have e : crt m = ((0, 9), m.tick) := by unfold crt; rw [if_pos ha]
    rw [e]
    rw [show decide (m.ahead = 1) = true by simp [ha]] at HR
    clear h e
    go_enter Tryd.func50, Tryd.ntmps50
    go_wp2_with (go_at_call 65; refine (unhide HR).mono ?_; rintro e w1 ⟨rfl, hd1⟩; have HD := hide hd1; clear hd1)
    go_ret2
    exact ⟨rfl, ⟨_, _, (unhide HD).1.up⟩, (unhide HD).2.1⟩
  rw [show decide (m.ahead = 1) = false by simp [ha]] at HR
  obtain ⟨md, hmd⟩ : ∃ md : Int, md = (m.made : Int) := ⟨_, rfl⟩
  have HMD := hide hmd
  by_cases hm : 16777216 ≤ m.made
  · have e : crt m = ((0, 8), m.tick) := by unfold crt; rw [if_neg ha, if_pos hm]
    rw [e]
    have hge : 16777216 ≤ md := by omega
    clear h e hm hmd
    go_enter Tryd.func50, Tryd.ntmps50
    go_wp2_with (go_at_call 65; refine (unhide HR).mono ?_; rintro e w1 ⟨rfl, hd1⟩; have HD := hide hd1; have c2 := (dcells hd1.1.sto).2.2.1; rw [show ((m.tick.made : Nat) : Int) = md from (unhide HMD).symm] at c2; clear hd1)
    go_ret2
    exact ⟨rfl, ⟨_, _, (unhide HD).1.up⟩, (unhide HD).2.1⟩
  · have e : crt m = ((((m.made + 1 : Nat) : Int), 0), m.tick.newRun) := by unfold crt; rw [if_neg ha, if_neg hm]
    rw [e]
    have hge : ¬ 16777216 ≤ md := by omega
    have hm0 : 0 ≤ md := by omega
    have e2 : ((m.made + 1 : Nat) : Int) = md + 1 := by omega
    simp only [e2]
    have hbl : m.runs.length ≤ 16777216 := by have := h.ok.len; have := h.ok.made; omega
    obtain ⟨ao, cc, rfl, -⟩ := h.at
    have HM := hide hm
    clear h e hm hmd e2
    go_enter Tryd.func50, Tryd.ntmps50
    go_wp2_with (go_at_call 65; refine (unhide HR).mono ?_; rintro e w1 ⟨rfl, hd1⟩; have HD := hide hd1; obtain ⟨d0, d1, d2, d3, d4, df⟩ := dcells hd1.1.sto; rw [show ((m.tick.made : Nat) : Int) = md from (unhide HMD).symm] at d2; have hs1 : sb < w1.heap.size := hd1.1.lt sb hd1.1.own; clear hd1)
    refine gen_world ?_
    intro V hV
    have k2 : V.cell? ⟨sb, 2, none⟩ = some (.int .i64 (md + 1)) := by rw [hV]; go_simp
    have k4 : V.cell? ⟨sb, 4, none⟩ = some (.slice ao m.runs.length cc) := by rw [hV]; go_simp
    have hVs : V.heap[sb]? = some (.cells #[.int .i64 m.cap, .int .i64 m.peak, .int .i64 (md + 1), .int .i64 m.tick.ahead, .slice ao m.runs.length cc] 84 (0, 0)) := by
      rw [hV, set_heap1 (unhide HD).1.sto]
      simp [stoD, Sto.tick]
    have hVc : Chg (fun b => b = sb) w1 V := by rw [hV]; exact (Chg.refl (fun b => b = sb) w1).setCell (p := ⟨sb, 2, none⟩) (.inl rfl) _
    have hVz : V.heap.size = w1.heap.size := by rw [hV]; simp
    have hVo : V.drew.ownsRow 0 131 3 (.slice ao m.runs.length cc) m.runs.length (rowD sl m.runs) := own_kept (unhide HD).1.row fun g hg => hVc.block g ((unhide HD).1.row.lt g hg).2 (kind_ne (unhide HD).1.sto (by decide) (unhide HD).1.row g hg)
    obtain ⟨v', V3, hap, hown, hgrow, hat⟩ := run_append_run hVo (Nat.zero_le _) hbl (md + 1) 82
    obtain ⟨a3, k3, rfl⟩ := own_slice hown
    have hne : (Value.slice ao m.runs.length cc).ownBlock ≠ some sb := fun e => kind_ne (unhide HD).1.sto (by decide) (unhide HD).1.row sb e rfl
    have hb3 : V3.heap[sb]? = V.heap[sb]? := by
      rw [hgrow.block sb (by simp [hVz]; omega) (fun e => hne e.symm), Below.heap_alloc _ _ _ (by show sb < V.heap.size; omega)]
      rfl
    have j2 : V3.cell? ⟨sb, 2, none⟩ = some (.int .i64 (md + 1)) := (World.cell?_of_block (a := ⟨sb, 2, none⟩) hb3).trans k2
    have j4 : V3.cell? ⟨sb, 4, none⟩ = some (.slice ao m.runs.length cc) := (World.cell?_of_block (a := ⟨sb, 4, none⟩) hb3).trans k4
    have jf : V3.frozen? ⟨sb, 4, none⟩ = false := by
      rw [World.frozen?_of_block (a := ⟨sb, 4, none⟩) hb3]
      simp [World.frozen?, hVs]
    have HFI : Hid ((∃ rv' sl', DIn (V3.setCell ⟨sb, 4, none⟩ (.slice a3 (m.runs.length + 1) k3)) sb m.tick.newRun (Up F w (V3.setCell ⟨sb, 4, none⟩ (.slice a3 (m.runs.length + 1) k3))) rv' sl') ∧ Chg F w (V3.setCell ⟨sb, 4, none⟩ (.slice a3 (m.runs.length + 1) k3))) := by
      have e := unhide HMD
      subst e
      obtain ⟨p1, p2⟩ := DIn.pushRow (m := m.tick) (W := V.drew) (unhide HD).1 (by have := unhide HM; show m.made < 16777216; omega) hVs ⟨hVc.os, hVc.tape, hVc.output, hVc.size, hVc.block⟩ hVz hgrow hown hat
      have hz := (unhide HD).2.2
      refine ⟨⟨_, _, p1.kept (fun _ _ => rfl) (fun b x => ?_) (fun b x => ?_)⟩, (unhide HD).2.1.trans (p2.mono fun b x => .inl x)⟩
      · rcases x with x | x
        · exact .inl x
        · exact .inr ⟨by omega, x.2⟩
      · rcases x with x | x
        · exact p1.lt b (.inl x)
        · exact x.2
    have HAP := hide hap
    have hsV : sb < V.heap.size := by omega
    have l4 : ∀ o, (V.alloc o).cell? ⟨sb, 4, none⟩ = some (.slice ao m.runs.length cc) := fun o => cell?_alloc_old o k4
    clear hap hown hgrow hat hne hb3 hVs hVc hVz hVo hV d0 d1 d2 d3 d4 df
    go_region_law (refine step_app (by rfl) _ _ _ (by rfl) _ _ _ _ (by rfl) (by rfl) (by exact unhide HAP) ?_)
    all_goals
      go_wp2
      go_ret2
      exact ⟨rfl, unhide HFI⟩
end Rs
end Go.Proofs.YtdcffkahijpcbabDoor
