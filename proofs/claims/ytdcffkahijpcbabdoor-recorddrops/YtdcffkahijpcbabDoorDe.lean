/- Layer 5: the document's Live. -/
import Derived.Test.YtdcffkahijpcbabDoorDd
namespace Go.Proofs.YtdcffkahijpcbabDoor
open Go.RowKit
namespace Rs
theorem nums_take {l : List Run} {i : Nat} {r : Run} (h : l[i]? = some r) : nums (l.take (i + 1)) = nums (l.take i) ++ [(r.num : Int)] := by
  have hi := (List.getElem?_eq_some_iff.1 h).1
  rw [List.take_succ_eq_append_getElem hi, (List.getElem?_eq_some_iff.1 h).2]
  simp [nums]
set_option maxRecDepth 100000 in
set_option maxHeartbeats 1000000 in
theorem live_doc {w : World} {sb : Nat} {m : Sto} {F : Nat → Prop} {rv : Value} {sl : Nat → Value} (h : DIn w sb m F rv sl) :
    Calls Tryd.prog 36 #[.pointer (some ⟨sb, 0, none⟩)] w fun e w' => ∃ v, e = .returned v ∧ w'.ownsRow w.heap.size 3 1 v (nums m.runs).length ((nums m.runs).map (Value.int .i64)) ∧ Below w.heap.size w w' := by
  obtain ⟨c0, c1, c2, c3, c4, fz⟩ := dcells h.sto
  have hsb := h.lt _ h.own
  obtain ⟨ao, cc, rfl, hat⟩ := h.at
  have HCL := hide hat
  have hbl : m.runs.length ≤ 16777216 := by have := h.ok.len; have := h.ok.made; omega
  obtain ⟨i0, hi, hz0⟩ := Option.map_eq_some_iff.1 row3
  simp only [Prod.mk.injEq] at hz0
  obtain ⟨hz0, hz1, hz2⟩ := hz0
  clear h hat
  generalize m.runs = l at *
  go_enter Tryd.func36, Tryd.ntmps36
  go_wp2
  go_loopw [3, 4] (fun s3 s4 wr => ∃ (i : Nat) (a3 : Option Addr) (k3 : Nat), i ≤ l.length ∧ s4 = .int .i64 i ∧ s3 = .slice a3 i k3 ∧ Hid (wr.ownsRow w.heap.size 3 1 (.slice a3 i k3) i ((nums (l.take i)).map (Value.int .i64))) ∧ Hid (Below w.heap.size w wr)) (fun _ s4 _ => l.length - (intOf s4).toNat)
  case atStart => exact ⟨0, none, 0, Nat.zero_le _, rfl, rfl, hide (World.ownsRow_nil _ _ _ _), hide (Below.refl _ _)⟩
  case round =>
    obtain ⟨i, a3, k3, hil, rfl, rfl, HOW, HB⟩ := hrel
    have l4 : wr.cell? ⟨sb, 4, none⟩ = some (.slice ao l.length cc) := ((unhide HB).cell (p := ⟨sb, 4, none⟩) hsb).trans c4
    clear c0 c1 c2 c3 c4 fz
    by_cases hlt : i < l.length
    · have hltz : (i : Int) < (l.length : Int) := by omega
      have hi0 : 0 ≤ (i : Int) := by omega
      obtain ⟨r, hr⟩ : ∃ r, l[i]? = some r := ⟨_, List.getElem?_eq_getElem hlt⟩
      obtain ⟨g, rfl, hg, hF, hcl⟩ := unhide HCL (by omega)
      have q0 := ((unhide HB).cell (p := ⟨g, i * 3, none⟩) hg).trans (hcl i r hr).1
      have HT := hide (nums_take hr)
      have hsz := (unhide HB).size
      obtain ⟨x, hx⟩ : ∃ x : Int, x = (r.num : Int) := ⟨_, rfl⟩
      rw [← hx] at q0
      have HX := hide hx
      clear hcl HCL hr hx
      go_wp2_with (at_builtin; refine wpList_append_own _ rfl _ _ 38 rfl w.heap.size 3 i0 (.int .i64 0) 1 8 Tryd.underlying38 hi hz0 hz1 hz2 rfl (by decide) _ _ _ rfl ((unhide HOW).alloc _) ⟨wr.heap.size, 0, none⟩ 1 1 [.int .i64 x] rfl rfl (cell_one_new _ _ _) (by simp [Value.oneCell']) (by unfold maxLen; omega) (by omega) (by simp; omega) ?_; intro v3 w3 hown3 hgrow3 hnil3; obtain ⟨a4, k4, rfl⟩ := own_slice hown3; have HO3 := hide hown3; have HB3 := hide (((unhide HB).alloc hsz _).grown hgrow3 (by simp; omega) (fun k hk => ((unhide HOW).lt k hk).1)); clear hown3 hgrow3 hnil3)
      refine ⟨⟨i + 1, a4, k4, by omega, by go_num, rfl, ?_, HB3⟩, by simp [intOf]; omega⟩
      rw [unhide HT, List.map_append, ← unhide HX]
      exact HO3
    · have hltz : ¬ (i : Int) < (l.length : Int) := by omega
      obtain rfl : i = l.length := by omega
      rw [List.take_length] at HOW
      go_wp2
      go_ret
      exact ⟨_, rfl, by simpa [nums] using unhide HOW, unhide HB⟩
end Rs
end Go.Proofs.YtdcffkahijpcbabDoor
