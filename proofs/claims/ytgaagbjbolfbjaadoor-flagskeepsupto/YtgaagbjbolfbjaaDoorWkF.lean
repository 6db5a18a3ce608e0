/- Contract: layer 3's waking call answers true; nothing that was turns. -/
import Derived.Test.YtgaagbjbolfbjaaDoorRdF
import Derived.Test.YtgaagbjbolfbjaaDoorShSp
namespace Go.Proofs.YtgaagbjbolfbjaaDoor
open Go.Sort Go.RowKit
namespace So

def MaxIs (w : World) : Prop := ∃ m : Int, w.cell? ⟨0, 0, none⟩ = some (.int .i64 m)
theorem split_cells {W : World} {c : Nat} {L : List ByteArray} (h : L.length = c) : ArgS.StrsAt (W.alloc (.cells (L.map Value.string).toArray 9)) (.slice (some ⟨W.heap.size, 0, none⟩) c c) L := by
  subst h
  refine ⟨_, _, rfl, Nat.le_refl _, fun _ => ⟨W.heap.size, 0, rfl, by simp, fun j x hx => ?_⟩⟩
  rw [World.cell?_alloc_at _ _ _ _ rfl]
  simp [hx]
/-- the pieces of a list of numbers -/
theorem cut3_any (s : ByteArray) (w : World) (hM : MaxIs w) (hs : s.size < 4294967281) :
    Calls Tryd.prog 25 #[.int .i64 3, .string s] w fun e w' => ∃ u, e = .returned u ∧ ArgS.StrsAt w' u (Lib.splitB ⟨#[44]⟩ 0 (Lib.countB s ⟨#[44]⟩) s) ∧ Go.RowKit.Below w.heap.size w w' := by
  obtain ⟨m, hm⟩ := hM
  have HS := hide (Tryd.strings_Split s ⟨#[44]⟩ m w hs hm (by decide))
  have HL := hide (Lib.splitB_all ⟨#[44]⟩ (by decide) 0 _ s rfl)
  clear hm hs
  go_enter Tryd.func25, Tryd.ntmps25
  go_wp2_with (go_at_call 39; refine (unhide HS).mono ?_; rintro e w1 ⟨rfl, hw1⟩; have HW := hide hw1; clear hw1)
  go_ret
  refine ⟨_, rfl, ?_, ?_⟩
  · rw [unhide HW]
    exact split_cells (unhide HL)
  · rw [unhide HW]
    exact (Go.RowKit.Below.refl _ w).alloc (Nat.le_refl _) _
def wkS : ByteArray := ⟨#[55, 44, 51, 48, 48, 44, 55]⟩
theorem wk_pieces : Lib.splitB ⟨#[44]⟩ 0 (Lib.countB wkS ⟨#[44]⟩) wkS = [⟨#[55]⟩, ⟨#[51, 48, 48]⟩, ⟨#[55]⟩] := by kernel_rfl
theorem wk_vals : ([⟨#[55]⟩, ⟨#[51, 48, 48]⟩, ⟨#[55]⟩] : List ByteArray).map (fun p => One.val 3 p.data.toList) = [7, 300, 7] := by decide
theorem wk_set {l : List Int} (h : IsSet l [7, 300, 7]) : l = [7, 300] :=
  h.unique ⟨by decide, fun x => by simp; omega⟩
theorem two_row {n₀ : Nat} {W : World} {v : Value} (h : FRow n₀ W v [7, 300]) : ∃ g cap, v = .slice (some ⟨g, 0, none⟩) 2 cap ∧ 2 ≤ cap ∧ W.cell? ⟨g, 0, none⟩ = some (.int .u16 7) ∧ W.cell? ⟨g, 1, none⟩ = some (.int .u16 300) := by
  obtain ⟨g, cap, e, _, _, h1, _, hH⟩ := h.cells
  exact ⟨g, cap, e, h1, (hH 0 (by decide)).1, (hH 1 (by decide)).1⟩
set_option maxRecDepth 100000 in
set_option maxHeartbeats 2000000 in
theorem wakes_any (w : World) (hM : MaxIs w) : Calls Tryd.prog 8 #[] w fun e w' => e = .returned (.bool true) ∧ Go.RowKit.Below w.heap.size w w' := by
  have hc := cut3_any wkS w hM (by decide)
  rw [wk_pieces] at hc
  have hr := read_with 3 wkS [⟨#[55]⟩, ⟨#[51, 48, 48]⟩, ⟨#[55]⟩] w rfl (by decide) (fun p hp => by simp at hp; rcases hp with rfl | rfl | rfl <;> decide) hc
  rw [wk_vals] at hr
  have hR : Calls Tryd.prog 19 #[.int .i64 3, .string ⟨#[55, 44, 51, 48, 48, 44, 55]⟩] w fun e w' => ∃ g cap, e = .returned (.tuple #[.slice (some ⟨g, 0, none⟩) 2 cap, .int .i64 0]) ∧ 2 ≤ cap ∧ w'.cell? ⟨g, 0, none⟩ = some (.int .u16 7) ∧ w'.cell? ⟨g, 1, none⟩ = some (.int .u16 300) ∧ Go.RowKit.Below w.heap.size w w' := by
    refine hr.mono ?_
    rintro e w' ⟨u, rfl, hB, h0, _⟩
    obtain ⟨l, hl, hF⟩ := h0 (by decide)
    rw [wk_set hl] at hF
    obtain ⟨g, cap, rfl, h1, h2, h3⟩ := two_row hF
    exact ⟨g, cap, rfl, h1, h2, h3, hB⟩
  have HR := hide hR
  clear hc hr hR hM
  go_enter Tryd.func8, Tryd.ntmps8
  go_wp2_with (go_at_call 19; refine (unhide HR).mono ?_; rintro e w1 ⟨g, cap, rfl, hcap, hc0, hc1, hB⟩)
  go_ret
  exact ⟨rfl, hB⟩
end So
end Go.Proofs.YtgaagbjbolfbjaaDoor
