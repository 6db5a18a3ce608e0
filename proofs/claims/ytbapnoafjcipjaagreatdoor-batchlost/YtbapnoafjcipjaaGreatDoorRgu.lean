/- Layer 5: Used. -/
import Derived.Test.YtbapnoafjcipjaaGreatDoorGa
namespace Go.Proofs.YtbapnoafjcipjaaGreatDoor
open Go.RowKit
namespace Rs
theorem used_nil (w : World) : Calls Tryz.prog 23 #[.pointer none] w fun e w' => e = .returned (.int .i64 0) ∧ w' = w := by
  go_enter Tryz.func23, Tryz.ntmps23
  go_wp2
  go_ret
  exact ⟨rfl, rfl⟩
theorem used_any {w : World} {sb : Nat} {m : Sto} {F : Nat → Prop} (h : At w sb m F) : Calls Tryz.prog 23 #[.pointer (some ⟨sb, 0, none⟩)] w fun e w' => e = .returned (.int .i64 (tot m.runs)) ∧ w' = w := by
  obtain ⟨mv, hs, _⟩ := h.map
  obtain ⟨_, _, _, c3, _, _, fz⟩ := cells_sto hs
  clear h hs
  go_enter Tryz.func23, Tryz.ntmps23
  go_wp2
  go_ret
  exact ⟨rfl, rfl⟩
end Rs
end Go.Proofs.YtbapnoafjcipjaaGreatDoor
