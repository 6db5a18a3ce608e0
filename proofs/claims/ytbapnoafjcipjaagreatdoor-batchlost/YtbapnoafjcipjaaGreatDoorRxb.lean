/- Layer 5: Break. -/
import Derived.Test.YtbapnoafjcipjaaGreatDoorRx6
namespace Go.Proofs.YtbapnoafjcipjaaGreatDoor
open Go.RowKit
namespace Rs
theorem break_nil (w : World) (n : Int) : Calls Tryz.prog 13 #[.pointer none, .int .i64 n] w fun e w' => e = .returned (.tuple #[]) ∧ w' = w := by
  go_enter Tryz.func13, Tryz.ntmps13
  go_wp2
  go_end0
  exact ⟨rfl, rfl⟩
def Sto.brk (m : Sto) (n : Int) : Sto := { m with ahead := n.toNat }
theorem brk_ok {m : Sto} (h : m.Ok) {n : Int} (hn : n ≤ 9223372036854775807) : (m.brk n).Ok := ⟨h.cap, h.made, h.used, h.peak, h.peakle, by simp only [Sto.brk]; omega, h.sorted, h.nums⟩
theorem break_any {w : World} {sb : Nat} {m : Sto} {F : Nat → Prop} (h : At w sb m F) (n : Int) (hn : n ≤ 9223372036854775807) : Calls Tryz.prog 13 #[.pointer (some ⟨sb, 0, none⟩), .int .i64 n] w fun e w' => e = .returned (.tuple #[]) ∧ Res F w sb (m.brk n) w' := by
  obtain ⟨mv, hs, _⟩ := h.map
  obtain ⟨_, _, _, _, _, c5, fz⟩ := cells_sto hs
  have HA : Hid (∀ x : Int, x = max n 0 → Res F w sb (m.brk n) (w.setCell ⟨sb, 5, none⟩ (.int .i64 x))) := fun x hx =>
    (h.set (m' := m.brk n) 5 (.int .i64 x) rfl (brk_ok h.ok hn) (fun mv => by
      have e : ((n.toNat : Nat) : Int) = x := by omega
      simp [stoC, Sto.brk, e])).res (h.chg 5 _)
  clear h hs
  go_enter Tryz.func13, Tryz.ntmps13
  go_wp2
  all_goals
    go_end0
    exact ⟨rfl, unhide HA _ (by omega)⟩
end Rs
end Go.Proofs.YtbapnoafjcipjaaGreatDoor
