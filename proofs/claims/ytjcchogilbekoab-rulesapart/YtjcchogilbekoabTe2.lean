/- Layer 15: slices.Backward over rules; what All and Backward hand back. -/
import Derived.Test.YtjcchogilbekoabTe1
namespace Go.Proofs.Ytjcchogilbekoab
open Go.RowKit Go.Shelf
namespace Rv
attribute [local go_sem] Oper.semAt_some

set_option maxRecDepth 100000 in
set_option maxHeartbeats 1000000 in
theorem all_any {v : Value} {L : List RuB} (w : World) (h : RulesAt w v L w.heap.size) (hz : L.length ≤ 8796093022208) :
    Calls Try.prog 12 #[v] w fun e w' => ∃ gf lb, e = .returned (.func (.func gf) #[] lb) ∧ Walks ar Try.prog gf lb (en 0 L) w'.heap.size w' ∧ Below w.heap.size w w' := by
  have HW : Hid (Walks ar Try.prog 16 #[.pointer (some ⟨w.heap.size, 0, none⟩)] (en 0 L) (w.alloc (.cells #[v] 34)).heap.size (w.alloc (.cells #[v] 34))) :=
    all1_walks (by simp) (Boxed.new w 34 v).cell ((h.below ((Below.refl _ w).alloc (Nat.le_refl _) _)).mono (by simp)) hz
  obtain ⟨ao, c, rfl, _⟩ := h
  go_enter Try.func12, Try.ntmps12
  go_wp2
  go_ret
  exact ⟨_, _, rfl, unhide HW, (Below.refl _ w).alloc (Nat.le_refl _) _⟩
end Rv
end Go.Proofs.Ytjcchogilbekoab
