/- Contract: the laws' wakes answers true; nothing old in memory turns. -/
import Derived.Test.YtmioplahlbapdabRdW
import Derived.Test.YtmioplahlbapdabVlA
namespace Go.Proofs.Ytmioplahlbapdab
open Go.RowKit
namespace WkW
open RdW

set_option maxHeartbeats 1000000 in
theorem wakes_any (w : World) : Calls Try.prog 6 #[] w fun e w' => e = .returned (.bool true) ∧ Below w.heap.size w w' := by
  have HA : Hid (∀ W, Calls Try.prog 8 #[.string ⟨#[105, 110, 92, 47, 111, 117, 116, 47, 65, 66]⟩] W fun e w' => e = .returned (.tuple #[.string ⟨#[105, 110, 47, 111, 117, 116]⟩, .string ⟨#[65, 66]⟩, .bool true, .int .i64 0]) ∧ Below W.heap.size W w') := fun W => read_any ⟨#[105, 110, 92, 47, 111, 117, 116, 47, 65, 66]⟩ W (by decide)
  have HB : Hid (∀ W, Calls Try.prog 11 #[.string ⟨#[111, 39, 99, 108, 111, 99, 107]⟩] W fun e w' => e = .returned (.bool true) ∧ w' = W) := fun W => VlW.valid_any ⟨#[111, 39, 99, 108, 111, 99, 107]⟩ W (by decide)
  go_enter Try.func6, Try.ntmps6
  go_wp2_with fail
  refine (unhide HA _).mono ?_
  rintro e w1 ⟨rfl, hB1⟩
  go_wp2_with (go_at_call 11; refine (unhide HB _).mono ?_; rintro e W2 ⟨rfl, rfl⟩)
  go_ret
  exact ⟨rfl, hB1⟩
end WkW
end Go.Proofs.Ytmioplahlbapdab
