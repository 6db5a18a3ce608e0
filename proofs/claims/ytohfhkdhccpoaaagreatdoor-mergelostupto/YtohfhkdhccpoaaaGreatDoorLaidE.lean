/- A world for the witness: the settled one, the listed failures laid as their initialisers lay them. -/
import Derived.Test.YtohfhkdhccpoaaaGreatDoorRows
import Derived.WalkKit
import Derived.ProofKit
import Derived.Deep.DeepHandedRow
namespace Go.Proofs.YtohfhkdhccpoaaaGreatDoor.LaidE
open Go.ChangeShapes Go.WideShapes Go.ChangeAt Go.RowKit

theorem own : ownKnob Tryz.prog.godebug = none := by kernel_rfl
def put (n : Nat) : Obj → Obj
  | .cells _ t frozen => .cells #[.iface 234 (.pointer (some ⟨n, 0, none⟩))] t frozen
  | o => o
def tabs (W : World) : World := { W with heap := ((((((((((((((((((((((((((W.heap.modify 0 (put (W.heap.size + 0))).modify 1 (put (W.heap.size + 1))).modify 4 (put (W.heap.size + 2))).modify 11 (put (W.heap.size + 3))).modify 3 (put (W.heap.size + 4))).modify 10 (put (W.heap.size + 5))).modify 5 (put (W.heap.size + 6))).modify 6 (put (W.heap.size + 7))).modify 7 (put (W.heap.size + 8))).modify 8 (put (W.heap.size + 9))).modify 12 (put (W.heap.size + 10))).modify 2 (put (W.heap.size + 11))).modify 9 (put (W.heap.size + 12))).push (.cells #[.string ⟨#[110, 111, 32, 111, 98, 106, 101, 99, 116]⟩] 250)).push (.cells #[.string ⟨#[97, 32, 110, 117, 109, 98, 101, 114, 32, 111, 117, 116, 32, 111, 102, 32, 105, 116, 115, 32, 114, 97, 110, 103, 101]⟩] 250)).push (.cells #[.string ⟨#[110, 111, 32, 115, 117, 99, 104, 32, 114, 117, 110]⟩] 250)).push (.cells #[.string ⟨#[116, 104, 101, 32, 114, 117, 110, 32, 105, 115, 32, 115, 101, 97, 108, 101, 100]⟩] 250)).push (.cells #[.string ⟨#[116, 104, 101, 32, 114, 117, 110, 32, 105, 115, 32, 110, 111, 116, 32, 115, 101, 97, 108, 101, 100]⟩] 250)).push (.cells #[.string ⟨#[110, 111, 32, 115, 117, 99, 104, 32, 112, 108, 97, 99, 101, 32, 105, 110, 32, 116, 104, 101, 32, 114, 117, 110]⟩] 250)).push (.cells #[.string ⟨#[116, 104, 101, 32, 115, 116, 111, 114, 101, 32, 105, 115, 32, 102, 117, 108, 108]⟩] 250)).push (.cells #[.string ⟨#[110, 111, 32, 114, 117, 110, 32, 110, 117, 109, 98, 101, 114, 32, 105, 115, 32, 108, 101, 102, 116]⟩] 250)).push (.cells #[.string ⟨#[116, 104, 101, 32, 115, 116, 111, 114, 101, 32, 114, 101, 102, 117, 115, 101, 100, 32, 97, 32, 115, 116, 101, 112]⟩] 250)).push (.cells #[.string ⟨#[116, 104, 101, 32, 114, 101, 99, 111, 114, 100, 32, 105, 115, 32, 116, 111, 111, 32, 108, 111, 110, 103]⟩] 250)).push (.cells #[.string ⟨#[116, 104, 101, 32, 114, 117, 110, 32, 105, 115, 32, 116, 111, 114, 110]⟩] 250)).push (.cells #[.string ⟨#[97, 32, 114, 117, 110, 32, 105, 115, 32, 110, 97, 109, 101, 100, 32, 116, 119, 105, 99, 101]⟩] 250)).push (.cells #[.string ⟨#[99, 108, 111, 115, 101, 100]⟩] 250)) }
end Go.Proofs.YtohfhkdhccpoaaaGreatDoor.LaidE
