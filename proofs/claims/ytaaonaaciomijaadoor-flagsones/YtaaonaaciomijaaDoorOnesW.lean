/- The walk of FlagsOnes. -/
import Derived.Test.YtaaonaaciomijaaDoorOneR
import Derived.Test.YtaaonaaciomijaaDoorWkF
namespace Go.Proofs.YtaaonaaciomijaaDoor.flagsOnes
open Go.RowKit
set_option maxRecDepth 100000 in
set_option maxHeartbeats 2000000 in
theorem walk (kind : Int) (s : ByteArray) (w : World) (hs : s.size ≤ maxLen) (hM : So.MaxIs w) :
    Calls Tryd.prog 3 #[.int .i64 kind, .string s] w fun e w' => e = .returned (.bool true) ∧ Below w.heap.size w w' := by
  have HO := One.hide (fun W => One.one_any kind s W hs)
  have HR := One.hide (fun W => One.refOne_any kind s W hs)
  have hb : 0 ≤ One.oneF kind s.data.toList ∧ One.oneF kind s.data.toList ≤ 65535 := by
    unfold One.oneF
    split
    · exact One.val_bounds kind s.data.toList
    · omega
  have HM : One.Hid (∀ W : World, W.heap = w.heap → So.MaxIs W) := fun W h => by
    obtain ⟨m, hm⟩ := hM
    exact ⟨m, by simpa [World.cell?, h] using hm⟩
  clear hM hs
  generalize One.oneF kind s.data.toList = F at *
  generalize One.oneE kind s.data.toList = E at *
  go_enter Tryd.func3, Tryd.ntmps3
  go_wp2_with (first
    | (go_at_call 8; refine (One.unhide HO _).mono ?_; rintro e w1 ⟨rfl, n1, hw1⟩; obtain rfl := hw1.symm)
    | (go_at_call 9; refine (One.unhide HR _).mono ?_; rintro e w2 ⟨rfl, n2, hw2⟩; obtain rfl := hw2.symm)
    | (go_at_call 10; refine (So.wakes_any (w.drewN (n1 + n2)) (One.unhide HM _ rfl)).mono ?_; rintro e w3 ⟨rfl, hB3⟩))
  go_ret
  exact ⟨rfl, ⟨hB3.os, hB3.tape, hB3.output, hB3.size, hB3.block⟩⟩
end Go.Proofs.YtaaonaaciomijaaDoor.flagsOnes
