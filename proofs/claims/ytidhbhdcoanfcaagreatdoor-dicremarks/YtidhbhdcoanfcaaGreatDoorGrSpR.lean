import Derived.Test.YtidhbhdcoanfcaaGreatDoorGp00
namespace Go.Proofs.YtidhbhdcoanfcaaGreatDoor
open Go.RowKit
namespace LnR
open FldW Byt

set_option maxHeartbeats 400000 in
theorem ref_split_long (s : ByteArray) (w : World) (hs : 65536 < (s.size : Int)) :
  Calls Tryz.prog 9 #[.string s] w fun e w' => e = .returned (.tuple #[.slice none 0 0, .int .i64 10]) ∧ w' = w := by
 go_enter Tryz.func9, Tryz.ntmps9
 go_wp2
 go_ret2
 exact ⟨rfl, rfl⟩
set_option maxHeartbeats 400000 in
theorem ref_split_short (s : ByteArray) (w : World) (hs : s.size ≤ 65536) :
  Calls Tryz.prog 9 #[.string s] w fun e w' => ∃ v, e = .returned (.tuple #[v, .int .i64 0]) ∧ w'.ownsRow w.heap.size 9 1 v (Ln.linesOf s.data.toList).length (vals (Ln.linesOf s.data.toList)) ∧ Below w.heap.size w w' := by
 have hs2 : ¬ (65536 : Int) < (s.size : Int) := by omega
 have HL := hide (lines_any s hs w)
 go_enter Tryz.func9, Tryz.ntmps9
 go_wp2_with fail
 refine (unhide HL).mono ?_
 rintro e w' ⟨v, rfl, hO, hB⟩
 go_wp2
 go_ret2
 exact ⟨v, rfl, hO, hB⟩
end LnR
end Go.Proofs.YtidhbhdcoanfcaaGreatDoor
