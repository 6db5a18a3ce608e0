/- The walk of FlagsReads. -/
import Derived.Test.YtaaonaaciomijaaDoorReadA
namespace Go.Proofs.YtaaonaaciomijaaDoor
open Go.Sort Go.RowKit
namespace So
open Cut
namespace Reads
set_option maxRecDepth 100000 in
set_option maxHeartbeats 4000000 in
theorem walk (kind : Int) (s : ByteArray) (w : World) (hs : s.size ≤ 1048576) (hM : MaxIs w) :
    Calls Tryd.prog 4 #[.int .i64 kind, .string s] w fun e w' => e = .returned (.bool true) ∧ Go.RowKit.Below w.heap.size w w' := by
  have HR := hide (fun W h => readAll kind s W h hs)
  have HF := hide (fun W => refReadAll kind s W hs)
  have HI := hide (fun v u W n => is_below (n₀ := n) v u (rS kind (dl s)) W)
  have HX := hide (rS_bounds kind (dl s))
  have T0 : Hid (Stt w w [] []) := ⟨Go.RowKit.Below.refl _ _, (fun p hp => by cases hp), (fun p hp => by cases hp), hM⟩
  clear hM
  generalize rE kind (dl s) = E at *
  generalize rS kind (dl s) = R at *
  go_enter Tryd.func4, Tryd.ntmps4
  go_wp2_with (first
    | (go_at_call 11; refine (unhide HR _ (unhide T0).2.2.2).mono ?_; rintro e w1 ⟨a, rfl, hF, hB⟩; have T1 := hide ((unhide T0).pushF hB hF); clear hF hB T0)
    | (go_at_call 12; refine (unhide HF _).mono ?_; rintro e w2 ⟨b, rfl, hF, hB⟩; have T2 := hide ((unhide T1).pushI hB hF); clear hF hB T1)
    | (go_at_call 10; refine (wakes_any _ (unhide T2).2.2.2).mono ?_; rintro e w3 ⟨rfl, hB⟩; have T3 := hide ((unhide T2).next hB); clear hB T2)
    | (go_at_call 13; refine (unhide HI a b _ 0 ((unhide T3).2.1 (a, R) (by simp)) ((unhide T3).2.2.1 (b, R) (by simp)) (unhide HX)).mono ?_; rintro e w4 ⟨rfl, hB⟩; have T4 := hide ((unhide T3).next hB); clear hB T3))
  go_ret
  exact ⟨rfl, (unhide T4).1⟩
end Reads
end So
end Go.Proofs.YtaaonaaciomijaaDoor
