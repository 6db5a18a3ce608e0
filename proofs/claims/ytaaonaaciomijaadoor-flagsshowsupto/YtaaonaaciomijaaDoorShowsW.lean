/- The walk of FlagsShows. -/
import Derived.Test.YtaaonaaciomijaaDoorRShw
import Derived.Test.YtaaonaaciomijaaDoorSt
namespace Go.Proofs.YtaaonaaciomijaaDoor
open Go.Sort Go.RowKit
namespace So
open Cut Shw
namespace Shows
set_option maxRecDepth 100000 in
set_option maxHeartbeats 4000000 in
theorem walk (kind : Int) (v : Value) (L : List Int) (w : World) (hA : FArg w v L) (hb : ∀ x ∈ L, 0 ≤ x ∧ x ≤ 65535) (hn : L.length ≤ 1048576) (hM : MaxIs w) (hP : Pow w) :
    Calls Tryd.prog 5 #[.int .i64 kind, v] w fun e w' => e = .returned (.bool true) ∧ Go.RowKit.Below w.heap.size w w' := by
  have HT := hide (twin_any v L w hA (by omega))
  have HS : Hid (∀ W u, Go.RowKit.Below w.heap.size w W → FArg W u L → Calls Tryd.prog 14 #[.int .i64 kind, u] W fun e w' => e = .returned (.tuple #[.string (mk (showT kind (setOf L))), .int .i64 (showE kind (setOf L))]) ∧ Go.RowKit.Below W.heap.size W w') := fun W u hB h => show_any kind u L W h hb hn (hP.below hB)
  have HI : Hid (∀ W, Go.RowKit.Below w.heap.size w W → Calls Tryd.prog 17 #[v] W fun e w' => ∃ u, e = .returned u ∧ IRow W.heap.size w' u L ∧ Go.RowKit.Below W.heap.size W w') := fun W hB => ints_any v L W (hA.below hB) hb (by omega)
  have HR : Hid (∀ n W u, IRow n W u L → Calls Tryd.prog 16 #[.int .i64 kind, u] W fun e w' => e = .returned (.tuple #[.string (mk (showT kind (setOf L))), .int .i64 (showE kind (setOf L))]) ∧ Go.RowKit.Below W.heap.size W w') := fun n W u h => refShow_any kind u L W h hb hn
  have HM : Hid (∀ W, Go.RowKit.Below w.heap.size w W → MaxIs W) := fun W hB => hM.below hB
  clear hA hM hP hb
  generalize mk (showT kind (setOf L)) = TT at *
  generalize showE kind (setOf L) = E at *
  go_enter Tryd.func5, Tryd.ntmps5
  go_wp2_with (first
    | (go_at_call 15; refine (unhide HT).mono ?_; rintro e w1 ⟨x, rfl, hF, _, hB⟩; have HB1 := hide hB; have HSX := hide (unhide HS _ _ hB hF); clear hF hB HT)
    | (go_at_call 14; refine (unhide HSX).mono ?_; rintro e w2 ⟨rfl, hB⟩; have HB2 := hide ((unhide HB1).trans (hB.mono (unhide HB1).size)); have HIX := hide (unhide HI _ (unhide HB2)); clear hB HSX)
    | (go_at_call 17; refine (unhide HIX).mono ?_; rintro e w3 ⟨a, rfl, hF, hB⟩; have HB3 := hide ((unhide HB2).trans (hB.mono (unhide HB2).size)); have HRX := hide (unhide HR _ _ _ hF); clear hF hB HIX)
    | (go_at_call 16; refine (unhide HRX).mono ?_; rintro e w4 ⟨rfl, hB⟩; have HB4 := hide ((unhide HB3).trans (hB.mono (unhide HB3).size)); have HWX := hide (wakes_any _ (unhide HM _ (unhide HB4))); clear hB HRX)
    | (go_at_call 10; refine (unhide HWX).mono ?_; rintro e w5 ⟨rfl, hB⟩; have HB5 := hide ((unhide HB4).trans (hB.mono (unhide HB4).size)); clear hB HWX))
  go_ret
  exact ⟨rfl, unhide HB5⟩
end Shows
end So
end Go.Proofs.YtaaonaaciomijaaDoor
