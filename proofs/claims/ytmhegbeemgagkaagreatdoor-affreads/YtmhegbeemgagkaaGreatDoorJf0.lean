import Derived.Test.YtmhegbeemgagkaaGreatDoorGm39
import Derived.Test.YtmhegbeemgagkaaGreatDoorGm40
set_option maxHeartbeats 8000000
set_option maxRecDepth 100000
namespace Go.Proofs.YtmhegbeemgagkaaGreatDoor
open Go.RowKit
namespace Af
open RowB
theorem same_law {n₀ : Nat} (v u : Value) (L : List Int) (w : World) (hA : So.FArg w v L) (hI : So.IRow n₀ w u L) (hx : ∀ x ∈ L, 0 ≤ x ∧ x ≤ 65535) :
  Calls Tryz.prog 20 #[v, u] w fun e w' => e = .returned (.bool true) ∧ Below w.heap.size w w' := by
 obtain ⟨ao, cap, rfl, hcp, hm, _, hcell⟩ := hA
 obtain ⟨ao2, cap2, rfl, _, hcell2⟩ := hI.form
 have HC := hide hcell
 have HC2 := hide hcell2
 have HX := hide hx
 unfold maxLen at hm
 clear hcell hcell2 hx hI
 generalize hnn : L.length = n at *
 have HN := hide hnn
 clear hnn
 go_enter Tryz.func20, Tryz.ntmps20
 go_wp2
 go_loopw [13] (fun i wr => ∃ k q : Nat, k ≤ n ∧ i = .int .i64 k ∧ wr = w.drewN q) (fun i _ => n - (intOf i).toNat)
 case atStart => exact ⟨0, 0, Nat.zero_le _, rfl, rfl⟩
 case round =>
  obtain ⟨k, q, hk, rfl, rfl⟩ := hrel
  by_cases hlt : k < n
  ·have hltz : (k : Int) < (n : Int) := by omega
   obtain ⟨x, hx⟩ : ∃ x, L[k]? = some x := ⟨_, List.getElem?_eq_getElem (by rw [unhide HN]; exact hlt)⟩
   obtain ⟨g, off, rfl, hg, hcc⟩ := unhide HC (by omega)
   have hcw := hcc k x hx
   obtain ⟨g2, rfl, _, hcw2⟩ := unhide HC2 k x hx
   obtain ⟨hx0, hx1⟩ := unhide HX x (List.mem_of_getElem? hx)
   unfold So.encF at hcw
   clear hcc hx hg
   go_wp2
   go_quiet (fail)
   go_wp2
   go_roundw
   case rel => exact ⟨k + 1, _, by omega, by go_num, rfl⟩
   case measure => simp [intOf]; omega
  ·have hltz : ¬ (k : Int) < (n : Int) := by omega
   go_wp2
   go_ret
   exact ⟨rfl, So.drew_low w q⟩
theorem Mx.up {w w' : World} (h : Mx w.heap.size w) (b : Below w.heap.size w w') : Mx w'.heap.size w' := ⟨Nat.lt_of_lt_of_le h.1 b.size, (h.low b).2⟩
theorem sameClass_any (f k : Int) (b : Bool) (i n : Int) (w : World) (h0 : 0 ≤ f) (h1 : f ≤ 65535) :
  Calls Tryz.prog 17 #[.agg #[.int .u16 f, .int .i64 k, .bool b, .int .i64 i, .int .i64 n], .agg #[.int .i64 f, .int .i64 k, .bool b, .int .i64 i, .int .i64 n]] w fun e w' => e = .returned (.bool true) ∧ Below w.heap.size w w' := by
 go_enter Tryz.func17, Tryz.ntmps17
 go_wp2
 go_ret
 refine ⟨by simp, ?_⟩
 (repeat (first | exact Below.refl _ _ | refine Below.drew ?_ | refine Below.alloc ?_ (by first | (simp; done) | (simp; omega)) _ | refine Below.setCell ?_ (by first | (simp; done) | (simp; omega)) _))
end Af
end Go.Proofs.YtmhegbeemgagkaaGreatDoor
