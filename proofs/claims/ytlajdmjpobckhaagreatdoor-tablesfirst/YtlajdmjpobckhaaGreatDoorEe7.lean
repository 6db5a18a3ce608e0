/- tables: Ends, where no special flag is defined. -/
import Derived.Test.YtlajdmjpobckhaaGreatDoorEe6
namespace Go.Proofs.YtlajdmjpobckhaaGreatDoor
open Go.RowKit
namespace Af
open RowB
set_option maxRecDepth 100000 in
set_option maxHeartbeats 4000000 in
theorem special_0 {w : World} {tb B n wb : Nat} {F : Fil} {P : Pts} {E : List Ent} {Q : WPts} {vu ve : Value} {nv fv : List Value} (h : TbAt w tb B F P n wb E Q vu ve nv fv) (h0 : F.specials.getD 0 0 = 0) (v : Value) :
    Calls Tryz.prog 62 #[.pointer (some ⟨tb, 0, none⟩), v, .int .i64 0] w fun e w' => e = .returned (.bool false) ∧ w' = w := by
  have d2 := h.cells.2.1
  have hlt := h.cells.2.2.2.2.2.2.2.2
  rw [h0] at d2
  have HA := hide (atF_in (w := w) (g := tb) (off := 2) (m := 5) (cap := 5) (k := 0) (x := 0) (by omega) (by omega) d2)
  clear h h0
  go_enter Tryz.func62, Tryz.ntmps62
  go_wp2_with fail
  refine (unhide HA).mono ?_
  rintro e w1 ⟨rfl, hw⟩
  obtain rfl := hw.symm
  go_wp2
  go_ret
  exact ⟨rfl, rfl⟩
set_option maxRecDepth 100000 in
set_option maxHeartbeats 4000000 in
theorem ends_0 {w : World} {tb B n wb : Nat} {F : Fil} {P : Pts} {E : List Ent} {Q : WPts} {vu ve : Value} {nv fv : List Value} (h : TbAt w tb B F P n wb E Q vu ve nv fv) (hm : F.rules.length ≤ 1000000) {k : Nat} {r : Rul} (hx : F.rules[k]? = some r) (h0 : F.specials.getD 0 0 = 0) :
    Calls Tryz.prog 43 #[.pointer (some ⟨tb, 0, none⟩), .int .i64 (k : Nat)] w fun e w' => e = .returned (.bool true) ∧ Below w.heap.size w w' := by
  have HR := hide (rule_in h hm hx)
  have HS := hide (fun W (b : Below w.heap.size w W) v => special_0 (h.below b) h0 v)
  clear h hm hx h0
  go_enter Tryz.func43, Tryz.ntmps43
  go_wp2_with fail
  refine (unhide HR).mono ?_
  rintro e w1 ⟨a, c, rfl, -, b1⟩
  have B1 := hide b1
  clear b1
  go_wp2_with fail
  refine (unhide HS _ ((unhide B1).alloc (unhide B1).size _) _).mono ?_
  rintro e w2 ⟨rfl, hw⟩
  obtain rfl := hw.symm
  go_wp2
  go_ret
  exact ⟨rfl, (unhide B1).alloc (unhide B1).size _⟩
end Af
end Go.Proofs.YtlajdmjpobckhaaGreatDoor
