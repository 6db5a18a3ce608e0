import Derived.Test.YtmhegbeemgagkaaGreatDoorJf0
namespace Go.Proofs.YtmhegbeemgagkaaGreatDoor
open Go.RowKit
namespace Af
open RowB
def BRes (w : World) (X : Except Er Fil) (e : Ending) (w' : World) : Prop :=
 Below w.heap.size w w' ∧ match X with
 | .ok F => ∃ B P B' P', w.heap.size ≤ B ∧ e = .returned (.tuple #[ptr P.fb, ptr P'.fb, .bool true]) ∧ FAt B w' F P ∧ DFAt B' w' F P'
 | .error _ => e = .returned (.tuple #[.pointer none, .pointer none, .bool true])
set_option maxRecDepth 100000 in
set_option maxHeartbeats 2000000 in
theorem read_law (s : ByteArray) (w : World) (hM : Mx w.heap.size w) (hs : s.size ≤ 140737488355328) : Calls Tryz.prog 14 #[.string s] w (BRes w (affR s.data.toList)) := by
 have HP := hide (Read_any s w hM)
 have HD := hide (fun W => affDoc_any s W hs)
 clear hM hs
 cases hX : affR s.data.toList with
 | error er =>
  rw [hX] at HP HD
  clear hX
  go_enter Tryz.func14, Tryz.ntmps14
  go_wp2_with fail
  refine (unhide HP).mono ?_
  rintro e w1 ⟨b1, rfl⟩
  have HB1 := hide b1
  clear b1
  go_wp2_with fail
  refine (unhide HD _).mono ?_
  rintro e w2 ⟨b2, rfl, h0⟩
  have HB2 := hide b2
  have hz : (((er.2 : Nat) : Int) == 0) = false := by rw [beq_eq_false_iff_ne]; omega
  clear b2 h0
  go_wp2_with fail
  go_ret3
  have hb := unhide HB1
  exact ⟨hb.trans ((((Below.refl _ w1).alloc (Nat.le_refl _) _).trans ((unhide HB2).mono (by simp))).mono hb.size), rfl⟩
 | ok F =>
  rw [hX] at HP HD
  clear hX
  go_enter Tryz.func14, Tryz.ntmps14
  go_wp2_with fail
  refine (unhide HP).mono ?_
  rintro e w1 ⟨b1, B, P, hB, rfl, hF⟩
  unfold zF
  have HB1 := hide b1
  have HF := hide hF
  clear b1 hF
  go_wp2_with fail
  refine (unhide HD _).mono ?_
  rintro e w2 ⟨b2, B', P', hB', rfl, hF'⟩
  have HB2 := hide b2
  have HF' := hide hF'
  clear b2 hF'
  go_wp2_with fail
  go_ret3
  have hb := unhide HB1
  have ha : Below w1.heap.size w1 (w1.alloc (.cells #[.int .i64 0, .int .i64 0, .int .i64 0] 25)) := (Below.refl _ w1).alloc (Nat.le_refl _) _
  have h2 : Below w1.heap.size w1 w2 := ha.trans ((unhide HB2).mono (by simp))
  exact ⟨hb.trans (h2.mono hb.size), B, P, B', P', hB, rfl, (unhide HF).below h2, unhide HF'⟩
end Af
end Go.Proofs.YtmhegbeemgagkaaGreatDoor
