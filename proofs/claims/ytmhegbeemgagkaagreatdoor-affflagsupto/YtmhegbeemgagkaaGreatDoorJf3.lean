import Derived.Test.YtmhegbeemgagkaaGreatDoorJf1
namespace Go.Proofs.YtmhegbeemgagkaaGreatDoor
open Go.RowKit
namespace Af
open RowB
theorem flgS_small {l : Bs} {F : Fil} (h : affR l = .ok F) (s : Bs) : ∀ x ∈ flgS F s, 0 ≤ x ∧ x ≤ 65535 := flgS_np (p := fun a => ∀ x ∈ a, 0 ≤ x ∧ x ≤ 65535) (by simp) So.rS_bounds (affR_small h) s
set_option maxRecDepth 100000 in
set_option maxHeartbeats 2000000 in
theorem flags_law (s t : ByteArray) (w : World) (hM : Mx w.heap.size w) (hs : s.size ≤ 140737488355328) (ht : t.size ≤ 1048576) :
  Calls Tryz.prog 5 #[.string s, .string t] w fun e w' => e = .returned (.bool true) ∧ Below w.heap.size w w' := by
 have HR := hide (read_law s w hM hs)
 have HM := hide hM
 have HW : Hid (∀ w1, Below w.heap.size w w1 → Calls Tryz.prog 11 #[] w1 fun e w' => e = .returned (.bool true) ∧ Below w1.heap.size w1 w') := fun w1 b => wakes_any w1 (hM.up b)
 have HT := hide ht
 clear hM hs ht
 cases hX : affR s.data.toList with
 | error er =>
  rw [hX] at HR
  have HN := hide (fun W => nil_flags t W)
  clear hX
  go_enter Tryz.func5, Tryz.ntmps5
  go_wp2_with fail
  refine (unhide HR).mono ?_
  rintro e w1 ⟨b1, rfl⟩
  have HB1 := hide b1
  clear b1
  go_wp2_with fail
  refine (unhide HW _ (unhide HB1)).mono ?_
  rintro e w2 ⟨rfl, b2⟩
  have HB2 := hide (btr' (unhide HB1) b2)
  clear b2
  go_wp2_with fail
  refine (unhide HN _).mono ?_
  rintro e w3 ⟨rfl, hw3⟩
  obtain rfl := hw3.symm
  go_wp2_with fail
  go_ret
  exact ⟨rfl, unhide HB2⟩
 | ok F =>
  rw [hX] at HR
  have HSM := hide (flgS_small hX t.data.toList)
  clear hX
  go_enter Tryz.func5, Tryz.ntmps5
  go_wp2_with fail
  refine (unhide HR).mono ?_
  rintro e w1 ⟨b1, B, P, B', P', hB, rfl, hF, hF'⟩
  have HB1 := hide b1
  have HF := hide hF
  have HF' := hide hF'
  have HBB := hide hB
  clear b1 hF hF' hB
  go_wp2_with fail
  refine (unhide HW _ (unhide HB1)).mono ?_
  rintro e w2 ⟨rfl, b2⟩
  have HB2 := hide (btr' (unhide HB1) b2)
  have hF2 := (unhide HF).below b2
  have HF2' := hide ((unhide HF').below b2)
  have HFL := hide (flags_any hF2 (Mx.low (B := B) ⟨Nat.lt_of_lt_of_le (unhide HM).1 (unhide HBB), (unhide HM).low (unhide HB2) |>.2⟩ (Below.refl _ _)) t (unhide HT))
  clear b2 hF2
  go_wp2_with fail
  refine (unhide HFL).mono ?_
  rintro e w3 ⟨u, rfl, hu, b3⟩
  have HB3 := hide (btr' (unhide HB2) b3)
  have HU := hide hu
  have HFD := hide (flags_doc ((unhide HF2').below b3) t (unhide HT))
  obtain ⟨au, nu, cu, rfl⟩ : ∃ a n c, u = .slice a n c := by
   obtain ⟨a, c, e, -⟩ := hu.arg
   exact ⟨_, _, _, e⟩
  clear b3 hu
  go_wp2_with fail
  refine (unhide HFD).mono ?_
  rintro e w4 ⟨v, rfl, hv, b4⟩
  have HB4 := hide (btr' (unhide HB3) b4)
  have HS := hide (same_law _ v (flgS F t.data.toList) w4 (fnx_kept (unhide HU) (below_kept b4)).arg hv (unhide HSM))
  obtain ⟨av, cv, rfl, -, -⟩ := hv.form
  clear b4 hv
  generalize flgE F t.data.toList = ec at *
  go_wp2_with fail
  refine (unhide HS).mono ?_
  rintro e w5 ⟨rfl, b5⟩
  have HB5 := hide (btr' (unhide HB4) b5)
  clear b5
  go_wp2_with fail
  go_ret
  refine ⟨by simp, unhide HB5⟩
end Af
end Go.Proofs.YtmhegbeemgagkaaGreatDoor
