import Derived.Test.YtmhegbeemgagkaaGreatDoorJk2
import Derived.Test.YtmhegbeemgagkaaGreatDoorJk0
import Derived.Test.YtmhegbeemgagkaaGreatDoorGn25
namespace Go.Proofs.YtmhegbeemgagkaaGreatDoor
open Go.RowKit
namespace Af
open RowB
theorem fnx_up {B : Nat} {w w' : World} {v : Value} {l : List Int} (h : FNx B w v l) (b : Below w.heap.size w w') : FNx B w' v l := fnx_kept h (below_kept b)

set_option maxRecDepth 100000 in
set_option maxHeartbeats 8000000 in
theorem back_law (s t : ByteArray) (v : Value) (L : List Int) (w : World) (hM : Mx w.heap.size w) (ht : t.size ≤ 1048576) (hA : So.FArg w v L) (hb : ∀ x ∈ L, 0 ≤ x ∧ x ≤ 65535) (hn : L.length ≤ 1048576) (hP : So.Pow w) :
  Calls Tryz.prog 7 #[.string s, .string t, v] w fun e w' => e = .returned (.bool true) ∧ Below w.heap.size w w' := by
 have HW : Hid (Calls Tryz.prog 11 #[] w fun e w' => e = .returned (.bool true) ∧ Below w.heap.size w w') := wakes_any w hM
 have HRD : Hid (∀ w1, Below w.heap.size w w1 → Calls Tryz.prog 9 #[.string s] w1 (FRes w1 (affR s.data.toList))) := fun w1 b => Read_any s w1 ⟨Nat.lt_of_lt_of_le hM.1 b.size, (hM.low b).2⟩
 have HNW : Hid (∀ w1, Below w.heap.size w w1 → ∃ u W2, (Builtin.append_ #[44, 44] 44 #[.slice none 0 0, v]).run Tryz.prog w1 = .ok u W2 ∧ So.FArg W2 u L ∧ Below w1.heap.size w1 W2) := fun w1 b => flags_new v L w1 (hA.below b) hn
 have HP : Hid (∀ w1, Below w.heap.size w w1 → So.Pow w1) := fun w1 b => Tab.pow10_below hP b
 have HAR : Hid (∀ w1, Below w.heap.size w w1 → So.FArg w1 v L) := fun w1 b => hA.below b
 have HMX : Hid (∀ B, w.heap.size ≤ B → ∀ w1, Below w.heap.size w w1 → Mx B w1) := fun B h w1 b => ⟨Nat.lt_of_lt_of_le hM.1 h, (hM.low b).2⟩
 obtain ⟨ao, cap, rfl, -⟩ := hA
 clear hM hP
 cases hX : affR s.data.toList with
 | error er =>
  rw [hX] at HRD
  clear hX
  go_enter Tryz.func7, Tryz.ntmps7
  go_wp2_with fail
  refine (unhide HW).mono ?_
  rintro e w1 ⟨rfl, b1⟩
  have HB1 := hide b1
  have HR := hide (unhide HRD w1 b1)
  clear b1
  go_wp2_with fail
  refine (unhide HR).mono ?_
  rintro e w2 ⟨b2, hx⟩
  have hx : e = .returned (.tuple #[.pointer none, .agg #[.int .i64 1, .int .i64 (er.1 : Nat), .int .i64 (er.2 : Nat)]]) := hx
  subst hx
  have HB2 := hide ((btr2 (unhide HB1) b2).alloc (btr2 (unhide HB1) b2).size (.cells #[.int .i64 1, .int .i64 (er.1 : Nat), .int .i64 (er.2 : Nat)] 25))
  clear b2
  go_wp2_with fail
  go_ret
  exact ⟨rfl, unhide HB2⟩
 | ok F =>
  rw [hX] at HRD
  have hsm : ∀ x ∈ flgS F t.data.toList, 0 ≤ x ∧ x ≤ 65535 := flgS_np (p := fun a => ∀ x ∈ a, 0 ≤ x ∧ x ≤ 65535) (by simp) So.rS_bounds (affR_small hX) t.data.toList
  have hal := (affR_sets hX).al
  have hna := affR_al hX
  obtain ⟨t1, c1, hwv⟩ := wV_form F L
  clear hX
  by_cases hc0 : flgE F t.data.toList = 0
  ·obtain ⟨hne, hset, h64, t2, hwv2⟩ := read_back hc0 hal hna
   by_cases hc1 : c1 = 0
   ·subst hc1
    by_cases hL : L = []
    ·have hl0 : ¬ (0 : Int) < (L.length : Int) := by rw [hL]; simp
     clear hal hna hL
     go_enter Tryz.func7, Tryz.ntmps7
     go_wp2_with fail
     refine (unhide HW).mono ?_
     rintro e w1 ⟨rfl, b1⟩
     have HB1 := hide b1
     have HR := hide (unhide HRD w1 b1)
     clear b1
     go_wp2_with fail
     refine (unhide HR).mono ?_
     rintro e w2 ⟨b2, hx⟩
     obtain ⟨B, P, hB, rfl, hF⟩ := hx
     unfold zF
     have HB2 := hide ((btr2 (unhide HB1) b2).alloc (btr2 (unhide HB1) b2).size (.cells #[.int .i64 0, .int .i64 0, .int .i64 0] 25))
     have HF2 := hide (hF.below ((Below.refl _ w2).alloc (Nat.le_refl _) (.cells #[.int .i64 0, .int .i64 0, .int .i64 0] 25)))
     have HBB := hide (Nat.le_trans (unhide HB1).size hB)
     clear hF hB b2
     obtain ⟨u, w3, hrun, hu, b3⟩ := unhide HNW _ (unhide HB2)
     have HRUN := hide hrun
     have HB3 := hide (btr2 (unhide HB2) b3)
     have HF3 := hide ((unhide HF2).below b3)
     have HWR := hide (write_any (unhide HF3) u L hu hb hn (unhide HP _ (unhide HB3)))
     rw [hwv] at HWR
     clear hrun b3 hu HF2
     go_wp2_with (at_builtin; refine wAppend rfl _ _ 44 44 rfl _ _ rfl rfl u w3 (unhide HRUN) ?_)
     refine (unhide HWR).mono ?_
     rintro e w4 ⟨rfl, b4⟩
     have HB4 := hide (btr2 (unhide HB3) b4)
     have HF4 := hide ((unhide HF3).below b4)
     clear b4 HF3
     obtain ⟨m1, m2, m3⟩ := made_back hne hsm hwv2 (unhide HF4).ok.ali
     rw [hset] at m2
     have HFL5 := hide (flags_any (unhide HF4) (unhide HMX B (unhide HBB) _ (unhide HB4)) t ht)
     rw [hc0] at HFL5
     generalize hSS : flgS F t.data.toList = S at *
     go_wp2_with fail
     refine (unhide HFL5).mono ?_
     rintro e w5 ⟨u5, rfl, hu5, b5⟩
     have HB5 := hide (btr2 (unhide HB4) b5)
     have HF5 := hide ((unhide HF4).below b5)
     have HU5 := hide hu5
     obtain ⟨au5, cu5, rfl, -⟩ := hu5.arg
     clear hu5 b5
     have HW2 := hide (write_any (unhide HF5) _ S (unhide HU5).arg hsm (by omega) (unhide HP _ (unhide HB5)))
     rw [hwv2] at HW2
     go_wp2_with fail
     refine (unhide HW2).mono ?_
     rintro e w6 ⟨rfl, b6⟩
     have HB6 := hide (btr2 (unhide HB5) b6)
     have HF6 := hide ((unhide HF5).below b6)
     have HU6 := hide (fnx_up (unhide HU5) b6)
     clear b6
     have HFL7 := hide (flags_any (unhide HF6) (unhide HMX B (unhide HBB) _ (unhide HB6)) t2 m3)
     rw [m1, m2] at HFL7
     go_wp2_with fail
     refine (unhide HFL7).mono ?_
     rintro e w7 ⟨u7, rfl, hu7, b7⟩
     have HB7 := hide (btr2 (unhide HB6) b7)
     have HF7 := hide ((unhide HF6).below b7)
     have HU7 := hide hu7
     obtain ⟨au7, cu7, rfl, -⟩ := hu7.arg
     have HV := hide (fnx_up (unhide HU6) b7)
     clear hu7 b7
     have HE := hide (So.equal_set _ _ S S w7 (unhide HU7).arg (unhide HV).arg (by omega))
     rw [decide_eq_true rfl] at HE
     go_wp2_with fail
     refine (unhide HE).mono ?_
     rintro e w8 ⟨rfl, b8⟩
     have HB8 := hide (btr2 (unhide HB7) b8)
     have HC := hide (So.count_any _ S w8 (fnx_up (unhide HV) b8).arg (by omega))
     rw [hset] at HC
     have hpos : (0 : Int) < (S.length : Int) := by have := List.length_pos_iff.2 hne; omega
     clear b8
     go_wp2_with fail
     refine (unhide HC).mono ?_
     rintro e w9 ⟨rfl, b9⟩
     have HB9 := hide (btr2 (unhide HB8) b9)
     clear b9
     go_wp2_with fail
     go_ret
     exact ⟨by simp; omega, unhide HB9⟩
    ·have hl0 : (0 : Int) < (L.length : Int) := by have := List.length_pos_iff.2 hL; omega
     clear hal hna
     go_enter Tryz.func7, Tryz.ntmps7
     go_wp2_with fail
     refine (unhide HW).mono ?_
     rintro e w1 ⟨rfl, b1⟩
     have HB1 := hide b1
     have HR := hide (unhide HRD w1 b1)
     clear b1
     go_wp2_with fail
     refine (unhide HR).mono ?_
     rintro e w2 ⟨b2, hx⟩
     obtain ⟨B, P, hB, rfl, hF⟩ := hx
     unfold zF
     have HB2 := hide ((btr2 (unhide HB1) b2).alloc (btr2 (unhide HB1) b2).size (.cells #[.int .i64 0, .int .i64 0, .int .i64 0] 25))
     have HF2 := hide (hF.below ((Below.refl _ w2).alloc (Nat.le_refl _) (.cells #[.int .i64 0, .int .i64 0, .int .i64 0] 25)))
     have HBB := hide (Nat.le_trans (unhide HB1).size hB)
     clear hF hB b2
     obtain ⟨u, w3, hrun, hu, b3⟩ := unhide HNW _ (unhide HB2)
     have HRUN := hide hrun
     have HB3 := hide (btr2 (unhide HB2) b3)
     have HF3 := hide ((unhide HF2).below b3)
     have HWR := hide (write_any (unhide HF3) u L hu hb hn (unhide HP _ (unhide HB3)))
     rw [hwv] at HWR
     clear hrun b3 hu HF2
     go_wp2_with (at_builtin; refine wAppend rfl _ _ 44 44 rfl _ _ rfl rfl u w3 (unhide HRUN) ?_)
     refine (unhide HWR).mono ?_
     rintro e w4 ⟨rfl, b4⟩
     have HB4 := hide (btr2 (unhide HB3) b4)
     have HF4 := hide ((unhide HF3).below b4)
     clear b4 HF3
     obtain ⟨m1, m2, m3⟩ := made_back hne hsm hwv2 (unhide HF4).ok.ali
     rw [hset] at m2
     obtain ⟨hE1, hS1, hz1⟩ := made_back hL hb hwv (unhide HF4).ok.ali
     have HFL5 := hide (flags_any (unhide HF4) (unhide HMX B (unhide HBB) _ (unhide HB4)) t1 hz1)
     rw [hE1, hS1] at HFL5
     go_wp2_with fail
     refine (unhide HFL5).mono ?_
     rintro e w5 ⟨u5, rfl, hu5, b5⟩
     have HB5 := hide (btr2 (unhide HB4) b5)
     have HF5 := hide ((unhide HF4).below b5)
     have HU5 := hide hu5
     obtain ⟨au5, cu5, rfl, -⟩ := hu5.arg
     clear hu5 b5
     have HE6 := hide (So.equal_set _ _ (So.setOf L) L w5 (unhide HU5).arg (unhide HAR _ (unhide HB5)) (by have := (So.setOf_set L).len; omega))
     rw [decide_eq_true (So.setOf_congr fun _ => So.mem_setOf)] at HE6
     go_wp2_with fail
     refine (unhide HE6).mono ?_
     rintro e w6 ⟨rfl, b6⟩
     have HB6 := hide (btr2 (unhide HB5) b6)
     have HF6 := hide ((unhide HF5).below b6)
     have HFL7 := hide (flags_any (unhide HF6) (unhide HMX B (unhide HBB) _ (unhide HB6)) t ht)
     rw [hc0] at HFL7
     generalize hSS : flgS F t.data.toList = S at *
     go_wp2_with fail
     refine (unhide HFL7).mono ?_
     rintro e w7 ⟨u7, rfl, hu7, b7⟩
     have HB7 := hide (btr2 (unhide HB6) b7)
     have HF7 := hide ((unhide HF6).below b7)
     have HU7 := hide hu7
     obtain ⟨au7, cu7, rfl, -⟩ := hu7.arg
     clear hu7 b7
     have HW2 := hide (write_any (unhide HF7) _ S (unhide HU7).arg hsm (by omega) (unhide HP _ (unhide HB7)))
     rw [hwv2] at HW2
     go_wp2_with fail
     refine (unhide HW2).mono ?_
     rintro e w8 ⟨rfl, b8⟩
     have HB8 := hide (btr2 (unhide HB7) b8)
     have HF8 := hide ((unhide HF7).below b8)
     have HU8 := hide (fnx_up (unhide HU7) b8)
     clear b8
     have HFL9 := hide (flags_any (unhide HF8) (unhide HMX B (unhide HBB) _ (unhide HB8)) t2 m3)
     rw [m1, m2] at HFL9
     go_wp2_with fail
     refine (unhide HFL9).mono ?_
     rintro e w9 ⟨u9, rfl, hu9, b9⟩
     have HB9 := hide (btr2 (unhide HB8) b9)
     have HF9 := hide ((unhide HF8).below b9)
     have HU9 := hide hu9
     obtain ⟨au9, cu9, rfl, -⟩ := hu9.arg
     have HV := hide (fnx_up (unhide HU8) b9)
     clear hu9 b9
     have HE := hide (So.equal_set _ _ S S w9 (unhide HU9).arg (unhide HV).arg (by omega))
     rw [decide_eq_true rfl] at HE
     go_wp2_with fail
     refine (unhide HE).mono ?_
     rintro e w10 ⟨rfl, b10⟩
     have HB10 := hide (btr2 (unhide HB9) b10)
     have HC := hide (So.count_any _ S w10 (fnx_up (unhide HV) b10).arg (by omega))
     rw [hset] at HC
     have hpos : (0 : Int) < (S.length : Int) := by have := List.length_pos_iff.2 hne; omega
     clear b10
     go_wp2_with fail
     refine (unhide HC).mono ?_
     rintro e w11 ⟨rfl, b11⟩
     have HB11 := hide (btr2 (unhide HB10) b11)
     clear b11
     go_wp2_with fail
     go_ret
     exact ⟨by simp; omega, unhide HB11⟩
   ·clear hal hna
    go_enter Tryz.func7, Tryz.ntmps7
    go_wp2_with fail
    refine (unhide HW).mono ?_
    rintro e w1 ⟨rfl, b1⟩
    have HB1 := hide b1
    have HR := hide (unhide HRD w1 b1)
    clear b1
    go_wp2_with fail
    refine (unhide HR).mono ?_
    rintro e w2 ⟨b2, hx⟩
    obtain ⟨B, P, hB, rfl, hF⟩ := hx
    unfold zF
    have HB2 := hide ((btr2 (unhide HB1) b2).alloc (btr2 (unhide HB1) b2).size (.cells #[.int .i64 0, .int .i64 0, .int .i64 0] 25))
    have HF2 := hide (hF.below ((Below.refl _ w2).alloc (Nat.le_refl _) (.cells #[.int .i64 0, .int .i64 0, .int .i64 0] 25)))
    have HBB := hide (Nat.le_trans (unhide HB1).size hB)
    clear hF hB b2
    obtain ⟨u, w3, hrun, hu, b3⟩ := unhide HNW _ (unhide HB2)
    have HRUN := hide hrun
    have HB3 := hide (btr2 (unhide HB2) b3)
    have HF3 := hide ((unhide HF2).below b3)
    have HWR := hide (write_any (unhide HF3) u L hu hb hn (unhide HP _ (unhide HB3)))
    rw [hwv] at HWR
    clear hrun b3 hu HF2
    go_wp2_with (at_builtin; refine wAppend rfl _ _ 44 44 rfl _ _ rfl rfl u w3 (unhide HRUN) ?_)
    refine (unhide HWR).mono ?_
    rintro e w4 ⟨rfl, b4⟩
    have HB4 := hide (btr2 (unhide HB3) b4)
    have HF4 := hide ((unhide HF3).below b4)
    clear b4 HF3
    obtain ⟨m1, m2, m3⟩ := made_back hne hsm hwv2 (unhide HF4).ok.ali
    rw [hset] at m2
    have HFL5 := hide (flags_any (unhide HF4) (unhide HMX B (unhide HBB) _ (unhide HB4)) t ht)
    rw [hc0] at HFL5
    generalize hSS : flgS F t.data.toList = S at *
    go_wp2_with fail
    refine (unhide HFL5).mono ?_
    rintro e w5 ⟨u5, rfl, hu5, b5⟩
    have HB5 := hide (btr2 (unhide HB4) b5)
    have HF5 := hide ((unhide HF4).below b5)
    have HU5 := hide hu5
    obtain ⟨au5, cu5, rfl, -⟩ := hu5.arg
    clear hu5 b5
    have HW2 := hide (write_any (unhide HF5) _ S (unhide HU5).arg hsm (by omega) (unhide HP _ (unhide HB5)))
    rw [hwv2] at HW2
    go_wp2_with fail
    refine (unhide HW2).mono ?_
    rintro e w6 ⟨rfl, b6⟩
    have HB6 := hide (btr2 (unhide HB5) b6)
    have HF6 := hide ((unhide HF5).below b6)
    have HU6 := hide (fnx_up (unhide HU5) b6)
    clear b6
    have HFL7 := hide (flags_any (unhide HF6) (unhide HMX B (unhide HBB) _ (unhide HB6)) t2 m3)
    rw [m1, m2] at HFL7
    go_wp2_with fail
    refine (unhide HFL7).mono ?_
    rintro e w7 ⟨u7, rfl, hu7, b7⟩
    have HB7 := hide (btr2 (unhide HB6) b7)
    have HF7 := hide ((unhide HF6).below b7)
    have HU7 := hide hu7
    obtain ⟨au7, cu7, rfl, -⟩ := hu7.arg
    have HV := hide (fnx_up (unhide HU6) b7)
    clear hu7 b7
    have HE := hide (So.equal_set _ _ S S w7 (unhide HU7).arg (unhide HV).arg (by omega))
    rw [decide_eq_true rfl] at HE
    go_wp2_with fail
    refine (unhide HE).mono ?_
    rintro e w8 ⟨rfl, b8⟩
    have HB8 := hide (btr2 (unhide HB7) b8)
    have HC := hide (So.count_any _ S w8 (fnx_up (unhide HV) b8).arg (by omega))
    rw [hset] at HC
    have hpos : (0 : Int) < (S.length : Int) := by have := List.length_pos_iff.2 hne; omega
    clear b8
    go_wp2_with fail
    refine (unhide HC).mono ?_
    rintro e w9 ⟨rfl, b9⟩
    have HB9 := hide (btr2 (unhide HB8) b9)
    clear b9
    go_wp2_with fail
    go_ret
    exact ⟨by simp; omega, unhide HB9⟩
  ·have hS0 := read_none hc0
   by_cases hc1 : c1 = 0
   ·subst hc1
    by_cases hL : L = []
    ·have hl0 : ¬ (0 : Int) < (L.length : Int) := by rw [hL]; simp
     clear hal hna hL
     go_enter Tryz.func7, Tryz.ntmps7
     go_wp2_with fail
     refine (unhide HW).mono ?_
     rintro e w1 ⟨rfl, b1⟩
     have HB1 := hide b1
     have HR := hide (unhide HRD w1 b1)
     clear b1
     go_wp2_with fail
     refine (unhide HR).mono ?_
     rintro e w2 ⟨b2, hx⟩
     obtain ⟨B, P, hB, rfl, hF⟩ := hx
     unfold zF
     have HB2 := hide ((btr2 (unhide HB1) b2).alloc (btr2 (unhide HB1) b2).size (.cells #[.int .i64 0, .int .i64 0, .int .i64 0] 25))
     have HF2 := hide (hF.below ((Below.refl _ w2).alloc (Nat.le_refl _) (.cells #[.int .i64 0, .int .i64 0, .int .i64 0] 25)))
     have HBB := hide (Nat.le_trans (unhide HB1).size hB)
     clear hF hB b2
     obtain ⟨u, w3, hrun, hu, b3⟩ := unhide HNW _ (unhide HB2)
     have HRUN := hide hrun
     have HB3 := hide (btr2 (unhide HB2) b3)
     have HF3 := hide ((unhide HF2).below b3)
     have HWR := hide (write_any (unhide HF3) u L hu hb hn (unhide HP _ (unhide HB3)))
     rw [hwv] at HWR
     clear hrun b3 hu HF2
     go_wp2_with (at_builtin; refine wAppend rfl _ _ 44 44 rfl _ _ rfl rfl u w3 (unhide HRUN) ?_)
     refine (unhide HWR).mono ?_
     rintro e w4 ⟨rfl, b4⟩
     have HB4 := hide (btr2 (unhide HB3) b4)
     have HF4 := hide ((unhide HF3).below b4)
     clear b4 HF3
     have HFL5 := hide (flags_any (unhide HF4) (unhide HMX B (unhide HBB) _ (unhide HB4)) t ht)
     rw [hS0] at HFL5
     generalize flgE F t.data.toList = ce at *
     go_wp2_with fail
     refine (unhide HFL5).mono ?_
     rintro e w5 ⟨u5, rfl, hu5, b5⟩
     have HB5 := hide (btr2 (unhide HB4) b5)
     have HF5 := hide ((unhide HF4).below b5)
     have HU5 := hide hu5
     obtain ⟨au5, cu5, rfl, -⟩ := hu5.arg
     clear hu5 b5
     go_wp2_with fail
     go_ret
     exact ⟨by simp, unhide HB5⟩
    ·have hl0 : (0 : Int) < (L.length : Int) := by have := List.length_pos_iff.2 hL; omega
     clear hal hna
     go_enter Tryz.func7, Tryz.ntmps7
     go_wp2_with fail
     refine (unhide HW).mono ?_
     rintro e w1 ⟨rfl, b1⟩
     have HB1 := hide b1
     have HR := hide (unhide HRD w1 b1)
     clear b1
     go_wp2_with fail
     refine (unhide HR).mono ?_
     rintro e w2 ⟨b2, hx⟩
     obtain ⟨B, P, hB, rfl, hF⟩ := hx
     unfold zF
     have HB2 := hide ((btr2 (unhide HB1) b2).alloc (btr2 (unhide HB1) b2).size (.cells #[.int .i64 0, .int .i64 0, .int .i64 0] 25))
     have HF2 := hide (hF.below ((Below.refl _ w2).alloc (Nat.le_refl _) (.cells #[.int .i64 0, .int .i64 0, .int .i64 0] 25)))
     have HBB := hide (Nat.le_trans (unhide HB1).size hB)
     clear hF hB b2
     obtain ⟨u, w3, hrun, hu, b3⟩ := unhide HNW _ (unhide HB2)
     have HRUN := hide hrun
     have HB3 := hide (btr2 (unhide HB2) b3)
     have HF3 := hide ((unhide HF2).below b3)
     have HWR := hide (write_any (unhide HF3) u L hu hb hn (unhide HP _ (unhide HB3)))
     rw [hwv] at HWR
     clear hrun b3 hu HF2
     go_wp2_with (at_builtin; refine wAppend rfl _ _ 44 44 rfl _ _ rfl rfl u w3 (unhide HRUN) ?_)
     refine (unhide HWR).mono ?_
     rintro e w4 ⟨rfl, b4⟩
     have HB4 := hide (btr2 (unhide HB3) b4)
     have HF4 := hide ((unhide HF3).below b4)
     clear b4 HF3
     obtain ⟨hE1, hS1, hz1⟩ := made_back hL hb hwv (unhide HF4).ok.ali
     have HFL5 := hide (flags_any (unhide HF4) (unhide HMX B (unhide HBB) _ (unhide HB4)) t1 hz1)
     rw [hE1, hS1] at HFL5
     go_wp2_with fail
     refine (unhide HFL5).mono ?_
     rintro e w5 ⟨u5, rfl, hu5, b5⟩
     have HB5 := hide (btr2 (unhide HB4) b5)
     have HF5 := hide ((unhide HF4).below b5)
     have HU5 := hide hu5
     obtain ⟨au5, cu5, rfl, -⟩ := hu5.arg
     clear hu5 b5
     have HE6 := hide (So.equal_set _ _ (So.setOf L) L w5 (unhide HU5).arg (unhide HAR _ (unhide HB5)) (by have := (So.setOf_set L).len; omega))
     rw [decide_eq_true (So.setOf_congr fun _ => So.mem_setOf)] at HE6
     go_wp2_with fail
     refine (unhide HE6).mono ?_
     rintro e w6 ⟨rfl, b6⟩
     have HB6 := hide (btr2 (unhide HB5) b6)
     have HF6 := hide ((unhide HF5).below b6)
     have HFL7 := hide (flags_any (unhide HF6) (unhide HMX B (unhide HBB) _ (unhide HB6)) t ht)
     rw [hS0] at HFL7
     generalize flgE F t.data.toList = ce at *
     go_wp2_with fail
     refine (unhide HFL7).mono ?_
     rintro e w7 ⟨u7, rfl, hu7, b7⟩
     have HB7 := hide (btr2 (unhide HB6) b7)
     have HF7 := hide ((unhide HF6).below b7)
     have HU7 := hide hu7
     obtain ⟨au7, cu7, rfl, -⟩ := hu7.arg
     clear hu7 b7
     go_wp2_with fail
     go_ret
     exact ⟨by simp, unhide HB7⟩
   ·clear hal hna
    go_enter Tryz.func7, Tryz.ntmps7
    go_wp2_with fail
    refine (unhide HW).mono ?_
    rintro e w1 ⟨rfl, b1⟩
    have HB1 := hide b1
    have HR := hide (unhide HRD w1 b1)
    clear b1
    go_wp2_with fail
    refine (unhide HR).mono ?_
    rintro e w2 ⟨b2, hx⟩
    obtain ⟨B, P, hB, rfl, hF⟩ := hx
    unfold zF
    have HB2 := hide ((btr2 (unhide HB1) b2).alloc (btr2 (unhide HB1) b2).size (.cells #[.int .i64 0, .int .i64 0, .int .i64 0] 25))
    have HF2 := hide (hF.below ((Below.refl _ w2).alloc (Nat.le_refl _) (.cells #[.int .i64 0, .int .i64 0, .int .i64 0] 25)))
    have HBB := hide (Nat.le_trans (unhide HB1).size hB)
    clear hF hB b2
    obtain ⟨u, w3, hrun, hu, b3⟩ := unhide HNW _ (unhide HB2)
    have HRUN := hide hrun
    have HB3 := hide (btr2 (unhide HB2) b3)
    have HF3 := hide ((unhide HF2).below b3)
    have HWR := hide (write_any (unhide HF3) u L hu hb hn (unhide HP _ (unhide HB3)))
    rw [hwv] at HWR
    clear hrun b3 hu HF2
    go_wp2_with (at_builtin; refine wAppend rfl _ _ 44 44 rfl _ _ rfl rfl u w3 (unhide HRUN) ?_)
    refine (unhide HWR).mono ?_
    rintro e w4 ⟨rfl, b4⟩
    have HB4 := hide (btr2 (unhide HB3) b4)
    have HF4 := hide ((unhide HF3).below b4)
    clear b4 HF3
    have HFL5 := hide (flags_any (unhide HF4) (unhide HMX B (unhide HBB) _ (unhide HB4)) t ht)
    rw [hS0] at HFL5
    generalize flgE F t.data.toList = ce at *
    go_wp2_with fail
    refine (unhide HFL5).mono ?_
    rintro e w5 ⟨u5, rfl, hu5, b5⟩
    have HB5 := hide (btr2 (unhide HB4) b5)
    have HF5 := hide ((unhide HF4).below b5)
    have HU5 := hide hu5
    obtain ⟨au5, cu5, rfl, -⟩ := hu5.arg
    clear hu5 b5
    go_wp2_with fail
    go_ret
    exact ⟨by simp, unhide HB5⟩
end Af
end Go.Proofs.YtmhegbeemgagkaaGreatDoor
