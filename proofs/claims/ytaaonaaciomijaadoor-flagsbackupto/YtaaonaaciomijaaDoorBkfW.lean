/- The walk of FlagsBack. -/
import Derived.Test.YtaaonaaciomijaaDoorBackM
import Derived.Test.YtaaonaaciomijaaDoorSt
namespace Go.Proofs.YtaaonaaciomijaaDoor
open Go.Sort Go.RowKit
namespace So
open Cut Shw
namespace BackF
set_option maxRecDepth 100000 in
set_option maxHeartbeats 8000000 in
theorem walk (kind : Int) (s : ByteArray) (w : World) (hs : s.size ≤ 1048576) (hM : MaxIs w) (hP : Pow w) :
    Calls Tryd.prog 7 #[.int .i64 kind, .string s] w fun e w' => e = .returned (.bool true) ∧ Go.RowKit.Below w.heap.size w w' := by
  have HMP : Hid (∀ W, Go.RowKit.Below w.heap.size w W → MaxIs W ∧ Pow W) := fun W hB => ⟨hM.below hB, hP.below hB⟩
  have HWK := hide (wakes_any w hM)
  have HRR := hide (fun W => refReadAll kind s W hs)
  by_cases hE : rE kind (dl s) = 0
  · obtain ⟨Z, hZ, hset, hb, hl, hsE, hsT, hrE, hrS⟩ := back kind (dl s) hE
    have HR1 : Hid (∀ W, MaxIs W → Calls Tryd.prog 11 #[.int .i64 kind, .string s] W fun e w' => ∃ u, e = .returned (.tuple #[u, .int .i64 0]) ∧ FArg w' u Z ∧ Go.RowKit.Below W.heap.size W w') := fun W h => by
      have h2 := readAll kind s W h hs
      rw [hE, hZ] at h2
      exact h2
    have HR0 : Hid (∀ W, Calls Tryd.prog 12 #[.int .i64 kind, .string s] W fun e w' => ∃ u, e = .returned (.tuple #[u, .int .i64 0]) ∧ IRow 0 w' u Z ∧ Go.RowKit.Below W.heap.size W w') := fun W => by
      have h2 := unhide HRR W
      rw [hE, hZ] at h2
      exact h2
    have HSH : Hid (∀ W u, Pow W → FArg W u Z → Calls Tryd.prog 14 #[.int .i64 kind, u] W fun e w' => e = .returned (.tuple #[.string (mk (text kind Z)), .int .i64 0]) ∧ Go.RowKit.Below W.heap.size W w') := fun W u h hA => by
      have h2 := show_any kind u Z W hA hb (by omega) h
      rw [hset, hsE, hsT] at h2
      exact h2
    have HR2 : Hid (∀ W, MaxIs W → Calls Tryd.prog 11 #[.int .i64 kind, .string (mk (text kind Z))] W fun e w' => ∃ u, e = .returned (.tuple #[u, .int .i64 0]) ∧ FArg w' u Z ∧ Go.RowKit.Below W.heap.size W w') := fun W h => by
      have ht := text_len kind Z.length Z rfl hb
      have h2 := readAll kind (mk (text kind Z)) W h (by rw [mk_size]; omega)
      rw [dl_mk, hrE, hrS] at h2
      exact h2
    have HIS := hide (fun v u W n => is_below (n₀ := n) v u Z W)
    have HEQ : Hid (∀ u v W, FArg W u Z → FArg W v Z → Calls Tryd.prog 23 #[u, v] W fun e w' => e = .returned (.bool true) ∧ Go.RowKit.Below W.heap.size W w') := fun u v W h1 h2 => by
      have h3 := equal_set u v Z Z W h1 h2 (by omega)
      rw [decide_eq_true rfl] at h3
      exact h3
    have HTW : Hid (∀ u W, FArg W u Z → Calls Tryd.prog 15 #[u] W fun e w' => ∃ x, e = .returned x ∧ FArg w' x Z ∧ Go.RowKit.Below W.heap.size W w') := fun u W h => by
      refine (twin_any u Z W h (by omega)).mono ?_
      rintro e w' ⟨x, rfl, h1, _, h2⟩
      exact ⟨x, rfl, h1, h2⟩
    have HB := hide hb
    have T0 : Hid (Stt w w [] []) := ⟨Go.RowKit.Below.refl _ _, (fun p hp => by cases hp), (fun p hp => by cases hp), hM⟩
    clear HRR hE hZ hset hb hl hsE hsT hrE hrS hM hP
    generalize mk (text kind Z) = t at *
    go_enter Tryd.func7, Tryd.ntmps7
    go_wp2_with (first
      | (go_at_call 10; refine (unhide HWK).mono ?_; rintro e w1 ⟨rfl, hB⟩; have T1 := hide ((unhide T0).next hB); clear hB T0)
      | (go_at_call 12; refine (unhide HR0 _).mono ?_; rintro e w2 ⟨b0, rfl, hF, hB⟩; have T2 := hide ((unhide T1).pushI hB hF); clear hF hB T1)
      | (go_at_call 11; refine (unhide HR1 _ (unhide T2).2.2.2).mono ?_; rintro e w3 ⟨a, rfl, hF, hB⟩; have T3 := hide ((unhide T2).pushF hB hF); clear hF hB T2)
      | (go_at_call 14; refine (unhide HSH _ _ (unhide HMP _ (unhide T3).1).2 ((unhide T3).2.1 (a, Z) (by simp))).mono ?_; rintro e w4 ⟨rfl, hB⟩; have T4 := hide ((unhide T3).next hB); clear hB T3)
      | (go_at_call 11; refine (unhide HR2 _ (unhide T4).2.2.2).mono ?_; rintro e w5 ⟨b, rfl, hF, hB⟩; have T5 := hide ((unhide T4).pushF hB hF); clear hF hB T4)
      | (go_at_call 13; refine (unhide HIS b b0 _ 0 ((unhide T5).2.1 (b, Z) (by simp)) ((unhide T5).2.2.1 (b0, Z) (by simp)) (unhide HB)).mono ?_; rintro e w6 ⟨rfl, hB⟩; have T6 := hide ((unhide T5).next hB); clear hB T5)
      | (go_at_call 23; refine (unhide HEQ a b _ ((unhide T6).2.1 (a, Z) (by simp)) ((unhide T6).2.1 (b, Z) (by simp))).mono ?_; rintro e w7 ⟨rfl, hB⟩; have T7 := hide ((unhide T6).next hB); clear hB T6)
      | (go_at_call 15; refine (unhide HTW b _ ((unhide T7).2.1 (b, Z) (by simp))).mono ?_; rintro e w8 ⟨c, rfl, hF, hB⟩; have T8 := hide ((unhide T7).pushF hB hF); clear hF hB T7)
      | (go_at_call 14; refine (unhide HSH _ _ (unhide HMP _ (unhide T8).1).2 ((unhide T8).2.1 (c, Z) (by simp))).mono ?_; rintro e w9 ⟨rfl, hB⟩; have T9 := hide ((unhide T8).next hB); clear hB T8))
    go_ret
    exact ⟨rfl, (unhide T9).1⟩
  · have hne : (rE kind (dl s) != 0) = true := by rw [bne_iff_ne]; exact hE
    clear hE
    generalize rE kind (dl s) = E at *
    generalize rS kind (dl s) = R at *
    clear HMP hM hP
    go_enter Tryd.func7, Tryd.ntmps7
    go_wp2_with (first
      | (go_at_call 10; refine (unhide HWK).mono ?_; rintro e w1 ⟨rfl, hB⟩; have HB1 := hide hB; clear hB HWK)
      | (go_at_call 12; refine (unhide HRR _).mono ?_; rintro e w2 ⟨b0, rfl, hF, hB⟩; have HB2 := hide ((unhide HB1).trans (hB.mono (unhide HB1).size)); clear hF hB))
    go_ret
    exact ⟨rfl, unhide HB2⟩
end BackF
end So
end Go.Proofs.YtaaonaaciomijaaDoor
