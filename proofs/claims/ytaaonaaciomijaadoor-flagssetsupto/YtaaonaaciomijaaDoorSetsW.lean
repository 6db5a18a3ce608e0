/- The walk of FlagsSets. -/
import Derived.Test.YtaaonaaciomijaaDoorSt
namespace Go.Proofs.YtaaonaaciomijaaDoor
open Go.Sort Go.RowKit
namespace So
namespace Sets
set_option maxRecDepth 100000 in
set_option maxHeartbeats 16000000 in
theorem walk (v t : Value) (S T : List Int) (f : Int) (w : World) (hS : FArg w v S) (hT : FArg w t T) (hbS : ∀ x ∈ S, 0 ≤ x ∧ x ≤ 65535) (hbT : ∀ x ∈ T, 0 ≤ x ∧ x ≤ 65535) (hf0 : 0 ≤ f) (hf1 : f ≤ 65535) (hn : S.length + T.length ≤ 1048576) (hM : MaxIs w) :
    Calls Tryd.prog 6 #[v, t, .int .u16 f] w fun e w' => e = .returned (.bool true) ∧ Go.RowKit.Below w.heap.size w w' := by
  have hS0 : ∀ x ∈ S, 0 ≤ x := fun x hx => (hbS x hx).1
  have hT0 : ∀ x ∈ T, 0 ≤ x := fun x hx => (hbT x hx).1
  have hbA : ∀ x ∈ S ++ T, 0 ≤ x ∧ x ≤ 65535 := fun x hx => by
    rcases List.mem_append.1 hx with hx | hx
    · exact hbS x hx
    · exact hbT x hx
  have hbK : ∀ x ∈ kept T (setOf S), 0 ≤ x ∧ x ≤ 65535 := fun x hx => hbS x (mem_setOf.1 (List.mem_filter.1 hx).1)
  have T0 : Hid (Stt w w [(v, S), (t, T)] []) := ⟨Go.RowKit.Below.refl _ _, fun p hp => by
    simp at hp
    rcases hp with rfl | rfl
    · exact hS
    · exact hT, (fun p hp => by cases hp), hM⟩
  have HCN : Hid (∀ u L W, FArg W u L → L.length ≤ 1099511627776 → Calls Tryd.prog 22 #[u] W fun e w' => e = .returned (.int .i64 (cntB L)) ∧ Go.RowKit.Below W.heap.size W w') := fun u L W h hl => count_any u L W h hl
  have HEQ : Hid (∀ u v A B W, FArg W u A → FArg W v B → A.length + B.length ≤ 1099511627776 → Calls Tryd.prog 23 #[u, v] W fun e w' => e = .returned (.bool (eqB A B)) ∧ Go.RowKit.Below W.heap.size W w') := fun u v A B W h1 h2 hl => equal_set u v A B W h1 h2 hl
  have HER : Hid (∀ u v A B W, IRow 0 W u A → IRow 0 W v B → (∀ x ∈ A, 0 ≤ x) → (∀ x ∈ B, 0 ≤ x) → A.length + B.length ≤ 1099511627776 → Calls Tryd.prog 24 #[u, v] W fun e w' => e = .returned (.bool (eqB A B)) ∧ Go.RowKit.Below W.heap.size W w') := fun u v A B W h1 h2 h3 h4 hl => refEqual_any u v A B W h1 h2 h3 h4 hl
  have hcnt : cntB S = ((setOf S).length : Int) := rfl
  clear hS hT hM
  go_enter Tryd.func6, Tryd.ntmps6
  go_wp2_with (first
    | (go_at_call 17; refine (ints_any v S _ ((unhide T0).2.1 (v, S) (by simp)) hbS (by omega)).mono ?_; rintro e v0 ⟨a, rfl, hF, hB⟩; have T1 := hide (( (unhide T0)).pushI hB hF); clear hF hB T0)
    | (go_at_call 17; refine (ints_any t T _ ((unhide T1).2.1 (t, T) (by simp)) hbT (by omega)).mono ?_; rintro e v1 ⟨b, rfl, hF, hB⟩; have T2 := hide (( (unhide T1)).pushI hB hF); clear hF hB T1)
    | (go_at_call 15; refine (twin_any v S _ ((unhide T2).2.1 (v, S) (by simp)) (by omega)).mono ?_; rintro e v2 ⟨x, rfl, hF, _, hB⟩; have T3 := hide (( (unhide T2)).pushF hB hF); clear hF hB T2)
    | (go_at_call 15; refine (twin_any t T _ ((unhide T3).2.1 (t, T) (by simp)) (by omega)).mono ?_; rintro e v3 ⟨y, rfl, hF, _, hB⟩; have T4 := hide (( (unhide T3)).pushF hB hF); clear hF hB T3)
    | (go_at_call 10; refine (wakes_any _ (unhide T4).2.2.2).mono ?_; rintro e v4 ⟨rfl, hB⟩; have T5 := hide (( (unhide T4)).next hB); clear hB T4)
    | (go_at_call 15; refine (twin_any v S _ ((unhide T5).2.1 (v, S) (by simp)) (by omega)).mono ?_; rintro e v5 ⟨p, rfl, hF, _, hB⟩; have T6 := hide (( (unhide T5)).pushF hB hF); clear hF hB T5)
    | (go_at_call 18; refine (of_set p S _ ((unhide T6).2.1 (p, S) (by simp)) (by omega)).mono ?_; rintro e v6 ⟨q, rfl, hF, hB⟩; have T7 := hide (( (unhide T6)).pushF hB hF.arg); clear hF hB T6)
    | (go_at_call 19; refine (refOf_any a S _ ((unhide T7).2.2.1 (a, S) (by simp)) hS0 (by omega)).mono ?_; rintro e v7 ⟨r, rfl, hF, hB⟩; have T8 := hide (( (unhide T7)).pushI hB hF); clear hF hB T7)
    | (go_at_call 13; refine (is_below q r (setOf S) _ ((unhide T8).2.1 (q, (setOf S)) (by simp)) ((unhide T8).2.2.1 (r, (setOf S)) (by simp)) (set_bounds hbS)).mono ?_; rintro e v8 ⟨rfl, hB⟩; have T9 := hide (( (unhide T8)).next hB); clear hB T8)
    | (go_at_call 20; refine (has_any x S f _ ((unhide T9).2.1 (x, S) (by simp))).mono ?_; rintro e v9 ⟨rfl, hB⟩; obtain rfl := hB.symm; have T10 := hide (unhide T9); clear T9)
    | (go_at_call 21; refine (refHas_any a S f _ ((unhide T10).2.2.1 (a, S) (by simp))).mono ?_; rintro e v10 ⟨rfl, hB⟩; obtain rfl := hB.symm; have T11 := hide (unhide T10); clear T10)
    | (go_at_call 22; refine (unhide HCN x S _ ((unhide T11).2.1 (x, S) (by simp)) (by omega)).mono ?_; rintro e v11 ⟨rfl, hB⟩; have T12 := hide (( (unhide T11)).next hB); clear hB T11)
    | (go_at_call 19; refine (refOf_any a S _ ((unhide T12).2.2.1 (a, S) (by simp)) hS0 (by omega)).mono ?_; rintro e v12 ⟨r2, rfl, hF, hB⟩; obtain ⟨ao9, n9, c9, rfl, hn9⟩ := hF.len; have T13 := hide (( (unhide T12)).pushI hB hF); clear hF hB T12)
    | (go_at_call 23; refine (unhide HEQ x y S T _ ((unhide T13).2.1 (x, S) (by simp)) ((unhide T13).2.1 (y, T) (by simp)) (by omega)).mono ?_; rintro e v13 ⟨rfl, hB⟩; have T14 := hide (( (unhide T13)).next hB); clear hB T13)
    | (go_at_call 24; refine (unhide HER a b S T _ ((unhide T14).2.2.1 (a, S) (by simp)) ((unhide T14).2.2.1 (b, T) (by simp)) hS0 hT0 (by omega)).mono ?_; rintro e v14 ⟨rfl, hB⟩; have T15 := hide (( (unhide T14)).next hB); clear hB T14)
    | (go_at_call 25; refine (with_any x y S T _ ((unhide T15).2.1 (x, S) (by simp)) ((unhide T15).2.1 (y, T) (by simp)) (by omega)).mono ?_; rintro e v15 ⟨q2, rfl, hF, hB⟩; have T16 := hide (( (unhide T15)).pushF hB hF.arg); clear hF hB T15)
    | (go_at_call 26; refine (refWith_any a b S T _ ((unhide T16).2.2.1 (a, S) (by simp)) ((unhide T16).2.2.1 (b, T) (by simp)) hS0 hT0 (by omega)).mono ?_; rintro e v16 ⟨r3, rfl, hF, hB⟩; have T17 := hide (( (unhide T16)).pushI hB hF); clear hF hB T16)
    | (go_at_call 13; refine (is_below q2 r3 (setOf (S ++ T)) _ ((unhide T17).2.1 (q2, (setOf (S ++ T))) (by simp)) ((unhide T17).2.2.1 (r3, (setOf (S ++ T))) (by simp)) (set_bounds hbA)).mono ?_; rintro e v17 ⟨rfl, hB⟩; have T18 := hide (( (unhide T17)).next hB); clear hB T17)
    | (go_at_call 27; refine (without_any x y S T _ ((unhide T18).2.1 (x, S) (by simp)) ((unhide T18).2.1 (y, T) (by simp)) (by omega)).mono ?_; rintro e v18 ⟨q3, rfl, hF, hB⟩; have T19 := hide (( (unhide T18)).pushF hB hF.arg); clear hF hB T18)
    | (go_at_call 28; refine (refWithout_any a b S T _ ((unhide T19).2.2.1 (a, S) (by simp)) ((unhide T19).2.2.1 (b, T) (by simp)) hS0 (by omega)).mono ?_; rintro e v19 ⟨r4, rfl, hF, hB⟩; have T20 := hide (( (unhide T19)).pushI hB hF); clear hF hB T19)
    | (go_at_call 13; refine (is_below q3 r4 (kept T (setOf S)) _ ((unhide T20).2.1 (q3, (kept T (setOf S))) (by simp)) ((unhide T20).2.2.1 (r4, (kept T (setOf S))) (by simp)) hbK).mono ?_; rintro e v20 ⟨rfl, hB⟩; have T21 := hide (( (unhide T20)).next hB); clear hB T20)
    | (go_at_call 29; refine (same_below x v S _ ((unhide T21).2.1 (x, S) (by simp)) ((unhide T21).2.1 (v, S) (by simp))).mono ?_; rintro e v21 ⟨rfl, hB⟩; have T22 := hide (( (unhide T21)).next hB); clear hB T21)
    | (go_at_call 29; refine (same_below y t T _ ((unhide T22).2.1 (y, T) (by simp)) ((unhide T22).2.1 (t, T) (by simp))).mono ?_; rintro e v22 ⟨rfl, hB⟩; have T23 := hide (( (unhide T22)).next hB); clear hB T22))
  go_ret
  exact ⟨by rfl, (unhide T23).1⟩
end Sets
end So
end Go.Proofs.YtaaonaaciomijaaDoor
