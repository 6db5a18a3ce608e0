/- The walk of FlagsAlgebra. -/
import Derived.Test.YtaaonaaciomijabAllW
import Derived.Test.YtaaonaaciomijabAnyW
import Derived.Test.YtaaonaaciomijabDelW
import Derived.Test.YtaaonaaciomijabEqW
namespace Go.Proofs.Ytaaonaaciomijab
open Go.Sort Go.RowKit
namespace So
namespace Alg
/-! what the law asks of lists -/
def cnt (L : List Int) : Int := ((setOf L).length : Int)
def eqv (A B : List Int) : Bool := decide (setOf A = setOf B)
def anyB (T R : List Int) : Bool := T.any (hasB R)
def allB (T R : List Int) : Bool := T.all (hasB R)
theorem mem_kept {F S : List Int} {x : Int} : x ∈ kept F S ↔ x ∈ S ∧ x ∉ F := by
  unfold kept
  rw [List.mem_filter]
  constructor
  · rintro ⟨h1, h2⟩
    refine ⟨h1, fun h => ?_⟩
    rw [hasB_iff.2 h] at h2
    cases h2
  · rintro ⟨h1, h2⟩
    refine ⟨h1, ?_⟩
    cases h : hasB F x
    · rfl
    · exact absurd (hasB_iff.1 h) h2
theorem split_len (p : Int → Bool) : ∀ l : List Int, l.length = (l.filter p).length + (l.filter fun x => !p x).length
  | [] => rfl
  | x :: t => by
    have ih := split_len p t
    cases h : p x
    · simp [h]; omega
    · simp [h]; omega
theorem rising_filter {l : List Int} (h : l.Pairwise (· < ·)) (p : Int → Bool) : (l.filter p).Pairwise (· < ·) := h.filter p
theorem setOf_rising {l : List Int} (h : l.Pairwise (· < ·)) : setOf l = l := (IsSet.eq ⟨h, fun _ => Iff.rfl⟩).symm
theorem setOf_idem (S : List Int) : setOf (setOf S) = setOf S := setOf_rising (setOf_set S).1
theorem law1 (S T : List Int) : cnt (setOf (S ++ T)) = cnt S + cnt (kept S (setOf T)) := by
  have h := split_len (hasB S) (setOf (S ++ T))
  have e1 : (setOf (S ++ T)).filter (hasB S) = setOf S := rising_unique (rising_filter (setOf_set _).1 _) (setOf_set S).1 fun x => by
    rw [List.mem_filter, mem_setOf, mem_setOf, List.mem_append, hasB_iff]
    constructor
    · exact fun h => h.2
    · exact fun h => ⟨.inl h, h⟩
  have e2 : ((setOf (S ++ T)).filter fun x => !hasB S x) = kept S (setOf T) := rising_unique (rising_filter (setOf_set _).1 _) (rising_filter (setOf_set T).1 _) fun x => by
    show x ∈ kept S (setOf (S ++ T)) ↔ _
    rw [mem_kept, mem_kept, mem_setOf, mem_setOf, List.mem_append]
    constructor
    · rintro ⟨h1 | h1, h2⟩
      · exact absurd h1 h2
      · exact ⟨h1, h2⟩
    · exact fun h => ⟨.inr h.1, h.2⟩
  rw [e1, e2] at h
  have e3 : setOf (kept S (setOf T)) = kept S (setOf T) := setOf_rising (rising_filter (setOf_set T).1 _)
  unfold cnt
  rw [setOf_idem, e3, h]
  omega
theorem law2 (S T : List Int) : eqv (setOf (S ++ T)) (setOf (T ++ S)) = true := decide_eq_true (by
  rw [setOf_idem, setOf_idem]
  exact setOf_congr fun _ => by rw [List.mem_append, List.mem_append]; exact Or.comm)
theorem law3 (S T : List Int) : allB T (setOf (S ++ T)) = true := List.all_eq_true.2 fun _ hx => hasB_iff.2 (mem_setOf.2 (List.mem_append.2 (.inr hx)))
theorem law4 (S T : List Int) : anyB T (kept T (setOf (setOf (S ++ T)))) = false := by
  cases h : anyB T (kept T (setOf (setOf (S ++ T))))
  · rfl
  · obtain ⟨x, hx, h2⟩ := List.any_eq_true.1 h
    exact absurd hx (mem_kept.1 (hasB_iff.1 h2)).2
theorem law5 (S T : List Int) : eqv (kept T (setOf (setOf (S ++ T)))) (kept T (setOf S)) = true := decide_eq_true (setOf_congr fun x => by
  rw [mem_kept, mem_kept, mem_setOf, mem_setOf, mem_setOf, List.mem_append]
  constructor
  · rintro ⟨h1 | h1, h2⟩
    · exact ⟨h1, h2⟩
    · exact absurd h1 h2
  · exact fun h => ⟨.inl h.1, h.2⟩)
theorem law6 (B : List Int) : cnt (kept B (setOf B)) = 0 := by
  have : kept B (setOf B) = [] := by
    cases h : kept B (setOf B) with
    | nil => rfl
    | cons x t =>
      have hx : x ∈ kept B (setOf B) := by rw [h]; simp
      exact absurd (mem_setOf.1 (mem_kept.1 hx).1) (mem_kept.1 hx).2
  rw [this]
  rfl
theorem law0 : cnt (setOf [4, 9, 4]) = 2 := by decide
theorem kept_le (F S : List Int) : (kept F S).length ≤ S.length := List.length_filter_le _ _
theorem cnt_le (L : List Int) : 0 ≤ cnt L ∧ cnt L ≤ L.length := by
  have := (setOf_set L).len
  unfold cnt
  omega
/-- all that was made so far lies as it was -/
def St (w W : World) (L : List (Value × List Int)) : Prop := Go.RowKit.Below w.heap.size w W ∧ ∀ p ∈ L, FArg W p.1 p.2
theorem St.next {w W W' : World} {L : List (Value × List Int)} (h : St w W L) (hB : Go.RowKit.Below W.heap.size W W') : St w W' L := ⟨h.1.trans (hB.mono h.1.size), fun p hp => (h.2 p hp).below hB⟩
theorem St.push {w W W' : World} {L : List (Value × List Int)} {u : Value} {l : List Int} (h : St w W L) (hB : Go.RowKit.Below W.heap.size W W') (hu : FArg W' u l) : St w W' ((u, l) :: L) := ⟨(h.next hB).1, fun p hp => by
  rcases List.mem_cons.1 hp with rfl | hp
  · exact hu
  · exact (h.next hB).2 p hp⟩
theorem three_farg {W : World} (T : TypeId) : FArg (W.alloc (.cells #[.int .u16 4, .int .u16 9, .int .u16 4] T)) (.slice (some ⟨W.heap.size, 0, none⟩) 3 3) [4, 9, 4] := by
  refine ⟨_, 3, rfl, Nat.le_refl _, by simp [maxLen], (fun h => by cases h), fun _ => ⟨W.heap.size, 0, rfl, by simp, fun j z hz => ?_⟩⟩
  rw [World.cell?_alloc_at _ _ _ _ rfl]
  match j, hz with
  | 0, hz => simp at hz; subst hz; rfl
  | 1, hz => simp at hz; subst hz; rfl
  | 2, hz => simp at hz; subst hz; rfl
set_option maxRecDepth 100000 in
set_option maxHeartbeats 16000000 in
theorem walk (v t : Value) (S T : List Int) (w : World) (hS : FArg w v S) (hT : FArg w t T) (hn : S.length + T.length ≤ 1048576) :
    Calls Try.prog 3 #[v, t] w fun e w' => e = .returned (.bool true) ∧ Go.RowKit.Below w.heap.size w w' := by
  have hb1 := (setOf_set (S ++ T)).len
  have hb2 := (setOf_set (T ++ S)).len
  have hb3 := (setOf_set S).len
  have hb4 := (setOf_set T).len
  have hb5 := kept_le S (setOf T)
  have hb6 := kept_le T (setOf S)
  have hb7 := kept_le T (setOf (setOf (S ++ T)))
  have hb8 := kept_le (setOf (S ++ T)) (setOf (setOf (S ++ T)))
  have hb9 := (setOf_set (setOf (S ++ T))).len
  simp only [List.length_append] at hb1 hb2
  have hc1 := cnt_le S
  have hc2 := cnt_le (kept S (setOf T))
  have l0 := law0
  have l1 := law1 S T
  have l2 := law2 S T
  have l3 := law3 S T
  have l4 := law4 S T
  have l5 := law5 S T
  have l6 := law6 (setOf (S ++ T))
  have HT1 := hide (twin_any v S w hS (by omega))
  have HT2 : Hid (∀ W, Go.RowKit.Below w.heap.size w W → Calls Try.prog 4 #[t] W fun e w' => ∃ u, e = .returned u ∧ FArg w' u T ∧ Go.RowKit.Below W.heap.size W w') := fun W hB => by
    refine (twin_any t T W (hT.below hB) (by omega)).mono ?_
    rintro e w' ⟨u, rfl, h1, _, h2⟩
    exact ⟨u, rfl, h1, h2⟩
  have HOF : Hid (∀ W L, St w W L → Calls Try.prog 5 #[.slice (some ⟨W.heap.size, 0, none⟩) 3 3] (W.alloc (.cells #[.int .u16 4, .int .u16 9, .int .u16 4] 27)) fun e w' => ∃ u, e = .returned u ∧ FArg w' u (setOf [4, 9, 4]) ∧ St w w' L) := fun W L hL => by
    have hA := (Go.RowKit.Below.refl _ W).alloc (Nat.le_refl _) (.cells #[.int .u16 4, .int .u16 9, .int .u16 4] 27)
    refine (of_set _ [4, 9, 4] _ (three_farg _) (by decide)).mono ?_
    rintro e w' ⟨u, rfl, h1, h2⟩
    exact ⟨u, rfl, h1.arg, (hL.next hA).next h2⟩
  have HS0 : Hid (St w w []) := ⟨Go.RowKit.Below.refl _ _, fun p hp => by cases hp⟩
  have HCN : Hid (∀ u L W, FArg W u L → L.length ≤ 1099511627776 → Calls Try.prog 6 #[u] W fun e w' => e = .returned (.int .i64 (cnt L)) ∧ Go.RowKit.Below W.heap.size W w') := fun u L W h hl => count_any u L W h hl
  have HEQ : Hid (∀ u v A B W, FArg W u A → FArg W v B → A.length + B.length ≤ 1099511627776 → Calls Try.prog 9 #[u, v] W fun e w' => e = .returned (.bool (eqv A B)) ∧ Go.RowKit.Below W.heap.size W w') := fun u v A B W h1 h2 hl => equal_set u v A B W h1 h2 hl
  have HAL : Hid (∀ u v A B W, FArg W u A → FArg W v B → A.length + B.length ≤ 549755813888 → Calls Try.prog 10 #[u, v] W fun e w' => e = .returned (.bool (allB B A)) ∧ Go.RowKit.Below W.heap.size W w') := fun u v A B W h1 h2 hl => all_any u v A B W h1 h2 hl
  have HAN : Hid (∀ u v A B W, FArg W u A → FArg W v B → Calls Try.prog 11 #[u, v] W fun e w' => e = .returned (.bool (anyB B A)) ∧ w' = W) := fun u v A B W h1 h2 => any_any u v A B W h1 h2
  clear hS hT
  go_enter Try.func3, Try.ntmps3
  go_wp2_with (first
    | (go_at_call 4; first
      | (refine (unhide HT1).mono ?_; rintro e w1 ⟨x, rfl, hX, _, hB1⟩; have TA := hide ((unhide HS0).push hB1 hX); have HTX := hide (unhide HT2 _ hB1); clear hX hB1 HT1)
      | (refine (unhide HTX).mono ?_; rintro e w2 ⟨y, rfl, hY, hB2⟩; have TB := hide ((unhide TA).push hB2 hY); clear hY hB2 HTX TA))
    | (go_at_call 5; refine (unhide HOF _ _ (unhide TB)).mono ?_; rintro e w3 ⟨u3, rfl, hU3, hS3⟩; have HC0 := hide (unhide HCN u3 _ _ hU3 (by decide)); have TC := hide hS3; clear hU3 hS3 TB)
    | (go_at_call 6; refine (unhide HC0).mono ?_; rintro e w4 ⟨rfl, hB4⟩; have T0 := hide ((unhide TC).next hB4); clear hB4 HC0 TC))
  go_wp2_with (first
    | (go_at_call 7; refine (with_any x y S T _ ((unhide T0).2 (x, S) (by simp)) ((unhide T0).2 (y, T) (by simp)) (by first | omega | (simp; omega))).mono ?_; rintro e v0 ⟨b, rfl, hF, hB⟩; have T1 := hide ((unhide T0).push hB hF.arg); clear hF hB T0)
    | (go_at_call 6; refine (unhide HCN b (setOf (S ++ T)) _ ((unhide T1).2 (b, (setOf (S ++ T))) (by simp)) (by first | omega | (simp; omega))).mono ?_; rintro e v1 ⟨rfl, hB⟩; have T2 := hide ((unhide T1).next hB); clear hB T1)
    | (go_at_call 6; refine (unhide HCN x S _ ((unhide T2).2 (x, S) (by simp)) (by first | omega | (simp; omega))).mono ?_; rintro e v2 ⟨rfl, hB⟩; have T3 := hide ((unhide T2).next hB); clear hB T2)
    | (go_at_call 8; refine (without_any y x T S _ ((unhide T3).2 (y, T) (by simp)) ((unhide T3).2 (x, S) (by simp)) (by first | omega | (simp; omega))).mono ?_; rintro e v3 ⟨z, rfl, hF, hB⟩; have T4 := hide ((unhide T3).push hB hF.arg); clear hF hB T3)
    | (go_at_call 6; refine (unhide HCN z (kept S (setOf T)) _ ((unhide T4).2 (z, (kept S (setOf T))) (by simp)) (by first | omega | (simp; omega))).mono ?_; rintro e v4 ⟨rfl, hB⟩; have T5 := hide ((unhide T4).next hB); clear hB T4)
    | (go_at_call 7; refine (with_any y x T S _ ((unhide T5).2 (y, T) (by simp)) ((unhide T5).2 (x, S) (by simp)) (by first | omega | (simp; omega))).mono ?_; rintro e v5 ⟨q, rfl, hF, hB⟩; have T6 := hide ((unhide T5).push hB hF.arg); clear hF hB T5)
    | (go_at_call 9; refine (unhide HEQ b q (setOf (S ++ T)) (setOf (T ++ S)) _ ((unhide T6).2 (b, (setOf (S ++ T))) (by simp)) ((unhide T6).2 (q, (setOf (T ++ S))) (by simp)) (by first | omega | (simp; omega))).mono ?_; rintro e v6 ⟨rfl, hB⟩; have T7 := hide ((unhide T6).next hB); clear hB T6)
    | (go_at_call 10; refine (unhide HAL b y (setOf (S ++ T)) T _ ((unhide T7).2 (b, (setOf (S ++ T))) (by simp)) ((unhide T7).2 (y, T) (by simp)) (by first | omega | (simp; omega))).mono ?_; rintro e v7 ⟨rfl, hB⟩; have T8 := hide ((unhide T7).next hB); clear hB T7)
    | (go_at_call 8; refine (without_any b y (setOf (S ++ T)) T _ ((unhide T8).2 (b, (setOf (S ++ T))) (by simp)) ((unhide T8).2 (y, T) (by simp)) (by first | omega | (simp; omega))).mono ?_; rintro e v8 ⟨r, rfl, hF, hB⟩; have T9 := hide ((unhide T8).push hB hF.arg); clear hF hB T8)
    | (go_at_call 11; refine (unhide HAN r y (kept T (setOf (setOf (S ++ T)))) T _ ((unhide T9).2 (r, (kept T (setOf (setOf (S ++ T))))) (by simp)) ((unhide T9).2 (y, T) (by simp))).mono ?_; rintro e v9 ⟨rfl, hw⟩; obtain rfl := hw.symm; have T10 := hide (unhide T9); clear T9)
    | (go_at_call 8; refine (without_any x y S T _ ((unhide T10).2 (x, S) (by simp)) ((unhide T10).2 (y, T) (by simp)) (by first | omega | (simp; omega))).mono ?_; rintro e v10 ⟨p, rfl, hF, hB⟩; have T11 := hide ((unhide T10).push hB hF.arg); clear hF hB T10)
    | (go_at_call 9; refine (unhide HEQ r p (kept T (setOf (setOf (S ++ T)))) (kept T (setOf S)) _ ((unhide T11).2 (r, (kept T (setOf (setOf (S ++ T))))) (by simp)) ((unhide T11).2 (p, (kept T (setOf S))) (by simp)) (by first | omega | (simp; omega))).mono ?_; rintro e v11 ⟨rfl, hB⟩; have T12 := hide ((unhide T11).next hB); clear hB T11)
    | (go_at_call 8; refine (without_any b b (setOf (S ++ T)) (setOf (S ++ T)) _ ((unhide T12).2 (b, (setOf (S ++ T))) (by simp)) ((unhide T12).2 (b, (setOf (S ++ T))) (by simp)) (by first | omega | (simp; omega))).mono ?_; rintro e v12 ⟨o, rfl, hF, hB⟩; have T13 := hide ((unhide T12).push hB hF.arg); clear hF hB T12)
    | (go_at_call 6; refine (unhide HCN o (kept (setOf (S ++ T)) (setOf (setOf (S ++ T)))) _ ((unhide T13).2 (o, (kept (setOf (S ++ T)) (setOf (setOf (S ++ T))))) (by simp)) (by first | omega | (simp; omega))).mono ?_; rintro e v13 ⟨rfl, hB⟩; have T14 := hide ((unhide T13).next hB); clear hB T13))
  go_ret
  exact ⟨by rfl, (unhide T14).1⟩
end Alg
end So
end Go.Proofs.Ytaaonaaciomijab
