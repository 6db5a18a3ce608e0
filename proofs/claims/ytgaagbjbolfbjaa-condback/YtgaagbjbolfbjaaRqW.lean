/- Contract: the document's Equal; what a pattern's Equal says. -/
import Derived.Test.YtgaagbjbolfbjaaEqP
namespace Go.Proofs.Ytgaagbjbolfbjaa
open Go.RowKit
namespace Pt
open Cd

theorem getD_in {α : Type} {l : List α} {i : Nat} (d : α) (h : i < l.length) : l.getD i d = l[i] := by simp [List.getD, h]
theorem getD_out {α : Type} {l : List α} {i : Nat} (d : α) (h : l.length ≤ i) : l.getD i d = d := by simp [List.getD, List.getElem?_eq_none h]
theorem patEq_iff {P Q : List (List UInt8)} (hP : ∀ p ∈ P, Pc p) (hQ : ∀ p ∈ Q, Pc p) (h1 : P.length ≤ 16) (h2 : Q.length ≤ 16) : patEq (P.map adm) (Q.map adm) = true ↔ P.map adm = Q.map adm := by
  unfold patEq
  rw [List.all_eq_true]
  constructor
  · intro h
    have h3 : ∀ i, i < 16 → nth (P.map adm) i = nth (Q.map adm) i := fun i hi => (eqI_iff _ _).1 (h i (List.mem_range.2 hi))
    have ne : ∀ {R : List (List UInt8)}, (∀ p ∈ R, Pc p) → ∀ i, i < R.length → ∃ b, nth (R.map adm) i b = true := by
      intro R hR i hi
      obtain ⟨b, hb⟩ := pc_some (hR _ (List.getElem_mem hi))
      refine ⟨b, ?_⟩
      have : nth (R.map adm) i = adm R[i] := by simp [nth, List.getD, hi]
      rw [this]
      exact hb
    have no : ∀ {R : List (List UInt8)} i, R.length ≤ i → nth (R.map adm) i = fun _ => false := by
      intro R i hi
      unfold nth
      rw [getD_out _ (by simpa using hi)]
    have hlen : P.length = Q.length := by
      rcases Nat.lt_trichotomy P.length Q.length with hl | hl | hl
      · obtain ⟨b, hb⟩ := ne hQ P.length hl
        rw [← h3 _ (by omega), no P.length (Nat.le_refl _)] at hb
        cases hb
      · exact hl
      · obtain ⟨b, hb⟩ := ne hP Q.length hl
        rw [h3 _ (by omega), no Q.length (Nat.le_refl _)] at hb
        cases hb
    apply List.ext_getElem (by simpa using hlen)
    intro i hi1 hi2
    have hi1' : i < P.length := by simpa using hi1
    have := h3 i (by omega)
    unfold nth at this
    rw [getD_in _ hi1, getD_in _ hi2] at this
    exact this
  · intro e i _
    rw [e]
    exact (eqI_iff _ _).2 rfl
/-- the document's answer -/
def refEq (P Q : List (List UInt8)) : Bool := P.length == Q.length && (List.range P.length).all fun i => every.all fun b => adm (P.getD i []) b == adm (Q.getD i []) b
theorem refEq_iff (P Q : List (List UInt8)) : refEq P Q = true ↔ P.map adm = Q.map adm := by
  unfold refEq
  rw [Bool.and_eq_true, beq_iff_eq, List.all_eq_true]
  constructor
  · rintro ⟨hl, h⟩
    apply List.ext_getElem (by simpa using hl)
    intro i hi1 hi2
    have hi1' : i < P.length := by simpa using hi1
    have hi2' : i < Q.length := by simpa using hi2
    have h2 := h i (List.mem_range.2 hi1')
    rw [List.all_eq_true] at h2
    rw [List.getElem_map, List.getElem_map]
    funext b
    have h3 := beq_iff_eq.1 (h2 b (mem_every b))
    rw [getD_in _ hi1', getD_in _ hi2'] at h3
    exact h3
  · intro e
    have hl := congrArg List.length e
    simp only [List.length_map] at hl
    refine ⟨hl, fun i hi => ?_⟩
    have hi1 := List.mem_range.1 hi
    rw [List.all_eq_true]
    intro b _
    rw [beq_iff_eq, getD_in _ hi1, getD_in _ (by omega)]
    have h2 : (P.map adm)[i]'(by simpa using hi1) = (Q.map adm)[i]'(by simp; omega) := by simp only [e]
    rw [List.getElem_map, List.getElem_map] at h2
    rw [h2]
theorem patEq_ref {P Q : List (List UInt8)} (hP : ∀ p ∈ P, Pc p) (hQ : ∀ p ∈ Q, Pc p) (h1 : P.length ≤ 16) (h2 : Q.length ≤ 16) : patEq (P.map adm) (Q.map adm) = refEq P Q := by
  rw [Bool.eq_iff_iff, patEq_iff hP hQ h1 h2, refEq_iff]
theorem refEq_len {P Q : List (List UInt8)} (h : P.length ≠ Q.length) : refEq P Q = false := by
  unfold refEq
  rw [beq_eq_false_iff_ne.2 h, Bool.false_and]
theorem refEq_no {P Q : List (List UInt8)} {i : Nat} {b : UInt8} {p q : List UInt8} (hp : P[i]? = some p) (hq : Q[i]? = some q) (h : adm p b ≠ adm q b) : refEq P Q = false := by
  rw [Bool.eq_false_iff]
  intro e
  rw [refEq_iff] at e
  have h2 := congrArg (fun l => l[i]?) e
  simp only [List.getElem?_map, hp, hq, Option.map_some, Option.some.injEq] at h2
  exact h (by rw [h2])
theorem refEq_yes {P Q : List (List UInt8)} (hl : P.length = Q.length) (h : ∀ (i : Nat) p q, P[i]? = some p → Q[i]? = some q → ∀ k, k < 256 → adm p (bt k) = adm q (bt k)) : refEq P Q = true := by
  rw [refEq_iff]
  apply List.ext_getElem (by simpa using hl)
  intro i hi1 hi2
  have hi1' : i < P.length := by simpa using hi1
  have hi2' : i < Q.length := by simpa using hi2
  rw [List.getElem_map, List.getElem_map]
  funext b
  have h2 := h i P[i] Q[i] (List.getElem?_eq_getElem hi1') (List.getElem?_eq_getElem hi2') b.toNat (by have := b.toNat_lt; omega)
  have e : bt b.toNat = b := by simp [bt]
  rw [e] at h2
  exact h2
theorem bt_z {k : Nat} (h : k < 256) : ((bt k).toNat : Int) = (k : Int) := by rw [bt_toNat]; omega
theorem wrapu8 {k : Nat} (h : k < 256) : IntKind.u8.wrap (k : Int) = (k : Int) := by rw [IntKind.wrap_u8]; omega
theorem texts_cell {W : World} {a : Option Addr} {n cap : Nat} {P : List (List UInt8)} {i : Nat} {p : List UInt8} (h : TextsAt W (.slice a n cap) P) (hp : P[i]? = some p) : ∃ g, a = some ⟨g, 0, none⟩ ∧ g < W.heap.size ∧ W.cell? ⟨g, i, none⟩ = some (.string (str p)) := by
  rcases h with ⟨_, e⟩ | ⟨g, c2, e, h2, h3⟩
  · rw [e] at hp; simp at hp
  · injection e with e1 _ _
    exact ⟨g, e1, h2, h3 i p hp⟩
set_option maxHeartbeats 2000000 in
set_option maxRecDepth 100000 in
theorem refEqual_any (P Q : List (List UInt8)) (v u : Value) (w : World) (hP : ∀ p ∈ P, Pcs p) (hQ : ∀ p ∈ Q, Pcs p) (h1 : P.length ≤ 16) (hv : TextsAt w v P) (hu : TextsAt w u Q) :
    Calls Try.prog 21 #[v, u] w fun e w' => e = .returned (.bool (refEq P Q)) ∧ Below w.heap.size w w' := by
  obtain ⟨a, cap, rfl⟩ := texts_slice hv
  obtain ⟨a2, cap2, rfl⟩ := texts_slice hu
  by_cases hl : P.length = Q.length
  · obtain ⟨n, hn⟩ : ∃ n, n = P.length := ⟨_, rfl⟩
    have HNO : Hid (∀ (i : Nat) b p q, P[i]? = some p → Q[i]? = some q → adm p b ≠ adm q b → refEq P Q = false) := fun i b p q hp hq h => refEq_no hp hq h
    have HYES : Hid ((∀ (i : Nat) p q, P[i]? = some p → Q[i]? = some q → ∀ k, k < 256 → adm p (bt k) = adm q (bt k)) → refEq P Q = true) := fun h => refEq_yes hl h
    have HAD : Hid (∀ (i : Nat), i < n → ∃ p q, P[i]? = some p ∧ Q[i]? = some q ∧ Pcs p ∧ Pcs q) := fun i hi => ⟨P[i], Q[i], List.getElem?_eq_getElem _, List.getElem?_eq_getElem (by omega), hP _ (List.getElem_mem _), hQ _ (List.getElem_mem _)⟩
    have HNI : Hid (∀ (i : Nat) p, P[i]? = some p → i < n) := fun i p h => by have := (List.getElem?_eq_some_iff.1 h).1; omega
    generalize refEq P Q = RES at *
    have hnz : (n : Int) ≤ 16 := by omega
    rw [← hl, ← hn] at *
    have HV := hide hv
    have HU := hide hu
    clear hn hl hP hQ h1 hv hu
    go_enter Try.func21, Try.ntmps21
    go_wp2
    go_loopw [5] (fun x wr => ∃ i : Nat, i ≤ n ∧ x = .int .i64 i ∧ Hid (Below w.heap.size w wr) ∧ Hid (∀ (j : Nat) p q, j < i → P[j]? = some p → Q[j]? = some q → ∀ k, k < 256 → adm p (bt k) = adm q (bt k))) (fun x _ => n - (intOf x).toNat)
    case atStart => exact ⟨0, by omega, rfl, Below.refl _ _, fun j p q h => absurd h (by omega)⟩
    case round =>
      obtain ⟨i, hi, rfl, HB, HE⟩ := hrel
      by_cases hlt : i < n
      · have hltz : (i : Int) < (n : Int) := by omega
        obtain ⟨p, q, hp, hq, hpp, hqq⟩ := unhide HAD i hlt
        have HPI := hide hp
        have HQI := hide hq
        have HAP : Hid (∀ k W, k < 256 → Calls Try.prog 13 #[.agg #[.string (str p)], .int .u8 (k : Nat)] W fun e w' => e = .returned (.bool (adm p (bt k))) ∧ w' = W.alloc (.cells #[.string (str p)] 39)) := fun k W hk => by
          have := refAdmits_any p (bt k) W hpp
          rw [bt_z hk] at this
          exact this
        have HAQ : Hid (∀ k W, k < 256 → Calls Try.prog 13 #[.agg #[.string (str q)], .int .u8 (k : Nat)] W fun e w' => e = .returned (.bool (adm q (bt k))) ∧ w' = W.alloc (.cells #[.string (str q)] 39)) := fun k W hk => by
          have := refAdmits_any q (bt k) W hqq
          rw [bt_z hk] at this
          exact this
        obtain ⟨g, rfl, hg0, _⟩ := texts_cell (unhide HV) hp
        obtain ⟨g2, rfl, hg20, _⟩ := texts_cell (unhide HU) hq
        clear hp hq hpp hqq
        go_wp2
        obtain ⟨V0, hV0⟩ : ∃ V, V = wr := ⟨_, rfl⟩
        subst hV0
        go_loopw [6] (fun x wr => ∃ k : Nat, k ≤ 256 ∧ x = .int .i64 k ∧ Hid (Below w.heap.size w wr) ∧ Hid (∀ k', k' < k → adm p (bt k') = adm q (bt k'))) (fun x _ => 256 - (intOf x).toNat)
        case atStart => exact ⟨0, by omega, rfl, HB, fun k h => absurd h (by omega)⟩
        case round =>
          obtain ⟨k, hk, rfl, HB2, HK⟩ := hrel
          by_cases hltk : k < 256
          · have hltkz : (k : Int) < 256 := by omega
            have hwr := wrapu8 hltk
            obtain ⟨g', e1, hg, hc1⟩ := texts_cell ((unhide HV).below (unhide HB2)) (unhide HPI)
            injection e1 with e1; injection e1 with e1; subst e1
            obtain ⟨g2', e2, hg2, hc2⟩ := texts_cell ((unhide HU).below (unhide HB2)) (unhide HQI)
            injection e2 with e2; injection e2 with e2; subst e2
            have HA1 := hide (fun W => unhide HAP k W hltk)
            have HA2 := hide (fun W => unhide HAQ k W hltk)
            by_cases he : adm p (bt k) = adm q (bt k)
            · have HEK := hide he
              rw [he] at HA1
              clear he
              generalize adm q (bt k) = x at HA1 HA2
              generalize str p = TP at *
              generalize str q = TQ at *
              cases x
              all_goals
                go_wp2_with fail
                refine (unhide HA1 _).mono ?_
                rintro e W1 ⟨rfl, rfl⟩
                go_wp2_with fail
                refine (unhide HA2 _).mono ?_
                rintro e W2 ⟨rfl, rfl⟩
                go_wp2
                go_roundw
                case rel => exact ⟨k + 1, by omega, by go_num, ((unhide HB2).alloc (unhide HB2).size _).alloc (by have := (unhide HB2).size; simp; omega) _, fun k' hk' => by rcases Nat.lt_or_eq_of_le (Nat.le_of_lt_succ hk') with h | h; exact unhide HK k' h; rw [h]; exact unhide HEK⟩
                case measure => simp [intOf]; omega
            · have HRES := hide (unhide HNO i (bt k) p q (unhide HPI) (unhide HQI) he)
              have hxy : (adm p (bt k) = true ∧ adm q (bt k) = false) ∨ (adm p (bt k) = false ∧ adm q (bt k) = true) := by
                cases h1 : adm p (bt k) <;> cases h2 : adm q (bt k) <;> simp_all
              clear he
              rcases hxy with ⟨e1, e2⟩ | ⟨e1, e2⟩
              all_goals
                rw [e1] at HA1
                rw [e2] at HA2
                clear e1 e2
                generalize str p = TP at *
                generalize str q = TQ at *
                go_wp2_with fail
                refine (unhide HA1 _).mono ?_
                rintro e W1 ⟨rfl, rfl⟩
                go_wp2_with fail
                refine (unhide HA2 _).mono ?_
                rintro e W2 ⟨rfl, rfl⟩
                go_wp2
                go_ret
                exact ⟨ret_bool (unhide HRES).symm, ((unhide HB2).alloc (unhide HB2).size _).alloc (by have := (unhide HB2).size; simp; omega) _⟩
          · have hltkz : ¬ (k : Int) < 256 := by omega
            have HK2 : Hid (∀ k', k' < 256 → adm p (bt k') = adm q (bt k')) := hide (fun k' h => unhide HK k' (by omega))
            clear HAP HAQ
            go_wp2
            go_roundw
            case rel => exact ⟨i + 1, by omega, by go_num, HB2, fun j p' q' hj hp' hq' k' hk' => by
              rcases Nat.lt_or_eq_of_le (Nat.le_of_lt_succ hj) with h | h
              · exact unhide HE j p' q' h hp' hq' k' hk'
              · subst h
                have e1 := Option.some.inj ((unhide HPI).symm.trans hp')
                have e2 := Option.some.inj ((unhide HQI).symm.trans hq')
                rw [← e1, ← e2]
                exact unhide HK2 k' hk'⟩
            case measure => simp [intOf]; omega
      · have hltz : ¬ (i : Int) < (n : Int) := by omega
        have HRES := hide (unhide HYES (fun j p q hp hq k hk => unhide HE j p q (by have := unhide HNI j p hp; omega) hp hq k hk))
        go_wp2
        go_ret
        exact ⟨ret_bool (unhide HRES).symm, unhide HB⟩
  · have hlz : ¬ (P.length : Int) = (Q.length : Int) := by omega
    rw [refEq_len hl]
    go_enter Try.func21, Try.ntmps21
    go_wp2
    go_ret
    exact ⟨rfl, Below.refl _ _⟩
end Pt
end Go.Proofs.Ytgaagbjbolfbjaa
