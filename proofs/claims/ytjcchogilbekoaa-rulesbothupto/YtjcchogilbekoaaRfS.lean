/- Contract: the document's Read: the loop over the pieces. -/
import Derived.Test.YtjcchogilbekoaaRfR
namespace Go.Proofs.Ytjcchogilbekoaa
open Go.RowKit
namespace Pt
open Cd

theorem ref_push {w wr w1 : World} {e size : Nat} {v : Value} {n : Nat} {xs : List Value} {o : Obj} (hown : wr.ownsRow w.heap.size e size v n xs) (hB : Below w.heap.size w wr) (hg : (wr.alloc o).grownBy w1 v.ownBlock) : Below w.heap.size w w1 :=
  (hB.alloc hB.size o).grown hg (by have := hB.size; simp; omega) (fun k e => (hown.lt k e).1)
theorem one_new (W : World) (u : Value) (t : TypeId) : ∀ j x, [u][j]? = some x → (W.alloc (.cells #[u] t)).cell? ((⟨W.heap.size, 0, none⟩ : Addr).add j) = some x := new_cells W #[u] t

set_option maxHeartbeats 1000000 in
set_option maxRecDepth 100000 in
theorem refRead_loop (s : ByteArray) (w : World) (h0 : s.data.toList ≠ []) (hl : s.size ≤ 512) (h2 : s.data.toList ≠ [46]) :
    Calls Try.prog 30 #[.string s] w fun e w' => ∃ v, e = .returned (.tuple #[v, .int .i64 ((rd s.data.toList).2 : Nat)]) ∧ RefP w.heap.size w' v (rd s.data.toList).1 ∧ Below w.heap.size w w' := by
  obtain ⟨i0, hi, hz0, hz1, hz2⟩ := info_parts infoRI
  have hsl : s.data.toList.length = s.size := by simp
  have HBAD : Hid (pcs s.data.toList = none → rd s.data.toList = ([], 41)) := fun h => rd_bad h0 (by omega) h2 h
  have HMANY : Hid (∀ P, pcs s.data.toList = some P → 16 < P.length → rd s.data.toList = ([], 42)) := fun P h h3 => rd_many h0 (by omega) h2 h h3
  have HFEW : Hid (∀ P, pcs s.data.toList = some P → P.length ≤ 16 → rd s.data.toList = (P, 0)) := fun P h h3 => rd_few h0 (by omega) h2 h h3
  have HSN : Hid (∀ (W : World) u (P : List (List UInt8)) p, W.ownsRow w.heap.size 69 1 u (P.length + 1) (txt P ++ [.string (str p)]) → RefP w.heap.size W u (P ++ [p])) := fun W u P p h => by
    rw [txt_snoc] at h
    unfold RefP
    simpa using h
  have HCL : Hid (∀ i W, i ≤ s.size → Calls Try.prog 40 #[.string s, .int .i64 (i : Nat)] W fun e w' => e = .returned (.int .i64 (clo s.data.toList i)) ∧ w' = W) := fun i W h => closing_any s i W (by unfold maxLen; omega) h
  have HSTEP : Hid (∀ (P : List (List UInt8)) i j p, cut1 (s.data.toList.drop i) = some (p, s.data.toList.drop j) → (pcs (s.data.toList.drop i)).map (P ++ ·) = pcs s.data.toList → (pcs (s.data.toList.drop j)).map ((P ++ [p]) ++ ·) = pcs s.data.toList) := fun P i j p hc h => by
    rw [pcs_cut hc] at h
    rw [← h, Option.map_map]
    congr 1
    funext x
    simp
  have HFAIL : Hid (∀ (P : List (List UInt8)) i, i < s.size → cut1 (s.data.toList.drop i) = none → (pcs (s.data.toList.drop i)).map (P ++ ·) = pcs s.data.toList → pcs s.data.toList = none) := fun P i hi hc h => by
    rw [pcs_bad (by rw [drop_cons s i hi]; simp) hc] at h
    simpa using h.symm
  have HDONE : Hid (∀ (P : List (List UInt8)) i, s.size ≤ i → (pcs (s.data.toList.drop i)).map (P ++ ·) = pcs s.data.toList → pcs s.data.toList = some P) := fun P i hi h => by
    rw [List.drop_of_length_le (by omega), pcs_nil] at h
    simpa using h.symm
  have hsz1 : 1 ≤ s.size := by
    rcases Nat.eq_zero_or_pos s.size with e | e
    · exact absurd (List.eq_nil_of_length_eq_zero (by omega)) h0
    · exact e
  have hsd : (s.toList == [46]) = false := by rw [ByteArray.toList_eq, beq_eq_false_iff_ne]; exact h2
  have hlz : ¬ (512 : Int) < (s.size : Int) := by omega
  have hse : ¬ s = ByteArray.empty := fun e => h0 (by rw [e]; rfl)
  have hse2 : ((s.size : Int) == 0) = false := by rw [beq_eq_false_iff_ne]; omega
  have HZ : Hid ((pcs (s.data.toList.drop 0)).map ([] ++ ·) = pcs s.data.toList) := hide (by simp)
  clear h0 h2 hsl
  generalize rd s.data.toList = RD at *
  go_enter Try.func30, Try.ntmps30
  go_wp2
  go_loopg [4, 5] s.size (fun kk s4 s5 wr => ∃ (i : Nat) (P : List (List UInt8)) (v : Value), s5 = .int .i64 i ∧ v = s4 ∧ i ≤ s.size ∧ s.size - i ≤ kk ∧ P.length ≤ i ∧ Hid (RefP w.heap.size wr v P) ∧ Hid ((pcs (s.data.toList.drop i)).map (P ++ ·) = pcs s.data.toList) ∧ Hid (Below w.heap.size w wr))
  case atStart => exact ⟨0, [], _, rfl, rfl, by omega, by omega, by simp, refP_nil _ _, HZ, Below.refl _ _⟩
  case round =>
    obtain ⟨i, P, v, rfl, rfl, hi1, hk, hP, HR, HE, HB⟩ := hrel
    by_cases hlt : i < s.size
    · have hltz : (i : Int) < (s.size : Int) := by omega
      by_cases hc : s[i] = 91
      · have HC1 := hide (unhide HCL i wr (by omega))
        rcases piece_brack s i hlt hc with ⟨e1, e2⟩ | ⟨k, e1, hik, hks, hcase⟩
        · rw [e1] at HC1
          have HRD := hide (unhide HBAD (unhide HFAIL P i hlt e2 (unhide HE)))
          clear e1 e2
          go_wp2_with (go_at_call 40; refine (unhide HC1).mono ?_; rintro e w1 ⟨rfl, rfl⟩)
          go_ret2
          exact ⟨_, by rw [unhide HRD]; rfl, by rw [unhide HRD]; exact refP_nil _ _, unhide HB⟩
        · rw [e1] at HC1
          clear e1
          have hkz0 : ¬ (k : Int) < 0 := by omega
          rcases hcase with ⟨ek, e2⟩ | ⟨ek, ⟨h1s, e94⟩, e2⟩ | ⟨ek, e94, p, e2, hex⟩
          · have HRD := hide (unhide HBAD (unhide HFAIL P i hlt e2 (unhide HE)))
            have hkz : (k : Int) = (i : Int) + 1 := by omega
            clear e2 ek
            go_wp2_with (go_at_call 40; refine (unhide HC1).mono ?_; rintro e w1 ⟨rfl, rfl⟩)
            go_ret2
            exact ⟨_, by rw [unhide HRD]; rfl, by rw [unhide HRD]; exact refP_nil _ _, unhide HB⟩
          · have HRD := hide (unhide HBAD (unhide HFAIL P i hlt e2 (unhide HE)))
            have hkz : (k : Int) = (i : Int) + 2 := by omega
            have h1sz : (i : Int) + 1 < (s.size : Int) := by omega
            have hkn : ¬ (k : Int) = (i : Int) + 1 := by omega
            clear e2 ek
            go_wp2_with (go_at_call 40; refine (unhide HC1).mono ?_; rintro e w1 ⟨rfl, rfl⟩)
            go_ret2
            exact ⟨_, by rw [unhide HRD]; rfl, by rw [unhide HRD]; exact refP_nil _ _, unhide HB⟩
          · have HE2 := hide (unhide HSTEP P i (k + 1) p e2 (unhide HE))
            have hkn : ¬ (k : Int) = (i : Int) + 1 := by omega
            clear e2
            by_cases h2k : k = i + 2
            · obtain ⟨h1s, h94⟩ := e94 h2k
              have h94z : ((s[i + 1].toNat : Int) == 94) = false := by rw [beq_eq_false_iff_ne]; exact ne_int h94
              have hkz : ((k : Int) == (i : Int) + 2) = true := by rw [beq_iff_eq]; omega
              have hkb : ((k : Int) == (i : Int) + 1) = false := by rw [beq_eq_false_iff_ne]; omega
              have h1sz : (i : Int) + 1 < (s.size : Int) := by omega
              clear e94 h94 ek h2k hkn
              go_wp2_with (first | (go_at_call 40; refine (unhide HC1).mono ?_; rintro e w1 ⟨rfl, hw1⟩; obtain rfl := hw1.symm) | (at_builtin; refine wpList_append_own _ rfl _ _ 51 rfl w.heap.size 69 i0 (.agg #[.string ByteArray.empty]) 1 16 Try.underlying51 hi hz0 hz1 hz2 rfl (by decide) _ _ _ rfl ((unhide HR).alloc _) ⟨wr.heap.size, 0, none⟩ 1 1 [.string (str p)] rfl rfl (one_new _ _ _) (fun x hx => by simp at hx; subst hx; rfl) (by unfold maxLen; omega) (by omega) (by have := (unhide HB).size; simp; omega) ?_; intro v' w2 hown' hgrow hnil; clear hnil; have HO2 := hide (unhide HSN _ _ _ _ hown'); have HB2 := hide (ref_push (unhide HR) (unhide HB) hgrow); clear hown' hgrow))
              go_roundg (s.size - (k + 1))
              case rel => exact ⟨k + 1, P ++ [p], v', by go_num, rfl, by omega, by omega, by simp; omega, HO2, HE2, HB2⟩
              case measure => omega
            · have hkz : ((k : Int) == (i : Int) + 2) = false := by rw [beq_eq_false_iff_ne]; omega
              have hkb : ((k : Int) == (i : Int) + 1) = false := by rw [beq_eq_false_iff_ne]; omega
              clear e94 ek h2k hkn
              go_wp2_with (first | (go_at_call 40; refine (unhide HC1).mono ?_; rintro e w1 ⟨rfl, hw1⟩; obtain rfl := hw1.symm) | (at_builtin; refine wpList_append_own _ rfl _ _ 51 rfl w.heap.size 69 i0 (.agg #[.string ByteArray.empty]) 1 16 Try.underlying51 hi hz0 hz1 hz2 rfl (by decide) _ _ _ rfl ((unhide HR).alloc _) ⟨wr.heap.size, 0, none⟩ 1 1 [.string (str p)] rfl rfl (one_new _ _ _) (fun x hx => by simp at hx; subst hx; rfl) (by unfold maxLen; omega) (by omega) (by have := (unhide HB).size; simp; omega) ?_; intro v' w2 hown' hgrow hnil; clear hnil; have HO2 := hide (unhide HSN _ _ _ _ hown'); have HB2 := hide (ref_push (unhide HR) (unhide HB) hgrow); clear hown' hgrow))
              go_roundg (s.size - (k + 1))
              case rel => exact ⟨k + 1, P ++ [p], v', by go_num, rfl, by omega, by omega, by simp; omega, HO2, HE2, HB2⟩
              case measure => omega
      · obtain ⟨e2, hex⟩ := piece_plain s i hlt hc
        have HE2 := hide (unhide HSTEP P i (i + 1) _ e2 (unhide HE))
        have hcz : ¬ (s[i].toNat : Int) = 91 := ne_int hc
        have HC1 := hide trivial
        clear e2 hc
        generalize hp : [s[i]] = p at *
        clear hp
        go_wp2_with (first | (at_builtin; refine wpList_append_own _ rfl _ _ 51 rfl w.heap.size 69 i0 (.agg #[.string ByteArray.empty]) 1 16 Try.underlying51 hi hz0 hz1 hz2 rfl (by decide) _ _ _ rfl ((unhide HR).alloc _) ⟨wr.heap.size, 0, none⟩ 1 1 [.string (str p)] rfl rfl (one_new _ _ _) (fun x hx => by simp at hx; subst hx; rfl) (by unfold maxLen; omega) (by omega) (by have := (unhide HB).size; simp; omega) ?_; intro v' w2 hown' hgrow hnil; clear hnil; have HO2 := hide (unhide HSN _ _ _ _ hown'); have HB2 := hide (ref_push (unhide HR) (unhide HB) hgrow); clear hown' hgrow))
        go_roundg (s.size - (i + 1))
        case rel => exact ⟨i + 1, P ++ [p], v', by go_num, rfl, by omega, by omega, by simp; omega, HO2, HE2, HB2⟩
        case measure => omega
    · have hltz : ¬ (i : Int) < (s.size : Int) := by omega
      have HP := hide (unhide HDONE P i (by omega) (unhide HE))
      obtain ⟨a, cap, rfl⟩ : ∃ a cap, v = .slice a P.length cap := by
        obtain ⟨_, ⟨e, e2⟩ | ⟨g, cap, cur, e, _⟩⟩ := unhide HR
        · exact ⟨none, 0, by rw [e, e2]⟩
        · exact ⟨_, cap, e⟩
      by_cases h16 : 16 < P.length
      · have HRD := hide (unhide HMANY P (unhide HP) h16)
        have h16z : (16 : Int) < (P.length : Int) := by omega
        go_wp2
        go_ret2
        exact ⟨_, by rw [unhide HRD]; rfl, by rw [unhide HRD]; exact refP_nil _ _, unhide HB⟩
      · have HRD := hide (unhide HFEW P (unhide HP) (by omega))
        have h16z : ¬ (16 : Int) < (P.length : Int) := by omega
        go_wp2
        go_ret2
        exact ⟨_, by rw [unhide HRD]; rfl, by rw [unhide HRD]; exact unhide HR, unhide HB⟩
end Pt
end Go.Proofs.Ytjcchogilbekoaa
