/- Layer 6: the document's Heads. -/
import Derived.Test.YtohfhkdhccpoaaaGreatDoorGr
import Derived.Test.YtohfhkdhccpoaaaGreatDoorUz
import Derived.Laws.DeepStrings4
namespace Go.Proofs.YtohfhkdhccpoaaaGreatDoor
open Go.RowKit
namespace Um
theorem drop_ne {s : ByteArray} {a : Nat} (h : a < s.size) : (lst s).drop a ≠ [] := fun e => by
  have := congrArg List.length e
  rw [List.length_drop, lst_len] at this
  simp at this
  omega
theorem un1_parts {R : List UInt8} (h : (rdN R).2.2 = 0) (h2 : ¬ 255 < (rdN R).1) (h3 : ¬ (R.drop (rdN R).2.1).length < (rdN R).1) : un1 R = (0, (R.drop (rdN R).2.1).take (rdN R).1, (R.drop (rdN R).2.1).drop (rdN R).1) := by
  unfold un1
  rw [if_neg (by simp [h]), if_neg h2, if_neg h3]
set_option maxRecDepth 100000 in
set_option maxHeartbeats 1000000 in
theorem heads_any (s : ByteArray) (w : World) (hs : s.size ≤ 1073741824) (Ev : Int) (XX : List (List UInt8)) (HEv : Hid (((heads (lst s)).2 : Int) = Ev)) (HXX : Hid ((heads (lst s)).1 = XX)) :
    Calls Tryz.prog 90 #[.string s] w (UnA w Ev XX) := by
  obtain ⟨i0, hi, hz0, hz1, hz2⟩ := info_parts infoT
  go_enter Tryz.func90, Tryz.ntmps90
  go_wp2
  go_loopw [4, 5] (fun s4 s5 wr => ∃ (a : Nat) (u : Value) (D : List ByteArray), u = s4 ∧ s5 = .int .i64 (a : Int) ∧ a ≤ s.size ∧ D.length ≤ a ∧ Hid (heads (lst s) = (rl D ++ (heads ((lst s).drop a)).1, (heads ((lst s).drop a)).2)) ∧ Hid (OwnT w.heap.size wr u D) ∧ Hid (Below w.heap.size w wr)) (fun _ a _ => s.size - (intOf a).toNat)
  case atStart => exact ⟨0, _, [], rfl, rfl, by omega, by simp, (by show _ = _; simp [rl]), ownT_nil _ _, Below.refl _ _⟩
  case round =>
    obtain ⟨a, u, D, rfl, rfl, ha, hD, HH, HO, HBr⟩ := hrel
    by_cases hlt : a < s.size
    · have hltz : (a : Int) < (s.size : Int) := by omega
      have HR := hide (ref_read s a wr (by unfold maxLen; omega) hlt)
      have HNE := hide (drop_ne hlt)
      obtain ⟨R, hR⟩ : ∃ R, (lst s).drop a = R := ⟨_, rfl⟩
      have HRL : Hid (R.length = s.size - a) := by show _ = _; rw [← hR, List.length_drop, lst_len]
      have HRE := hide hR
      rw [hR] at HR HNE HH
      clear hR
      unfold ruT at HR
      by_cases h1 : (rdN R).2.2 = 0
      · obtain ⟨k1, k2, k3, k4, k5, k6⟩ := rdN_ok h1
        rw [if_pos h1] at HR
        rw [h1] at HR
        have hXs : (rdN R).2.1 ≤ s.size - a := by rw [← unhide HRL]; omega
        have hXp : 0 < (rdN R).2.1 := by omega
        obtain ⟨N, hN⟩ : ∃ N, (rdN R).1 = N := ⟨_, rfl⟩
        obtain ⟨X, hX⟩ : ∃ X, (rdN R).2.1 = X := ⟨_, rfl⟩
        have HN := hide hN
        have HX := hide hX
        have H1 := hide h1
        rw [hN] at k6 HR
        rw [hX] at hXs hXp HR
        clear h1 k1 k2 k3 k4 k5 hN hX
        have hNz : (N : Int) ≤ 18446744073709551615 := by omega
        by_cases h2 : 255 < N
        · have h2z : 255 < (N : Int) := by omega
          have HU : Hid ((un1 R).1 = 62) := by
            show _ = _
            unfold un1
            rw [if_neg (by simp [unhide H1]), if_pos (by rw [unhide HN]; exact h2)]
          go_wp2_with (go_at_call 119; refine (unhide HR).mono ?_; rintro e w3 ⟨rfl, hw3⟩; subst hw3)
          go_ret2
          have h := unhide HH
          rw [heads_bad (unhide HNE) (by rw [unhide HU]; decide), unhide HU] at h
          refine ⟨_, D, ?_, (unhide HO).txs, ?_, unhide HBr⟩
          · rw [← unhide HEv, h]; rfl
          · rw [← unhide HXX, h]; simp
        · have h2z : ¬ 255 < (N : Int) := by omega
          have hXz : (s.size : Int) - ((a : Int) + (X : Int)) = ((s.size - a - X : Nat) : Int) := by omega
          by_cases h3 : s.size - a - X < N
          · have h3z : ((s.size - a - X : Nat) : Int) < (N : Int) := by omega
            have HU : Hid ((un1 R).1 = 60) := by
              show _ = _
              unfold un1
              rw [if_neg (by simp [unhide H1]), if_neg (by rw [unhide HN]; exact h2), if_pos (by rw [List.length_drop, unhide HRL, unhide HX, unhide HN]; exact h3)]
            go_wp2_with (go_at_call 119; refine (unhide HR).mono ?_; rintro e w3 ⟨rfl, hw3⟩; subst hw3)
            go_ret2
            have h := unhide HH
            rw [heads_bad (unhide HNE) (by rw [unhide HU]; decide), unhide HU] at h
            refine ⟨_, D, ?_, (unhide HO).txs, ?_, unhide HBr⟩
            · rw [← unhide HEv, h]; rfl
            · rw [← unhide HXX, h]; simp
          · have h3z : ¬ ((s.size - a - X : Nat) : Int) < (N : Int) := by omega
            have HU := hide (un1_parts (unhide H1) (by rw [unhide HN]; exact h2) (by rw [List.length_drop, unhide HRL, unhide HX, unhide HN]; exact h3))
            rw [unhide HN, unhide HX] at HU
            obtain ⟨x, hx⟩ : ∃ x, s.extract (a + X) (a + X + N) = x := ⟨_, rfl⟩
            have HXX : Hid (x = str ((R.drop X).take N)) := by
              show _ = _
              rw [← hx, extract_str, ← unhide HRE]
              unfold lst
              rw [List.drop_drop]
              congr 2
              omega
            have HH2 : Hid (heads (lst s) = (rl (D ++ [x]) ++ (heads ((lst s).drop (a + X + N))).1, (heads ((lst s).drop (a + X + N))).2)) := by
              have h := heads_step (unhide HH) (unhide HNE) (by rw [unhide HU])
              rw [unhide HU] at h
              show _ = _
              rw [unhide HXX, h, ← unhide HRE, List.drop_drop, List.drop_drop, Nat.add_assoc]
            have q1 : (a : Int) + (X : Int) ≤ (a : Int) + (X : Int) + (N : Int) := by omega
            have q2 : (a : Int) + (X : Int) + (N : Int) ≤ (s.size : Int) := by omega
            have q3 : a + X + N ≤ s.size := by omega
            have hsl : ∀ W : World, (Instr.slice 9 (.string s) (some (.int .i64 ((a : Int) + (X : Int)))) (some (.int .i64 ((a : Int) + (X : Int) + (N : Int)))) none).run Tryz.prog W = .ok (.string x) W := fun W => by
              rw [run_slice_string_if W 9 s .i64 .i64 _ _ Tryz.underlying9, if_pos ⟨by omega, q2⟩, if_pos ⟨by omega, q1⟩, ← hx]
              congr 3
            go_wp2_with (first
              | (go_at_call 119; refine (unhide HR).mono ?_; rintro e w3 ⟨rfl, hw3⟩; have hw4 := hw3.symm; subst hw4)
              | (at_builtin; refine wpList_append_own _ rfl _ _ 29 rfl w.heap.size 9 i0 (.string ByteArray.empty) 1 16 Tryz.underlying29 hi hz0 hz1 hz2 rfl (by decide) _ _ _ rfl ((unhide HO).below ((Below.refl _ _).alloc (Nat.le_refl _) _)) ⟨wr.heap.size, 0, none⟩ 1 1 [.string x] rfl rfl (new_cells _ #[.string x] _) (by simp [Value.oneCell']) (by unfold maxLen; omega) (by omega) (by have := (unhide HBr).size; simp; omega) ?_; intro v' w2 hown' hgrow hnil; clear hnil; have HO2 := hide (ownT_push hown'); have HB2 := hide (push1 (unhide HO) (unhide HBr) (Nat.le_refl _) hgrow); clear hown' hgrow))
            go_roundw
            case rel => exact ⟨a + X + N, v', D ++ [x], rfl, by go_num, by omega, by simp only [List.length_append, List.length_cons, List.length_nil]; omega, HH2, HO2, HB2⟩
            case measure => simp [intOf]; omega
      · have HU : Hid ((un1 R).1 = (rdN R).2.2) := by
          show _ = _
          unfold un1
          rw [if_pos h1]
        rw [if_neg h1] at HR
        obtain ⟨E, hE⟩ : ∃ E, (rdN R).2.2 = E := ⟨_, rfl⟩
        rw [hE] at h1 HU HR
        have hEb : ((E : Int) == 0) = false := by simp; omega
        generalize (rdN R).1 = N at *
        clear hE
        go_wp2_with (go_at_call 119; refine (unhide HR).mono ?_; rintro e w3 ⟨rfl, hw3⟩; subst hw3)
        go_ret2
        have h := unhide HH
        rw [heads_bad (unhide HNE) (by rw [unhide HU]; exact h1), unhide HU] at h
        refine ⟨_, D, ?_, (unhide HO).txs, ?_, unhide HBr⟩
        · rw [← unhide HEv, h]; rfl
        · rw [← unhide HXX, h]; simp
    · have hltz : ¬ (a : Int) < (s.size : Int) := by omega
      have HE := hide (show a = s.size by omega)
      go_wp2
      go_ret2
      have h := unhide HH
      have e := unhide HE
      rw [e, List.drop_of_length_le (by rw [lst_len]; exact Nat.le_refl _), heads_nil] at h
      simp only [List.append_nil] at h
      refine ⟨_, D, ?_, (unhide HO).txs, ?_, unhide HBr⟩
      · rw [← unhide HEv, h]; rfl
      · rw [← unhide HXX, h]
end Um
end Go.Proofs.YtohfhkdhccpoaaaGreatDoor
