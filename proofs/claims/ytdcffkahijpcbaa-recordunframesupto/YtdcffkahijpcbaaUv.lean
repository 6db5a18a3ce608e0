/- Layer 6: Unframe, the program's and the document's. -/
import Derived.Test.YtdcffkahijpcbaaUu
import Derived.Test.YtdcffkahijpcbaaUz
import Derived.Laws.DeepStrings4
namespace Go.Proofs.Ytdcffkahijpcbaa
open Go.RowKit
namespace Um

theorem rl_app (a b : List ByteArray) : rl (a ++ b) = rl a ++ rl b := by simp [rl]
theorem rl_len (a : List ByteArray) : (rl a).length = a.length := by simp [rl]
theorem rl_one (x : List UInt8) : rl [str x] = [x] := by simp [rl, lst, str]
/-- a list of records and a fault are answered -/
def UnA (w : World) (Ev : Int) (XX : List (List UInt8)) (e : Ending) (w' : World) : Prop := ∃ v D, e = .returned (.tuple #[v, .int .i64 Ev]) ∧ Txs w' v D ∧ rl D = XX ∧ Below w.heap.size w w'
theorem heads_step {T R : List UInt8} {D : List ByteArray} (h : heads T = (rl D ++ (heads R).1, (heads R).2)) (h0 : R ≠ []) (hu : (un1 R).1 = 0) : heads T = (rl (D ++ [str (un1 R).2.1]) ++ (heads (un1 R).2.2).1, (heads (un1 R).2.2).2) := by
  rw [h, heads_ok h0 hu, rl_app, rl_one]
  simp
set_option maxRecDepth 100000 in
set_option maxHeartbeats 1000000 in
theorem unframe_any (s : ByteArray) (w : World) (hs : s.size ≤ 1073741824) (Ev : Int) (XX : List (List UInt8)) (HEv : Hid (((heads (lst s)).2 : Int) = Ev)) (HXX : Hid ((if (heads (lst s)).2 = 0 then (heads (lst s)).1 else []) = XX)) :
    Calls Try.prog 17 #[.string s] w (UnA w Ev XX) := by
  obtain ⟨i0, hi, hz0, hz1, hz2⟩ := info_parts infoT
  obtain ⟨T, hT⟩ : ∃ T, lst s = T := ⟨_, rfl⟩
  have hsn : s.size = T.length := by rw [← hT, lst_len]
  have HST : Hid (s = str T) := by show s = _; rw [← hT]; rfl
  rw [hT] at HEv HXX
  clear hT
  rw [hsn] at hs
  clear hsn
  go_enter Try.func17, Try.ntmps17
  go_wp2
  go_loopw [0, 4] (fun s0 s4 wr => ∃ (R : List UInt8) (t : ByteArray) (u : Value) (D : List ByteArray), u = s4 ∧ s0 = .string t ∧ t.size ≤ 1073741824 ∧ D.length + t.size ≤ 1073741824 ∧ Hid (t = str R) ∧ Hid (heads T = (rl D ++ (heads R).1, (heads R).2)) ∧ Hid (OwnT w.heap.size wr u D) ∧ Hid (Below w.heap.size w wr)) (fun t _ _ => match t with | .string b => b.size | _ => 0)
  case atStart => exact ⟨T, s, _, [], rfl, rfl, by rw [unhide HST, str_size]; exact hs, by rw [unhide HST, str_size]; simpa using hs, unhide HST, (by show _ = _; simp [rl]), ownT_nil _ _, Below.refl _ _⟩
  case round =>
    obtain ⟨R, t, u, D, rfl, rfl, ht, hDt, HR, HH, HO, HBr⟩ := hrel
    by_cases hR : R = []
    · subst hR
      have hem : t.toList.isEmpty = true := by rw [unhide HR, ByteArray.toList_eq, str_list]; rfl
      go_wp2
      go_ret2
      have h := unhide HH
      rw [heads_nil] at h
      simp only [List.append_nil] at h
      refine ⟨_, D, ?_, (unhide HO).txs, ?_, unhide HBr⟩
      · rw [← unhide HEv, h]; rfl
      · rw [← unhide HXX, h]; simp
    · have hem : t.toList.isEmpty = false := by
        rw [unhide HR]
        cases R with
        | nil => exact absurd rfl hR
        | cons x y => rw [ByteArray.toList_eq, str_list]; rfl
      have HU := hide (unframe_one t wr (by omega))
      have el : lst t = R := by rw [unhide HR]; exact str_list R
      rw [el] at HU
      by_cases hu : (un1 R).1 = 0
      · rw [hu] at HU
        have HH2 := hide (heads_step (unhide HH) hR hu)
        have HSH := hide (un1_short hu)
        have HEL := hide el
        generalize (un1 R).2.2 = R2 at *
        obtain ⟨x, hx⟩ : ∃ x, x = str (un1 R).2.1 := ⟨_, rfl⟩
        rw [← hx] at HU HH2
        obtain ⟨t2, ht2⟩ : ∃ t2, t2 = str R2 := ⟨_, rfl⟩
        rw [← ht2] at HU
        have HT2 := hide ht2
        have ht2s : t2.size < t.size := by
          rw [ht2, str_size, ← lst_len t, unhide HEL]
          exact unhide HSH
        clear hx ht2 el hu
        go_wp2_with (first
          | (go_at_call 21; refine (unhide HU).mono ?_; rintro e w1 ⟨rfl, hB1⟩; have HO1 := hide ((unhide HO).below hB1); have HB1 := hide ((unhide HBr).trans (hB1.mono (unhide HBr).size)); clear hB1)
          | (at_builtin; refine wpList_append_own _ rfl _ _ 32 rfl w.heap.size 9 i0 (.string ByteArray.empty) 1 16 Try.underlying32 hi hz0 hz1 hz2 rfl (by decide) _ _ _ rfl ((unhide HO1).below ((Below.refl _ _).alloc (Nat.le_refl _) _)) ⟨w1.heap.size, 0, none⟩ 1 1 [.string x] rfl rfl (new_cells _ #[.string x] _) (by simp [Value.oneCell']) (by unfold maxLen; omega) (by omega) (by have := (unhide HB1).size; simp; omega) ?_; intro v' w2 hown' hgrow hnil; clear hnil; have HO2 := hide (ownT_push hown'); have HB2 := hide (push1 (unhide HO1) (unhide HB1) (Nat.le_refl _) hgrow); clear hown' hgrow))
        go_roundw
        case rel => exact ⟨R2, t2, v', D ++ [x], rfl, rfl, by omega, by simp only [List.length_append, List.length_cons, List.length_nil]; omega, HT2, HH2, HO2, HB2⟩
        case measure => simpa using ht2s
      · have h := unhide HH
        rw [heads_bad hR hu] at h
        simp only [List.append_nil] at h
        obtain ⟨E, hE⟩ : ∃ E, (un1 R).1 = E := ⟨_, rfl⟩
        rw [hE] at hu HU h
        have hEb : ((E : Int) == 0) = false := by simp; omega
        have HHD := hide h
        generalize str (un1 R).2.1 = c1 at *
        generalize str (un1 R).2.2 = c2 at *
        clear h hE
        go_wp2_with (go_at_call 21; refine (unhide HU).mono ?_; rintro e w1 ⟨rfl, hB1⟩; have HB1 := hide ((unhide HBr).trans (hB1.mono (unhide HBr).size)); clear hB1)
        go_ret2
        refine ⟨_, [], ?_, (ownT_nil 0 _).txs, ?_, unhide HB1⟩
        · rw [← unhide HEv, unhide HHD]; rfl
        · rw [← unhide HXX, unhide HHD]; simp [rl, hu]
theorem drop_ne {s : ByteArray} {a : Nat} (h : a < s.size) : (lst s).drop a ≠ [] := fun e => by
  have := congrArg List.length e
  rw [List.length_drop, lst_len] at this
  simp at this
  omega
theorem un1_parts {R : List UInt8} (h : (rdN R).2.2 = 0) (h2 : ¬ 255 < (rdN R).1) (h3 : ¬ (R.drop (rdN R).2.1).length < (rdN R).1) : un1 R = (0, (R.drop (rdN R).2.1).take (rdN R).1, (R.drop (rdN R).2.1).drop (rdN R).1) := by
  unfold un1
  rw [if_neg (by simp [h]), if_neg h2, if_neg h3]
set_option maxRecDepth 100000 in
set_option maxHeartbeats 1000000 in
theorem heads_any (s : ByteArray) (w : World) (hs : s.size ≤ 1073741824) (Ev : Int) (XX : List (List UInt8)) (HEv : Hid (((heads (lst s)).2 : Int) = Ev)) (HXX : Hid ((heads (lst s)).1 = XX)) :
    Calls Try.prog 22 #[.string s] w (UnA w Ev XX) := by
  obtain ⟨i0, hi, hz0, hz1, hz2⟩ := info_parts infoT
  go_enter Try.func22, Try.ntmps22
  go_wp2
  go_loopw [4, 5] (fun s4 s5 wr => ∃ (a : Nat) (u : Value) (D : List ByteArray), u = s4 ∧ s5 = .int .i64 (a : Int) ∧ a ≤ s.size ∧ D.length ≤ a ∧ Hid (heads (lst s) = (rl D ++ (heads ((lst s).drop a)).1, (heads ((lst s).drop a)).2)) ∧ Hid (OwnT w.heap.size wr u D) ∧ Hid (Below w.heap.size w wr)) (fun _ a _ => s.size - (intOf a).toNat)
  case atStart => exact ⟨0, _, [], rfl, rfl, by omega, by simp, (by show _ = _; simp [rl]), ownT_nil _ _, Below.refl _ _⟩
  case round =>
    obtain ⟨a, u, D, rfl, rfl, ha, hD, HH, HO, HBr⟩ := hrel
    by_cases hlt : a < s.size
    · have hltz : (a : Int) < (s.size : Int) := by omega
      have HR := hide (ref_read s a wr (by unfold maxLen; omega) hlt)
      have HNE := hide (drop_ne hlt)
      obtain ⟨R, hR⟩ : ∃ R, (lst s).drop a = R := ⟨_, rfl⟩
      have HRL : Hid (R.length = s.size - a) := by show _ = _; rw [← hR, List.length_drop, lst_len]
      have HRE := hide hR
      rw [hR] at HR HNE HH
      clear hR
      unfold ruT at HR
      by_cases h1 : (rdN R).2.2 = 0
      · obtain ⟨k1, k2, k3, k4, k5, k6⟩ := rdN_ok h1
        rw [if_pos h1] at HR
        rw [h1] at HR
        have hXs : (rdN R).2.1 ≤ s.size - a := by rw [← unhide HRL]; omega
        have hXp : 0 < (rdN R).2.1 := by omega
        obtain ⟨N, hN⟩ : ∃ N, (rdN R).1 = N := ⟨_, rfl⟩
        obtain ⟨X, hX⟩ : ∃ X, (rdN R).2.1 = X := ⟨_, rfl⟩
        have HN := hide hN
        have HX := hide hX
        have H1 := hide h1
        rw [hN] at k6 HR
        rw [hX] at hXs hXp HR
        clear h1 k1 k2 k3 k4 k5 hN hX
        have hNz : (N : Int) ≤ 18446744073709551615 := by omega
        by_cases h2 : 255 < N
        · have h2z : 255 < (N : Int) := by omega
          have HU : Hid ((un1 R).1 = 62) := by
            show _ = _
            unfold un1
            rw [if_neg (by simp [unhide H1]), if_pos (by rw [unhide HN]; exact h2)]
          go_wp2_with (go_at_call 13; refine (unhide HR).mono ?_; rintro e w3 ⟨rfl, hw3⟩; subst hw3)
          go_ret2
          have h := unhide HH
          rw [heads_bad (unhide HNE) (by rw [unhide HU]; decide), unhide HU] at h
          refine ⟨_, D, ?_, (unhide HO).txs, ?_, unhide HBr⟩
          · rw [← unhide HEv, h]; rfl
          · rw [← unhide HXX, h]; simp
        · have h2z : ¬ 255 < (N : Int) := by omega
          have hXz : (s.size : Int) - ((a : Int) + (X : Int)) = ((s.size - a - X : Nat) : Int) := by omega
          by_cases h3 : s.size - a - X < N
          · have h3z : ((s.size - a - X : Nat) : Int) < (N : Int) := by omega
            have HU : Hid ((un1 R).1 = 60) := by
              show _ = _
              unfold un1
              rw [if_neg (by simp [unhide H1]), if_neg (by rw [unhide HN]; exact h2), if_pos (by rw [List.length_drop, unhide HRL, unhide HX, unhide HN]; exact h3)]
            go_wp2_with (go_at_call 13; refine (unhide HR).mono ?_; rintro e w3 ⟨rfl, hw3⟩; subst hw3)
            go_ret2
            have h := unhide HH
            rw [heads_bad (unhide HNE) (by rw [unhide HU]; decide), unhide HU] at h
            refine ⟨_, D, ?_, (unhide HO).txs, ?_, unhide HBr⟩
            · rw [← unhide HEv, h]; rfl
            · rw [← unhide HXX, h]; simp
          · have h3z : ¬ ((s.size - a - X : Nat) : Int) < (N : Int) := by omega
            have HU := hide (un1_parts (unhide H1) (by rw [unhide HN]; exact h2) (by rw [List.length_drop, unhide HRL, unhide HX, unhide HN]; exact h3))
            rw [unhide HN, unhide HX] at HU
            obtain ⟨x, hx⟩ : ∃ x, s.extract (a + X) (a + X + N) = x := ⟨_, rfl⟩
            have HXX : Hid (x = str ((R.drop X).take N)) := by
              show _ = _
              rw [← hx, extract_str, ← unhide HRE]
              unfold lst
              rw [List.drop_drop]
              congr 2
              omega
            have HH2 : Hid (heads (lst s) = (rl (D ++ [x]) ++ (heads ((lst s).drop (a + X + N))).1, (heads ((lst s).drop (a + X + N))).2)) := by
              have h := heads_step (unhide HH) (unhide HNE) (by rw [unhide HU])
              rw [unhide HU] at h
              show _ = _
              rw [unhide HXX, h, ← unhide HRE, List.drop_drop, List.drop_drop, Nat.add_assoc]
            have q1 : (a : Int) + (X : Int) ≤ (a : Int) + (X : Int) + (N : Int) := by omega
            have q2 : (a : Int) + (X : Int) + (N : Int) ≤ (s.size : Int) := by omega
            have q3 : a + X + N ≤ s.size := by omega
            have hsl : ∀ W : World, (Instr.slice 9 (.string s) (some (.int .i64 ((a : Int) + (X : Int)))) (some (.int .i64 ((a : Int) + (X : Int) + (N : Int)))) none).run Try.prog W = .ok (.string x) W := fun W => by
              rw [run_slice_string_if W 9 s .i64 .i64 _ _ Try.underlying9, if_pos ⟨by omega, q2⟩, if_pos ⟨by omega, q1⟩, ← hx]
              congr 3
            go_wp2_with (first
              | (go_at_call 13; refine (unhide HR).mono ?_; rintro e w3 ⟨rfl, hw3⟩; have hw4 := hw3.symm; subst hw4)
              | (at_builtin; refine wpList_append_own _ rfl _ _ 32 rfl w.heap.size 9 i0 (.string ByteArray.empty) 1 16 Try.underlying32 hi hz0 hz1 hz2 rfl (by decide) _ _ _ rfl ((unhide HO).below ((Below.refl _ _).alloc (Nat.le_refl _) _)) ⟨wr.heap.size, 0, none⟩ 1 1 [.string x] rfl rfl (new_cells _ #[.string x] _) (by simp [Value.oneCell']) (by unfold maxLen; omega) (by omega) (by have := (unhide HBr).size; simp; omega) ?_; intro v' w2 hown' hgrow hnil; clear hnil; have HO2 := hide (ownT_push hown'); have HB2 := hide (push1 (unhide HO) (unhide HBr) (Nat.le_refl _) hgrow); clear hown' hgrow))
            go_roundw
            case rel => exact ⟨a + X + N, v', D ++ [x], rfl, by go_num, by omega, by simp only [List.length_append, List.length_cons, List.length_nil]; omega, HH2, HO2, HB2⟩
            case measure => simp [intOf]; omega
      · have HU : Hid ((un1 R).1 = (rdN R).2.2) := by
          show _ = _
          unfold un1
          rw [if_pos h1]
        rw [if_neg h1] at HR
        obtain ⟨E, hE⟩ : ∃ E, (rdN R).2.2 = E := ⟨_, rfl⟩
        rw [hE] at h1 HU HR
        have hEb : ((E : Int) == 0) = false := by simp; omega
        generalize (rdN R).1 = N at *
        clear hE
        go_wp2_with (go_at_call 13; refine (unhide HR).mono ?_; rintro e w3 ⟨rfl, hw3⟩; subst hw3)
        go_ret2
        have h := unhide HH
        rw [heads_bad (unhide HNE) (by rw [unhide HU]; exact h1), unhide HU] at h
        refine ⟨_, D, ?_, (unhide HO).txs, ?_, unhide HBr⟩
        · rw [← unhide HEv, h]; rfl
        · rw [← unhide HXX, h]; simp
    · have hltz : ¬ (a : Int) < (s.size : Int) := by omega
      have HE := hide (show a = s.size by omega)
      go_wp2
      go_ret2
      have h := unhide HH
      have e := unhide HE
      rw [e, List.drop_of_length_le (by rw [lst_len]; exact Nat.le_refl _), heads_nil] at h
      simp only [List.append_nil] at h
      refine ⟨_, D, ?_, (unhide HO).txs, ?_, unhide HBr⟩
      · rw [← unhide HEv, h]; rfl
      · rw [← unhide HXX, h]
set_option maxRecDepth 100000 in
theorem refun_any (s : ByteArray) (w : World) (hs : s.size ≤ 1073741824) (Ev : Int) (XX : List (List UInt8)) (HEv : Hid (((heads (lst s)).2 : Int) = Ev)) (HXX : Hid ((if (heads (lst s)).2 = 0 then (heads (lst s)).1 else []) = XX)) :
    Calls Try.prog 18 #[.string s] w (UnA w Ev XX) := by
  have HH := hide (heads_any s w hs Ev _ HEv rfl)
  by_cases h : (heads (lst s)).2 = 0
  · have e := unhide HXX
    rw [if_pos h] at e
    rw [e] at HH
    have hE : Ev = 0 := by rw [← unhide HEv, h]; rfl
    subst hE
    clear h e HXX HEv
    go_enter Try.func18, Try.ntmps18
    go_wp2_with (go_at_call 22; refine (unhide HH).mono ?_; rintro e w1 ⟨v, D, rfl, h1, h2, h3⟩; have H1 := hide h1; have H2 := hide h2; have H3 := hide h3; clear h1 h2 h3)
    go_ret2
    exact ⟨_, D, rfl, unhide H1, unhide H2, unhide H3⟩
  · have e := unhide HXX
    rw [if_neg h] at e
    have hE : (Ev == 0) = false := by rw [← unhide HEv]; simp; omega
    have HE2 := hide e
    clear h e HXX HEv
    go_enter Try.func18, Try.ntmps18
    go_wp2_with (go_at_call 22; refine (unhide HH).mono ?_; rintro e w1 ⟨v, D, rfl, h1, h2, h3⟩; have H1 := hide h1; have H2 := hide h2; have H3 := hide h3; clear h1 h2 h3)
    go_ret2
    exact ⟨_, [], rfl, (ownT_nil 0 _).txs, (unhide HE2), unhide H3⟩
end Um
end Go.Proofs.Ytdcffkahijpcbaa
