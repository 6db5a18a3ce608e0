/- Layer 6: Unframe, the program's and the document's. -/
import Derived.Test.YtigffjbefbndnaaDoorUu9
import Derived.Laws.DeepStrings4
namespace Go.Proofs.YtigffjbefbndnaaDoor
open Go.RowKit
namespace Um

theorem rl_app (a b : List ByteArray) : rl (a ++ b) = rl a ++ rl b := by simp [rl]
theorem rl_len (a : List ByteArray) : (rl a).length = a.length := by simp [rl]
theorem rl_one (x : List UInt8) : rl [str x] = [x] := by simp [rl, lst, str]
/-- a list of records and a fault are answered -/
def UnA (w : World) (Ev : Int) (XX : List (List UInt8)) (e : Ending) (w' : World) : Prop := ∃ v D, e = .returned (.tuple #[v, .int .i64 Ev]) ∧ Txs w' v D ∧ rl D = XX ∧ Below w.heap.size w w'
theorem heads_step {T R : List UInt8} {D : List ByteArray} (h : heads T = (rl D ++ (heads R).1, (heads R).2)) (h0 : R ≠ []) (hu : (un1 R).1 = 0) : heads T = (rl (D ++ [str (un1 R).2.1]) ++ (heads (un1 R).2.2).1, (heads (un1 R).2.2).2) := by
  rw [h, heads_ok h0 hu, rl_app, rl_one]
  simp
set_option maxRecDepth 100000 in
set_option maxHeartbeats 1000000 in
theorem unframe_any (s : ByteArray) (w : World) (hs : s.size ≤ 1073741824) (Ev : Int) (XX : List (List UInt8)) (HEv : Hid (((heads (lst s)).2 : Int) = Ev)) (HXX : Hid ((if (heads (lst s)).2 = 0 then (heads (lst s)).1 else []) = XX)) :
    Calls Tryd.prog 13 #[.string s] w (UnA w Ev XX) := by
  obtain ⟨i0, hi, hz0, hz1, hz2⟩ := info_parts infoT
  obtain ⟨T, hT⟩ : ∃ T, lst s = T := ⟨_, rfl⟩
  have hsn : s.size = T.length := by rw [← hT, lst_len]
  have HST : Hid (s = str T) := by show s = _; rw [← hT]; rfl
  rw [hT] at HEv HXX
  clear hT
  rw [hsn] at hs
  clear hsn
  go_enter Tryd.func13, Tryd.ntmps13
  go_wp2
  go_loopw [0, 4] (fun s0 s4 wr => ∃ (R : List UInt8) (t : ByteArray) (u : Value) (D : List ByteArray), u = s4 ∧ s0 = .string t ∧ t.size ≤ 1073741824 ∧ D.length + t.size ≤ 1073741824 ∧ Hid (t = str R) ∧ Hid (heads T = (rl D ++ (heads R).1, (heads R).2)) ∧ Hid (OwnT w.heap.size wr u D) ∧ Hid (Below w.heap.size w wr)) (fun t _ _ => match t with | .string b => b.size | _ => 0)
  case atStart => exact ⟨T, s, _, [], rfl, rfl, by rw [unhide HST, str_size]; exact hs, by rw [unhide HST, str_size]; simpa using hs, unhide HST, (by show _ = _; simp [rl]), ownT_nil _ _, Below.refl _ _⟩
  case round =>
    obtain ⟨R, t, u, D, rfl, rfl, ht, hDt, HR, HH, HO, HBr⟩ := hrel
    by_cases hR : R = []
    · subst hR
      have hem : t.toList.isEmpty = true := by rw [unhide HR, ByteArray.toList_eq, str_list]; rfl
      go_wp2
      go_ret2
      have h := unhide HH
      rw [heads_nil] at h
      simp only [List.append_nil] at h
      refine ⟨_, D, ?_, (unhide HO).txs, ?_, unhide HBr⟩
      · rw [← unhide HEv, h]; rfl
      · rw [← unhide HXX, h]; simp
    · have hem : t.toList.isEmpty = false := by
        rw [unhide HR]
        cases R with
        | nil => exact absurd rfl hR
        | cons x y => rw [ByteArray.toList_eq, str_list]; rfl
      have HU := hide (unframe_one t wr (by omega))
      have el : lst t = R := by rw [unhide HR]; exact str_list R
      rw [el] at HU
      by_cases hu : (un1 R).1 = 0
      · rw [hu] at HU
        have HH2 := hide (heads_step (unhide HH) hR hu)
        have HSH := hide (un1_short hu)
        have HEL := hide el
        generalize (un1 R).2.2 = R2 at *
        obtain ⟨x, hx⟩ : ∃ x, x = str (un1 R).2.1 := ⟨_, rfl⟩
        rw [← hx] at HU HH2
        obtain ⟨t2, ht2⟩ : ∃ t2, t2 = str R2 := ⟨_, rfl⟩
        rw [← ht2] at HU
        have HT2 := hide ht2
        have ht2s : t2.size < t.size := by
          rw [ht2, str_size, ← lst_len t, unhide HEL]
          exact unhide HSH
        clear hx ht2 el hu
        go_wp2_with (first
          | (go_at_call 25; refine (unhide HU).mono ?_; rintro e w1 ⟨rfl, hB1⟩; have HO1 := hide ((unhide HO).below hB1); have HB1 := hide ((unhide HBr).trans (hB1.mono (unhide HBr).size)); clear hB1)
          | (at_builtin; refine wpList_append_own _ rfl _ _ 22 rfl w.heap.size 9 i0 (.string ByteArray.empty) 1 16 Tryd.underlying22 hi hz0 hz1 hz2 rfl (by decide) _ _ _ rfl ((unhide HO1).below ((Below.refl _ _).alloc (Nat.le_refl _) _)) ⟨w1.heap.size, 0, none⟩ 1 1 [.string x] rfl rfl (new_cells _ #[.string x] _) (by simp [Value.oneCell']) (by unfold maxLen; omega) (by omega) (by have := (unhide HB1).size; simp; omega) ?_; intro v' w2 hown' hgrow hnil; clear hnil; have HO2 := hide (ownT_push hown'); have HB2 := hide (push1 (unhide HO1) (unhide HB1) (Nat.le_refl _) hgrow); clear hown' hgrow))
        go_roundw
        case rel => exact ⟨R2, t2, v', D ++ [x], rfl, rfl, by omega, by simp only [List.length_append, List.length_cons, List.length_nil]; omega, HT2, HH2, HO2, HB2⟩
        case measure => simpa using ht2s
      · have h := unhide HH
        rw [heads_bad hR hu] at h
        simp only [List.append_nil] at h
        obtain ⟨E, hE⟩ : ∃ E, (un1 R).1 = E := ⟨_, rfl⟩
        rw [hE] at hu HU h
        have hEb : ((E : Int) == 0) = false := by simp; omega
        have HHD := hide h
        generalize str (un1 R).2.1 = c1 at *
        generalize str (un1 R).2.2 = c2 at *
        clear h hE
        go_wp2_with (go_at_call 25; refine (unhide HU).mono ?_; rintro e w1 ⟨rfl, hB1⟩; have HB1 := hide ((unhide HBr).trans (hB1.mono (unhide HBr).size)); clear hB1)
        go_ret2
        refine ⟨_, [], ?_, (ownT_nil 0 _).txs, ?_, unhide HB1⟩
        · rw [← unhide HEv, unhide HHD]; rfl
        · rw [← unhide HXX, unhide HHD]; simp [rl, hu]
end Um
end Go.Proofs.YtigffjbefbndnaaDoor
