/- Contract: the document's Show. -/
import Derived.Test.YtgaagbjbolfbjabSnW
import Derived.Test.YtgaagbjbolfbjabSwP
namespace Go.Proofs.Ytgaagbjbolfbjab
open Go.RowKit
namespace Pt
open Cd

theorem texts_slice' {W : World} {v : Value} {P : List (List UInt8)} (h : TextsAt W v P) : ∃ a cap, v = .slice a P.length cap := by
  rcases h with ⟨rfl, rfl⟩ | ⟨g, cap, rfl, _⟩
  · exact ⟨none, 0, rfl⟩
  · exact ⟨_, cap, rfl⟩
theorem texts_cell' {W : World} {a : Option Addr} {n cap : Nat} {P : List (List UInt8)} {i : Nat} {p : List UInt8} (h : TextsAt W (.slice a n cap) P) (hp : P[i]? = some p) : ∃ g, a = some ⟨g, 0, none⟩ ∧ g < W.heap.size ∧ W.cell? ⟨g, i, none⟩ = some (.string (str p)) := by
  rcases h with ⟨_, e⟩ | ⟨g, c2, e, h2, h3⟩
  · rw [e] at hp; simp at hp
  · injection e with e1 _ _
    exact ⟨g, e1, h2, h3 i p hp⟩
def swK (P : List (List UInt8)) (k : Nat) : List UInt8 := ((P.take k).map fun p => shw (adm p)).flatten
theorem swK_step {P : List (List UInt8)} {k : Nat} {p : List UInt8} (h : P[k]? = some p) : swK P (k + 1) = swK P k ++ shw (adm p) := by
  have hk := (List.getElem?_eq_some_iff.1 h).1
  have hc := (List.getElem?_eq_some_iff.1 h).2
  unfold swK
  rw [List.take_succ_eq_append_getElem hk, hc, List.map_append, List.flatten_append]
  simp only [List.map_cons, List.map_nil, List.flatten_cons, List.flatten_nil, List.append_nil]
theorem swK_len (P : List (List UInt8)) (k : Nat) : (swK P k).length ≤ 600 * k := by
  induction k with
  | zero => simp [swK]
  | succ k ih =>
    by_cases h : k < P.length
    · rw [swK_step (List.getElem?_eq_getElem h), List.length_append]
      have := shw_len (adm P[k])
      omega
    · unfold swK at *
      rw [List.take_of_length_le (by omega)] at ih ⊢
      omega
set_option maxHeartbeats 1000000 in
set_option maxRecDepth 100000 in
theorem refShow_none (a : Option Addr) (cap : Nat) (w : World) :
    Calls Try.prog 11 #[.slice a 0 cap] w fun e w' => e = .returned (.string ⟨#[46]⟩) ∧ w' = w := by
  go_enter Try.func11, Try.ntmps11
  go_wp2
  go_ret
  exact ⟨rfl, rfl⟩
set_option maxHeartbeats 1000000 in
set_option maxRecDepth 100000 in
theorem refShow_some (P : List (List UInt8)) (v : Value) (w : World) (hP : ∀ p ∈ P, Pcs p) (h16 : P.length ≤ 16) (hv : TextsAt w v P) (hne : P ≠ []) :
    Calls Try.prog 11 #[v] w fun e w' => e = .returned (.string (str (swK P P.length))) ∧ Below w.heap.size w w' := by
  obtain ⟨n, hn⟩ : ∃ n, n = P.length := ⟨_, rfl⟩
  obtain ⟨a, cap, rfl⟩ := texts_slice' hv
  have HV := hide hv
  have HF : Hid (∀ k, k < n → ∃ p, P[k]? = some p ∧ (∀ W, Calls Try.prog 21 #[.agg #[.string (str p)]] W fun e w' => e = .returned (.string (str (shw (adm p)))) ∧ Below W.heap.size W w') ∧ swK P (k + 1) = swK P k ++ shw (adm p)) := fun k hk => ⟨P[k], List.getElem?_eq_getElem (by omega), fun W => shown_any _ W (hP _ (List.getElem_mem _)), swK_step (List.getElem?_eq_getElem (by omega))⟩
  have HL := hide (fun k => swK_len P k)
  have HSL := hide (fun f => shw_len f)
  have HEND : Hid (∀ k, k = n → swK P k = swK P P.length) := fun k hk => by rw [hk, hn]
  have hn0 : 1 ≤ n := by rw [hn]; exact List.length_pos_iff.2 hne
  have hnz : (n : Int) ≤ 16 := by omega
  have hnb : ((n : Int) == 0) = false := by rw [beq_eq_false_iff_ne]; omega
  generalize swK P P.length = RES at *
  rw [← hn] at *
  clear hn h16 hne hP hv
  go_enter Try.func11, Try.ntmps11
  go_wp2
  go_loopw [3, 4] (fun s3 s4 wr => ∃ k : Nat, s3 = .string (str (swK P k)) ∧ s4 = .int .i64 k ∧ k ≤ n ∧ Hid (Below w.heap.size w wr)) (fun _ i _ => n - (intOf i).toNat)
  case atStart => exact ⟨0, rfl, rfl, by omega, Below.refl _ _⟩
  case round =>
    obtain ⟨k, rfl, rfl, hk, HB⟩ := hrel
    by_cases hlt : k < n
    · have hltz : (k : Int) < (n : Int) := by omega
      obtain ⟨p, hp, hsh, hst⟩ := unhide HF k hlt
      obtain ⟨g, rfl, hg, hc0⟩ := texts_cell' ((unhide HV).below (unhide HB)) hp
      have hl1 := unhide HL k
      have hl2 := unhide HSL (adm p)
      have hs1 := str_size (swK P k)
      have hs2 := str_size (shw (adm p))
      have hadd := add_run (a := str (swK P k)) (b := str (shw (adm p))) (by omega)
      have HST : Hid (str (swK P k) ++ str (shw (adm p)) = str (swK P (k + 1))) := hide (by rw [hst, str_app])
      have HSH := hide hsh
      clear hp hsh hst hl1 hl2 hs1 hs2
      generalize str (shw (adm p)) = T2 at *
      generalize str p = T at *
      generalize hA : str (swK P k) = A at *
      generalize A ++ T2 = A2 at *
      clear hA
      go_wp2_with (go_at_call 21; refine (unhide HSH _).mono ?_; rintro e w1 ⟨rfl, hb1⟩; have HB1 := hide ((unhide HB).trans (hb1.mono (unhide HB).size)); clear hb1)
      go_roundw
      case rel => exact ⟨k + 1, by rw [unhide HST], by go_num, by omega, HB1⟩
      case measure => simp [intOf]; omega
    · have hltz : ¬ (k : Int) < (n : Int) := by omega
      have HE := hide (unhide HEND k (by omega))
      generalize swK P k = A at *
      go_wp2
      go_ret
      exact ⟨by rw [← unhide HE]; rfl, unhide HB⟩
theorem refShow_any (P : List (List UInt8)) (v : Value) (w : World) (hP : ∀ p ∈ P, Pcs p) (h16 : P.length ≤ 16) (hv : TextsAt w v P) :
    Calls Try.prog 11 #[v] w fun e w' => e = .returned (.string (str (sws P))) ∧ Below w.heap.size w w' := by
  unfold sws
  by_cases h : P = []
  · subst h
    rw [if_pos rfl]
    obtain ⟨a, cap, rfl⟩ := texts_slice' hv
    refine (refShow_none a cap w).mono ?_
    rintro e w' ⟨rfl, rfl⟩
    exact ⟨rfl, Below.refl _ _⟩
  · rw [if_neg h]
    have := refShow_some P v w hP h16 hv h
    unfold swK at this
    rw [List.take_of_length_le (Nat.le_refl _)] at this
    exact this
end Pt
end Go.Proofs.Ytgaagbjbolfbjab
