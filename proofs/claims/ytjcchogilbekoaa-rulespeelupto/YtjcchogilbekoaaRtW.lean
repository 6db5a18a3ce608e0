/- Contracts: the document's Starts and Ends at any text. -/
import Derived.Test.YtjcchogilbekoaaRsW
import Derived.Test.YtjcchogilbekoaaRtB
namespace Go.Proofs.Ytjcchogilbekoaa
open Go.RowKit
namespace Pt
open Cd

theorem each_take (fs : List (UInt8 → Bool)) (l : List UInt8) : each fs (l.take fs.length) = each fs l := by
  induction fs generalizing l with
  | nil => cases l <;> rfl
  | cons f t ih =>
    cases l with
    | nil => rfl
    | cons b u =>
      rw [List.length_cons, List.take_succ_cons]
      simp only [each]
      rw [ih]
theorem texts_slice {W : World} {v : Value} {P : List (List UInt8)} (h : TextsAt W v P) : ∃ a cap, v = .slice a P.length cap := by
  rcases h with ⟨rfl, rfl⟩ | ⟨g, cap, rfl, _⟩
  · exact ⟨none, 0, rfl⟩
  · exact ⟨_, cap, rfl⟩
theorem refStarts_any (P : List (List UInt8)) (v : Value) (t : ByteArray) (w : World) (hP : ∀ p ∈ P, Pcs p) (h16 : P.length ≤ 16) (hv : TextsAt w v P) :
    Calls Try.prog 32 #[v, .string t] w fun e w' => e = .returned (.bool (startsB (P.map adm) t.data.toList)) ∧ Below w.heap.size w w' := by
  have hl : t.data.toList.length = t.size := by simp
  unfold startsB
  rw [each_take, hl, List.length_map]
  by_cases h : P.length ≤ t.size
  · rw [decide_eq_true h, Bool.true_and]
    rcases hv with ⟨rfl, rfl⟩ | ⟨g, cap, rfl, hg, hc⟩
    · refine (refStarts_none t w).mono ?_
      rintro e w' ⟨rfl, rfl⟩
      refine ⟨?_, Below.refl _ _⟩
      cases t.data.toList <;> rfl
    · exact refStarts_long P g cap t w hP h16 hg hc h
  · rw [decide_eq_false h, Bool.false_and]
    obtain ⟨a, cap, rfl⟩ := texts_slice hv
    refine (refStarts_short P.length a cap t w (by omega)).mono ?_
    rintro e w' ⟨rfl, rfl⟩
    exact ⟨rfl, Below.refl _ _⟩
theorem ends_starts (fs : List (UInt8 → Bool)) (l : List UInt8) (h : fs.length ≤ l.length) : startsB fs (l.drop (l.length - fs.length)) = endsB fs l := by
  unfold startsB endsB
  rw [List.take_of_length_le (by rw [List.length_drop]; omega), List.length_drop]
  have : fs.length ≤ l.length - (l.length - fs.length) := by omega
  simp [h, this]
set_option maxHeartbeats 1000000 in
set_option maxRecDepth 100000 in
theorem refEnds_any (P : List (List UInt8)) (v : Value) (t : ByteArray) (w : World) (hP : ∀ p ∈ P, Pcs p) (h16 : P.length ≤ 16) (hv : TextsAt w v P) (ht : t.size ≤ maxLen) :
    Calls Try.prog 31 #[v, .string t] w fun e w' => e = .returned (.bool (endsB (P.map adm) t.data.toList)) ∧ Below w.heap.size w w' := by
  unfold maxLen at ht
  have hl : t.data.toList.length = t.size := by simp
  obtain ⟨a, cap, rfl⟩ := texts_slice hv
  by_cases h : P.length ≤ t.size
  · have HS : Hid (Calls Try.prog 32 #[.slice a P.length cap, .string (t.extract (t.size - P.length) t.size)] w fun e w' => e = .returned (.bool (endsB (P.map adm) t.data.toList)) ∧ Below w.heap.size w w') := hide (by
      have := refStarts_any P _ (t.extract (t.size - P.length) t.size) w hP h16 hv
      rw [extract_str, str_list, List.take_of_length_le (by simp)] at this
      have e := ends_starts (P.map adm) t.data.toList (by rw [List.length_map]; omega)
      rw [List.length_map, hl] at e
      rw [e] at this
      rw [extract_str, List.take_of_length_le (by simp)]
      exact this)
    have hsub : (t.size : Int) - (P.length : Int) = ((t.size - P.length : Nat) : Int) := by omega
    have hw : IntKind.i64.wrap ((t.size : Int) - (P.length : Int)) = ((t.size - P.length : Nat) : Int) := by rw [hsub]; simp [IntKind.wrap, IntKind.signed, IntKind.bits]; omega
    have hmz : ((t.size - P.length : Nat) : Int) ≤ (t.size : Int) := by omega
    have hnl : ¬ (t.size : Int) < (P.length : Int) := by omega
    generalize endsB (P.map adm) t.data.toList = RES at *
    clear hv hP hl
    generalize P.length = n at *
    generalize t.size - n = m at *
    clear hsub
    go_enter Try.func31, Try.ntmps31
    go_wp2_with (go_at_call 32; refine (unhide HS).mono ?_; rintro e w1 ⟨rfl, hb1⟩; have HB1 := hide hb1; clear hb1)
    go_ret
    exact ⟨rfl, unhide HB1⟩
  · have e : endsB (P.map adm) t.data.toList = false := by unfold endsB; rw [List.length_map, hl, decide_eq_false h, Bool.false_and]
    rw [e]
    have hnl : (t.size : Int) < (P.length : Int) := by omega
    go_enter Try.func31, Try.ntmps31
    go_wp2
    go_ret
    exact ⟨rfl, Below.refl _ _⟩

end Pt
end Go.Proofs.Ytjcchogilbekoaa
