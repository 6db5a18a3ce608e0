/- Contract: the document's admitted. -/
import Derived.Test.YtgaagbjbolfbjabByP
namespace Go.Proofs.Ytgaagbjbolfbjab
open Go.RowKit
namespace Pt
open Cd

theorem beq_yes (p : List UInt8) : (fun b => adm p b == true) = adm p := by funext b; cases adm p b <;> rfl
theorem beq_no (p : List UInt8) : (fun b => adm p b == false) = fun b => !adm p b := by funext b; cases adm p b <;> rfl
set_option maxHeartbeats 1000000 in
set_option maxRecDepth 100000 in
theorem admitted_any (p : List UInt8) (want : Bool) (w : World) (hp : Pcs p) :
    Calls Try.prog 30 #[.agg #[.string (str p)], .bool want] w fun e w' => ∃ v, e = .returned v ∧ Own w.heap.size w' v (lso (fun b => adm p b == want)) ∧ Below w.heap.size w w' := by
  obtain ⟨i0, hi, hz0, hz1, hz2⟩ := info_parts infoB
  have HA : Hid (∀ k W, k < 256 → Calls Try.prog 31 #[.agg #[.string (str p)], .int .u8 (k : Nat)] W fun e w' => e = .returned (.bool (adm p (bt k))) ∧ w' = W.alloc (.cells #[.string (str p)] 51)) := fun k W hk => by
    have := refAdmits_any p (bt k) W hp
    rw [btz hk] at this
    exact this
  have HM : Hid (∀ (W : World) v L, Own (w.heap.size + 1) W v L → Own w.heap.size W v L) := fun W v L h => by
    obtain ⟨h0, h | ⟨g, cap, cur, h1, h2, h3⟩⟩ := h
    · exact ⟨h0, .inl h⟩
    · exact ⟨h0, .inr ⟨g, cap, cur, h1, by omega, h3⟩⟩
  have HKY := hide (fun k h => lsoK_yes (f := fun b => adm p b == want) (k := k) h)
  have HKN := hide (fun k h => lsoK_no (f := fun b => adm p b == want) (k := k) h)
  have HKL := hide (fun k => lsoK_len (fun b => adm p b == want) k)
  have HKF := hide (fun k h => lsoK_full (fun b => adm p b == want) (k := k) h)
  generalize str p = T at *
  go_enter Try.func30, Try.ntmps30
  go_wp2
  go_loopw [5, 6] (fun s5 s6 wr => ∃ (k : Nat) (v : Value), v = s5 ∧ s6 = .int .i64 k ∧ k ≤ 256 ∧ Hid (Own (w.heap.size + 1) wr v (lsoK (fun b => adm p b == want) k)) ∧ Hid (wr.heap[w.heap.size]? = some (.cells #[.string T] 51 (0, 0))) ∧ Hid (Below w.heap.size w wr)) (fun _ i _ => 256 - (intOf i).toNat)
  case atStart =>
    refine ⟨0, _, rfl, rfl, by omega, ?_, heap_alloc2_old w _ _, ((Below.refl _ w).alloc (Nat.le_refl _) _).alloc (by simp) _⟩
    have := own_made (w.alloc (.cells #[.string T] 51))
    simp only [World.size_alloc] at this
    exact this
  case round =>
    obtain ⟨k, v, rfl, rfl, hk, HO, HG, HB⟩ := hrel
    by_cases hlt : k < 256
    · have hltz : (k : Int) < 256 := by omega
      have hwr := u8wrap hlt
      have hc0 := cell_of_row wr _ 0 _ _ _ (unhide HG)
      have HLT : Hid (w.heap.size + 1 ≤ wr.heap.size) := (Array.getElem?_eq_some_iff.1 (unhide HG)).1
      have HH2 := hide (fun W => unhide HA k W hlt)
      have hln := unhide HKL k
      cases hf : (adm p (bt k) == want) with
      | true =>
        have HY := hide (unhide HKY k hf)
        generalize lsoK (fun b => adm p b == want) k = acc at *
        generalize adm p (bt k) = x at *
        go_wp2_with (first
          | (go_at_call 31; refine (unhide HH2 _).mono ?_; rintro e W1 ⟨rfl, rfl⟩)
          | (at_builtin; refine wpList_append_own _ rfl _ _ 53 rfl (w.heap.size + 1) 5 i0 (.int .u8 0) 1 1 Try.underlying53 hi hz0 hz1 hz2 rfl (by decide) _ _ _ rfl (((unhide HO).alloc _).alloc _) ⟨wr.heap.size + 1, 0, none⟩ 1 1 [.int .u8 (k : Int)] rfl rfl (new_cells2 _ _ #[.int .u8 (k : Int)] _) (by simp [Value.oneCell']) (by unfold maxLen; omega) (by omega) (by have h1 := unhide HLT; simp; omega) ?_; intro v' w2 hown' hgrow hnil; clear hnil; have HO2 := hide (own_push (btz hlt) hown'); have HB2 := hide (push_below (unhide HLT) (Below.refl _ _) (unhide HO) hgrow); clear hown' hgrow))
        go_roundw
        case rel => exact ⟨k + 1, v', rfl, by go_num, by omega, by rw [unhide HY]; exact HO2, hide (((unhide HB2).block w.heap.size (by omega)).trans (unhide HG)), (unhide HB).trans ((unhide HB2).mono (by omega))⟩
        case measure => simp [intOf]; omega
      | false =>
        have HY := hide (unhide HKN k hf)
        generalize lsoK (fun b => adm p b == want) k = acc at *
        generalize adm p (bt k) = x at *
        go_wp2_with (go_at_call 31; refine (unhide HH2 _).mono ?_; rintro e W1 ⟨rfl, rfl⟩)
        go_roundw
        case rel => exact ⟨k + 1, v, rfl, by go_num, by omega, by rw [unhide HY]; exact (unhide HO).alloc _, hide (heap_two (unhide HG)), (unhide HB).alloc (unhide HB).size _⟩
        case measure => simp [intOf]; omega
    · have hltz : ¬ (k : Int) < 256 := by omega
      have HF := hide (unhide HKF k (by omega))
      go_wp2
      go_ret
      exact ⟨_, rfl, by rw [← unhide HF]; exact unhide HM _ _ _ (unhide HO), unhide HB⟩
end Pt
end Go.Proofs.Ytgaagbjbolfbjab
