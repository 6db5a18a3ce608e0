/- Contracts: the document's Starts and Ends; the laws' wakes. -/
import Derived.Test.YtjcchogilbekoaaRaW
namespace Go.Proofs.Ytjcchogilbekoaa
open Go.RowKit
namespace Pt
open Cd

set_option maxHeartbeats 1000000 in
set_option maxRecDepth 100000 in
theorem refStarts_short (n : Nat) (a : Option Addr) (cap : Nat) (t : ByteArray) (w : World) (hl : t.size < n) :
    Calls Try.prog 32 #[.slice a n cap, .string t] w fun e w' => e = .returned (.bool false) ∧ w' = w := by
  have hz : (t.size : Int) < (n : Int) := by omega
  go_enter Try.func32, Try.ntmps32
  go_wp2
  go_ret
  exact ⟨rfl, rfl⟩
theorem each_snoc {P : List (List UInt8)} {l : List UInt8} {k : Nat} (h1 : k < P.length) (h2 : k < l.length) : each ((P.map adm).drop k) (l.drop k) = (adm P[k] l[k] && each ((P.map adm).drop (k + 1)) (l.drop (k + 1))) := by
  rw [each_step (by simpa using h1) h2]
  simp
set_option maxHeartbeats 1000000 in
set_option maxRecDepth 100000 in
theorem refStarts_none (t : ByteArray) (w : World) :
    Calls Try.prog 32 #[.slice none 0 0, .string t] w fun e w' => e = .returned (.bool true) ∧ w' = w := by
  go_enter Try.func32, Try.ntmps32
  go_wp2
  go_loop [5] (fun n => n = .int .i64 0) (fun _ => 0)
  case atStart => rfl
  case round =>
    subst hrel
    go_wp2
    go_ret
    exact ⟨rfl, rfl⟩
set_option maxHeartbeats 1000000 in
set_option maxRecDepth 100000 in
theorem refStarts_long (P : List (List UInt8)) (g cap : Nat) (t : ByteArray) (w : World) (hP : ∀ p ∈ P, Pcs p) (h16 : P.length ≤ 16) (hg : g < w.heap.size) (hcell : ∀ j p, P[j]? = some p → w.cell? ⟨g, j, none⟩ = some (.string (str p))) (hl : P.length ≤ t.size) :
    Calls Try.prog 32 #[.slice (some ⟨g, 0, none⟩) P.length cap, .string t] w fun e w' => e = .returned (.bool (each (P.map adm) t.data.toList)) ∧ Below w.heap.size w w' := by
  obtain ⟨n, hn⟩ : ∃ n, n = P.length := ⟨_, rfl⟩
  have HF : Hid (∀ k W, k < n → Below w.heap.size w W → ∃ p, W.cell? ⟨g, k, none⟩ = some (.string (str p)) ∧ (∀ (b : UInt8) W, Calls Try.prog 41 #[.agg #[.string (str p)], .int .u8 (b.toNat : Int)] W fun e w' => e = .returned (.bool (adm p b)) ∧ w' = W.alloc (.cells #[.string (str p)] 69)) ∧ ∀ h2 : k < t.size, each ((P.map adm).drop k) (t.data.toList.drop k) = (adm p t[k] && each ((P.map adm).drop (k + 1)) (t.data.toList.drop (k + 1)))) := fun k W hk hb => by
    refine ⟨P[k], (hb.cell (p := ⟨g, k, none⟩) hg).trans (hcell k _ (List.getElem?_eq_getElem (by omega))), fun b W => refAdmits_any _ b W (hP _ (List.getElem_mem _)), fun h2 => each_snoc (by omega) (by simpa using h2)⟩
  have HEND : Hid (∀ k, n ≤ k → each ((P.map adm).drop k) (t.data.toList.drop k) = true) := fun k h => each_end (by rw [List.length_map]; omega)
  have HZ : Hid (each ((P.map adm).drop 0) (t.data.toList.drop 0) = each (P.map adm) t.data.toList) := hide (by simp)
  generalize each (P.map adm) t.data.toList = RES at *
  have hnz : (n : Int) ≤ 16 := by omega
  have hn1 : n ≤ t.size := by omega
  rw [← hn]
  clear hn hl h16 hcell hP
  have hnl : ¬ (t.size : Int) < (n : Int) := by omega
  go_enter Try.func32, Try.ntmps32
  go_wp2
  go_loopw [5] (fun i wr => ∃ k : Nat, k ≤ n ∧ i = .int .i64 k ∧ Below w.heap.size w wr ∧ Hid (each ((P.map adm).drop k) (t.data.toList.drop k) = RES)) (fun i _ => n - (intOf i).toNat)
  case atStart => exact ⟨0, by omega, rfl, Below.refl _ w, HZ⟩
  case round =>
    obtain ⟨k, hk, rfl, hB, HR⟩ := hrel
    have HB := hide hB
    by_cases hlt : k < n
    · have hltz : (k : Int) < (n : Int) := by omega
      have hltt : k < t.size := by omega
      obtain ⟨p, hc0, hh, hst⟩ := unhide HF k wr hlt hB
      have HH2 := hide (fun W => hh t[k] W)
      have HS2 := hide (hst hltt)
      clear hh hst hB HF HEND HZ
      generalize str p = T at *
      cases hf : adm p t[k] with
      | true =>
        rw [hf] at HS2 HH2
        clear hf
        go_wp2
        go_region_with (go_at_call 41; refine (unhide HH2 _).mono ?_; rintro e W1 ⟨rfl, rfl⟩)
        all_goals
          go_wp2
          go_roundw
          case rel => exact ⟨k + 1, by omega, by go_num, ((unhide HB).alloc (unhide HB).size _).drew, by rw [← unhide HR, unhide HS2]; rfl⟩
          case measure => simp [intOf]; omega
      | false =>
        rw [hf] at HS2 HH2
        have HRES : Hid (RES = false) := hide (by rw [← unhide HR, unhide HS2]; rfl)
        clear hf HR HS2
        go_wp2
        go_region_with (go_at_call 41; refine (unhide HH2 _).mono ?_; rintro e W1 ⟨rfl, rfl⟩)
        all_goals
          go_wp2
          go_ret
          exact ⟨ret_bool (unhide HRES).symm, ((unhide HB).alloc (unhide HB).size _).drew⟩
    · have hltz : ¬ (k : Int) < (n : Int) := by omega
      have HRES : Hid (RES = true) := hide (by rw [← unhide HR, unhide HEND k (by omega)])
      clear hB HF HEND HZ HR
      go_wp2
      go_ret
      exact ⟨ret_bool (unhide HRES).symm, unhide HB⟩
end Pt
end Go.Proofs.Ytjcchogilbekoaa
