/- Contract: does each item admit its byte? -/
import Derived.Test.YtjcchogilbekoabAdW
namespace Go.Proofs.Ytjcchogilbekoab
open Go.RowKit
namespace Pt
open Cd

/-- each item admits its byte -/
def each : List (UInt8 → Bool) → List UInt8 → Bool
  | f :: fs, b :: bs => f b && each fs bs
  | _, _ => true
theorem each_step {fs : List (UInt8 → Bool)} {l : List UInt8} {k : Nat} (h1 : k < fs.length) (h2 : k < l.length) : each (fs.drop k) (l.drop k) = (fs[k] l[k] && each (fs.drop (k + 1)) (l.drop (k + 1))) := by
  rw [List.drop_eq_getElem_cons h1, List.drop_eq_getElem_cons h2]
  rfl
theorem each_end {fs : List (UInt8 → Bool)} {l : List UInt8} {k : Nat} (h1 : fs.length ≤ k) : each (fs.drop k) (l.drop k) = true := by
  rw [List.drop_of_length_le h1]
  cases l.drop k <;> rfl

set_option maxHeartbeats 1000000 in
set_option maxRecDepth 100000 in
theorem each_any (fs : List (UInt8 → Bool)) (t : ByteArray) (w : World) (h16 : fs.length ≤ 16) (hl : t.size = fs.length) :
    Calls Try.prog 26 #[.agg (patC fs), .string t] w fun e w' => e = .returned (.bool (each fs t.data.toList)) ∧ Below w.heap.size w w' := by
  obtain ⟨n, hn⟩ : ∃ n, n = fs.length := ⟨_, rfl⟩
  have h0 : (patC fs)[0]? = some (.int .i64 n) := by rw [hn]; exact patC_zero fs
  have HF : Hid (∀ k, k < n → ∃ (f : UInt8 → Bool) (x0 x1 x2 x3 : Nat), (patC fs)[1 + k * 4]? = some (.int .u64 x0) ∧ (patC fs)[1 + k * 4 + 1]? = some (.int .u64 x1) ∧ (patC fs)[1 + k * 4 + 2]? = some (.int .u64 x2) ∧ (patC fs)[1 + k * 4 + 3]? = some (.int .u64 x3) ∧ (∀ (b : UInt8) W, Calls Try.prog 32 #[.agg #[.int .u64 x0, .int .u64 x1, .int .u64 x2, .int .u64 x3], .int .u8 (b.toNat : Int)] W fun e w' => e = .returned (.bool (f b)) ∧ w' = W.alloc (.cells #[.int .u64 x0, .int .u64 x1, .int .u64 x2, .int .u64 x3] 45)) ∧ (∀ h2 : k < t.size, each (fs.drop k) (t.data.toList.drop k) = (f t[k] && each (fs.drop (k + 1)) (t.data.toList.drop (k + 1))))) := fun k h => by
    obtain ⟨c0, c1, c2, c3⟩ := patC_four fs (k := k) (by omega)
    exact ⟨fs[k], _, _, _, _, c0, c1, c2, c3, fun b W => has_any fs[k] b W, fun h2 => each_step (by omega) (by simpa using h2)⟩
  have HEND : Hid (∀ k, n ≤ k → each (fs.drop k) (t.data.toList.drop k) = true) := fun k h => each_end (by omega)
  have HZ : Hid (each (fs.drop 0) (t.data.toList.drop 0) = each fs t.data.toList) := hide (by simp)
  generalize each fs t.data.toList = RES at *
  generalize patC fs = X at *
  have hnz : (n : Int) ≤ 16 := by omega
  have hn1 : n ≤ t.size := by omega
  clear hn hl h16
  go_enter Try.func26, Try.ntmps26
  go_wp2
  go_loopw [8] (fun i wr => ∃ k : Nat, k ≤ n ∧ i = .int .i64 k ∧ wr.heap[w.heap.size]? = some (.cells X 48 (0, 0)) ∧ Below w.heap.size w wr ∧ Hid (each (fs.drop k) (t.data.toList.drop k) = RES)) (fun i _ => n - (intOf i).toNat)
  case atStart => exact ⟨0, by omega, rfl, heap_alloc_last w _, (Below.refl _ w).alloc (Nat.le_refl _) _, HZ⟩
  case round =>
    obtain ⟨k, hk, rfl, hg, hB, HR⟩ := hrel
    have HG := hide hg
    have HB := hide hB
    by_cases hlt : k < n
    · have hltz : (k : Int) < (n : Int) := by omega
      have hltt : k < t.size := by omega
      obtain ⟨f, x0, x1, x2, x3, c0, c1, c2, c3, hh, hst⟩ := unhide HF k hlt
      have hc0 := (cell_of_row wr _ (1 + k * 4) X _ _ hg).trans c0
      have hc1 := (cell_of_row wr _ (1 + k * 4 + 1) X _ _ hg).trans c1
      have hc2 := (cell_of_row wr _ (1 + k * 4 + 2) X _ _ hg).trans c2
      have hc3 := (cell_of_row wr _ (1 + k * 4 + 3) X _ _ hg).trans c3
      have HH2 := hide (fun W => hh t[k] W)
      have HS2 := hide (hst hltt)
      clear c0 c1 c2 c3 hh hst hg hB HF HEND HZ
      cases hf : f t[k] with
      | true =>
        rw [hf] at HS2 HH2
        clear hf
        go_wp2
        go_region_with (go_at_call 32; refine (unhide HH2 _).mono ?_; rintro e W1 ⟨rfl, rfl⟩)
        all_goals
          go_wp2
          go_roundw
          case rel => exact ⟨k + 1, by omega, by go_num, heap_two (unhide HG), ((unhide HB).alloc (unhide HB).size _).drew, by rw [← unhide HR, unhide HS2]; rfl⟩
          case measure => simp [intOf]; omega
      | false =>
        rw [hf] at HS2 HH2
        have HRES : Hid (RES = false) := hide (by rw [← unhide HR, unhide HS2]; rfl)
        clear hf HR HS2
        go_wp2
        go_region_with (go_at_call 32; refine (unhide HH2 _).mono ?_; rintro e W1 ⟨rfl, rfl⟩)
        all_goals
          go_wp2
          go_ret
          exact ⟨ret_bool (unhide HRES).symm, ((unhide HB).alloc (unhide HB).size _).drew⟩
    · have hltz : ¬ (k : Int) < (n : Int) := by omega
      have HRES : Hid (RES = true) := hide (by rw [← unhide HR, unhide HEND k (by omega)])
      clear hg hB HF HEND HZ HR
      go_wp2
      go_ret
      exact ⟨ret_bool (unhide HRES).symm, unhide HB⟩
end Pt
end Go.Proofs.Ytjcchogilbekoab
