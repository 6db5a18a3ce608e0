/- Contracts: Read of any text; a pattern's Len. -/
import Derived.Test.YtjcchogilbekoabRdQ
namespace Go.Proofs.Ytjcchogilbekoab
open Go.RowKit
namespace Pt
open Cd

theorem read_any (s : ByteArray) (w : World) : Calls Try.prog 19 #[.string s] w fun e w' => e = .returned (rdV s.data.toList) ∧ Below w.heap.size w w' := by
  have hsl : s.data.toList.length = s.size := by simp
  by_cases h1 : s.data.toList = [] ∨ 512 < s.size
  · have e : rdV s.data.toList = .tuple #[.agg (patC []), .int .i64 40] := by
      have : rd s.data.toList = ([], 40) := by unfold rd; rw [if_pos (by rw [hsl]; exact h1)]
      rw [rdV, this]; rfl
    rw [e]
    exact read_none s w h1
  · by_cases h2 : s.data.toList = [46]
    · have e : s = ⟨#[46]⟩ := by rw [← str_self s, h2]; rfl
      subst e
      exact read_dot w
    · exact read_loop s w (fun e => h1 (.inl e)) (by have : ¬ 512 < s.size := fun e => h1 (.inr e); omega) h2
theorem flatC_get (fs : List (UInt8 → Bool)) {k : Nat} (hk : k < fs.length) {j : Nat} (hj : j < 4) : (flatC fs)[k * 4 + j]? = some (.int .u64 (wd fs[k] j)) := by
  induction fs generalizing k with
  | nil => simp at hk
  | cons f t ih =>
    have e : flatC (f :: t) = (itC f).toList ++ flatC t := by simp [flatC]
    have hl : (itC f).toList.length = 4 := rfl
    rw [e]
    cases k with
    | zero =>
      rw [List.getElem?_append_left (by rw [hl]; omega), Nat.zero_mul, Nat.zero_add]
      have := itC_get f hj
      simpa using this
    | succ k =>
      rw [List.getElem?_append_right (by rw [hl]; omega), hl, show (k + 1) * 4 + j - 4 = k * 4 + j by omega, ih (by simpa using hk)]
      rfl
theorem patC_get (fs : List (UInt8 → Bool)) {k : Nat} (hk : k < fs.length) {j : Nat} (hj : j < 4) : (patC fs)[1 + (k * 4 + j)]? = some (.int .u64 (wd fs[k] j)) := by
  have h := flatC_get fs hk hj
  have hlt := (List.getElem?_eq_some_iff.1 h).1
  unfold patC
  rw [List.getElem?_toArray, Nat.add_comm 1, List.getElem?_cons_succ, List.getElem?_append_left hlt, h]
theorem patC_four (fs : List (UInt8 → Bool)) {k : Nat} (hk : k < fs.length) : (patC fs)[1 + k * 4]? = some (.int .u64 (wd fs[k] 0)) ∧ (patC fs)[1 + k * 4 + 1]? = some (.int .u64 (wd fs[k] 1)) ∧ (patC fs)[1 + k * 4 + 2]? = some (.int .u64 (wd fs[k] 2)) ∧ (patC fs)[1 + k * 4 + 3]? = some (.int .u64 (wd fs[k] 3)) :=
  ⟨patC_get fs hk (j := 0) (by decide), patC_get fs hk (j := 1) (by decide), patC_get fs hk (j := 2) (by decide), patC_get fs hk (j := 3) (by decide)⟩
theorem patC_zero (fs : List (UInt8 → Bool)) : (patC fs)[0]? = some (.int .i64 fs.length) := by simp [patC]

end Pt
end Go.Proofs.Ytjcchogilbekoab
