/- Contracts: a pattern's Len, Admits, and what Starts and Ends ask. -/
import Derived.Test.YtgaagbjbolfbjaaRdQ
namespace Go.Proofs.Ytgaagbjbolfbjaa
open Go.RowKit
namespace Pt
open Cd

theorem read_any (s : ByteArray) (w : World) : Calls Try.prog 8 #[.string s] w fun e w' => e = .returned (rdV s.data.toList) ∧ Below w.heap.size w w' := by
  have hsl : s.data.toList.length = s.size := by simp
  by_cases h1 : s.data.toList = [] ∨ 512 < s.size
  · have e : rdV s.data.toList = .tuple #[.agg (patC []), .int .i64 40] := by
      have : rd s.data.toList = ([], 40) := by unfold rd; rw [if_pos (by rw [hsl]; exact h1)]
      rw [rdV, this]; rfl
    rw [e]
    exact read_none s w h1
  · by_cases h2 : s.data.toList = [46]
    · have e : s = ⟨#[46]⟩ := by rw [← str_self s, h2]; rfl
      subst e
      exact read_dot w
    · exact read_loop s w (fun e => h1 (.inl e)) (by have : ¬ 512 < s.size := fun e => h1 (.inr e); omega) h2
theorem flatC_get (fs : List (UInt8 → Bool)) {k : Nat} (hk : k < fs.length) {j : Nat} (hj : j < 4) : (flatC fs)[k * 4 + j]? = some (.int .u64 (wd fs[k] j)) := by
  induction fs generalizing k with
  | nil => simp at hk
  | cons f t ih =>
    have e : flatC (f :: t) = (itC f).toList ++ flatC t := by simp [flatC]
    have hl : (itC f).toList.length = 4 := rfl
    rw [e]
    cases k with
    | zero =>
      rw [List.getElem?_append_left (by rw [hl]; omega), Nat.zero_mul, Nat.zero_add]
      have := itC_get f hj
      simpa using this
    | succ k =>
      rw [List.getElem?_append_right (by rw [hl]; omega), hl, show (k + 1) * 4 + j - 4 = k * 4 + j by omega, ih (by simpa using hk)]
      rfl
theorem patC_get (fs : List (UInt8 → Bool)) {k : Nat} (hk : k < fs.length) {j : Nat} (hj : j < 4) : (patC fs)[1 + (k * 4 + j)]? = some (.int .u64 (wd fs[k] j)) := by
  have h := flatC_get fs hk hj
  have hlt := (List.getElem?_eq_some_iff.1 h).1
  unfold patC
  rw [List.getElem?_toArray, Nat.add_comm 1, List.getElem?_cons_succ, List.getElem?_append_left hlt, h]
theorem patC_four (fs : List (UInt8 → Bool)) {k : Nat} (hk : k < fs.length) : (patC fs)[1 + k * 4]? = some (.int .u64 (wd fs[k] 0)) ∧ (patC fs)[1 + k * 4 + 1]? = some (.int .u64 (wd fs[k] 1)) ∧ (patC fs)[1 + k * 4 + 2]? = some (.int .u64 (wd fs[k] 2)) ∧ (patC fs)[1 + k * 4 + 3]? = some (.int .u64 (wd fs[k] 3)) :=
  ⟨patC_get fs hk (j := 0) (by decide), patC_get fs hk (j := 1) (by decide), patC_get fs hk (j := 2) (by decide), patC_get fs hk (j := 3) (by decide)⟩
theorem patC_zero (fs : List (UInt8 → Bool)) : (patC fs)[0]? = some (.int .i64 fs.length) := by simp [patC]

set_option maxHeartbeats 1000000 in
set_option maxRecDepth 100000 in
theorem len_any (fs : List (UInt8 → Bool)) (w : World) :
    Calls Try.prog 11 #[.agg (patC fs)] w fun e w' => e = .returned (.int .i64 fs.length) ∧ Below w.heap.size w w' := by
  have h0 := patC_zero fs
  generalize patC fs = X at *
  go_enter Try.func11, Try.ntmps11
  go_wp2
  go_ret
  exact ⟨rfl, (Below.refl _ w).alloc (Nat.le_refl _) _⟩
/-- is there such an item, and does it admit b? -/
def admits (fs : List (UInt8 → Bool)) (i : Int) (b : UInt8) : Bool := if h : 0 ≤ i ∧ i.toNat < fs.length then fs[i.toNat] b else false
set_option maxHeartbeats 1000000 in
set_option maxRecDepth 100000 in
theorem admits_none (fs : List (UInt8 → Bool)) (i : Int) (b : UInt8) (w : World) (hlo : -9223372036854775808 ≤ i) (hhi : i ≤ 9223372036854775807) (h : i < 0 ∨ (fs.length : Int) ≤ i) :
    Calls Try.prog 12 #[.agg (patC fs), .int .i64 i, .int .u8 (b.toNat : Int)] w fun e w' => e = .returned (.bool false) ∧ Below w.heap.size w w' := by
  have h0 := patC_zero fs
  generalize patC fs = X at *
  by_cases hi : i < 0
  · have h2 : ¬ 0 ≤ i := by omega
    go_enter Try.func12, Try.ntmps12
    go_wp2
    go_ret
    exact ⟨rfl, (Below.refl _ w).alloc (Nat.le_refl _) _⟩
  · have h2 : 0 ≤ i := by omega
    have h3 : ¬ i < (fs.length : Int) := by omega
    go_enter Try.func12, Try.ntmps12
    go_wp2
    go_ret
    exact ⟨rfl, (Below.refl _ w).alloc (Nat.le_refl _) _⟩
set_option maxHeartbeats 1000000 in
set_option maxRecDepth 100000 in
theorem admits_some (fs : List (UInt8 → Bool)) (k : Nat) (b : UInt8) (w : World) (hk : k < fs.length) (h16 : fs.length ≤ 16) :
    Calls Try.prog 12 #[.agg (patC fs), .int .i64 k, .int .u8 (b.toNat : Int)] w fun e w' => e = .returned (.bool (fs[k] b)) ∧ Below w.heap.size w w' := by
  have h0 := patC_zero fs
  obtain ⟨hc0, hc1, hc2, hc3⟩ := patC_four fs hk
  have HH := hide (fun W => has_any fs[k] b W)
  have hE : itC fs[k] = #[.int .u64 (wd fs[k] 0), .int .u64 (wd fs[k] 1), .int .u64 (wd fs[k] 2), .int .u64 (wd fs[k] 3)] := rfl
  rw [hE] at HH
  clear hE
  have hkz : (k : Int) < (fs.length : Int) := by omega
  generalize patC fs = X at *
  generalize fs[k] b = res at *
  generalize wd fs[k] 0 = x0 at *
  generalize wd fs[k] 1 = x1 at *
  generalize wd fs[k] 2 = x2 at *
  generalize wd fs[k] 3 = x3 at *
  generalize fs.length = n at *
  go_enter Try.func12, Try.ntmps12
  go_wp2_with (go_at_call 25; refine (unhide HH _).mono ?_; rintro e w1 ⟨rfl, rfl⟩)
  go_ret
  exact ⟨rfl, ((Below.refl _ w).alloc (Nat.le_refl _) _).alloc (by simp) _⟩
theorem admits_any (fs : List (UInt8 → Bool)) (i : Int) (b : UInt8) (w : World) (hlo : -9223372036854775808 ≤ i) (hhi : i ≤ 9223372036854775807) (h16 : fs.length ≤ 16) :
    Calls Try.prog 12 #[.agg (patC fs), .int .i64 i, .int .u8 (b.toNat : Int)] w fun e w' => e = .returned (.bool (admits fs i b)) ∧ Below w.heap.size w w' := by
  by_cases h : 0 ≤ i ∧ i.toNat < fs.length
  · have e : admits fs i b = fs[i.toNat] b := by rw [admits, dif_pos h]
    rw [e]
    have h2 := admits_some fs i.toNat b w h.2 h16
    rw [Int.toNat_of_nonneg h.1] at h2
    exact h2
  · have e : admits fs i b = false := by rw [admits, dif_neg h]
    rw [e]
    exact admits_none fs i b w hlo hhi (by omega)
end Pt
end Go.Proofs.Ytgaagbjbolfbjaa
