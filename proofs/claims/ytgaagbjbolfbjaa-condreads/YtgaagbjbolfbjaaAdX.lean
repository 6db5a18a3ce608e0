/- Contracts: a pattern's Admits, with the world written out. -/
import Derived.Test.YtgaagbjbolfbjaaRtW
namespace Go.Proofs.Ytgaagbjbolfbjaa
open Go.RowKit
namespace Pt
open Cd

set_option maxHeartbeats 1000000 in
set_option maxRecDepth 100000 in
theorem admitsX_none (fs : List (UInt8 → Bool)) (i : Int) (b : UInt8) (w : World) (hlo : -9223372036854775808 ≤ i) (hhi : i ≤ 9223372036854775807) (h : i < 0 ∨ (fs.length : Int) ≤ i) :
    Calls Try.prog 12 #[.agg (patC fs), .int .i64 i, .int .u8 (b.toNat : Int)] w fun e w' => e = .returned (.bool false) ∧ w' = w.alloc (.cells (patC fs) 27) := by
  have h0 := patC_zero fs
  generalize patC fs = X at *
  by_cases hi : i < 0
  · have h2 : ¬ 0 ≤ i := by omega
    go_enter Try.func12, Try.ntmps12
    go_wp2
    go_ret
    exact ⟨rfl, rfl⟩
  · have h2 : 0 ≤ i := by omega
    have h3 : ¬ i < (fs.length : Int) := by omega
    go_enter Try.func12, Try.ntmps12
    go_wp2
    go_ret
    exact ⟨rfl, rfl⟩
set_option maxHeartbeats 1000000 in
set_option maxRecDepth 100000 in
theorem admitsX_some (fs : List (UInt8 → Bool)) (k : Nat) (b : UInt8) (w : World) (hk : k < fs.length) (h16 : fs.length ≤ 16) :
    Calls Try.prog 12 #[.agg (patC fs), .int .i64 k, .int .u8 (b.toNat : Int)] w fun e w' => e = .returned (.bool (fs[k] b)) ∧ w' = (w.alloc (.cells (patC fs) 27)).alloc (.cells (itC fs[k]) 24) := by
  have h0 := patC_zero fs
  obtain ⟨hc0, hc1, hc2, hc3⟩ := patC_four fs hk
  have HH := hide (fun W => has_any fs[k] b W)
  have hE : itC fs[k] = #[.int .u64 (wd fs[k] 0), .int .u64 (wd fs[k] 1), .int .u64 (wd fs[k] 2), .int .u64 (wd fs[k] 3)] := rfl
  rw [hE] at HH ⊢
  clear hE
  have hkz : (k : Int) < (fs.length : Int) := by omega
  generalize patC fs = X at *
  generalize fs[k] b = res at *
  generalize wd fs[k] 0 = x0 at *
  generalize wd fs[k] 1 = x1 at *
  generalize wd fs[k] 2 = x2 at *
  generalize wd fs[k] 3 = x3 at *
  generalize fs.length = n at *
  go_enter Try.func12, Try.ntmps12
  go_wp2_with (go_at_call 25; refine (unhide HH _).mono ?_; rintro e w1 ⟨rfl, rfl⟩)
  go_ret
  exact ⟨rfl, rfl⟩
end Pt
end Go.Proofs.Ytgaagbjbolfbjaa
