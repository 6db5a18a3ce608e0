/- Contract: a pattern's Ends, at a text that is long enough. -/
import Derived.Test.YtjcchogilbekoabSeW
namespace Go.Proofs.Ytjcchogilbekoab
open Go.RowKit
namespace Pt
open Cd
attribute [local go_sem ↓] load_as
attribute [local go_sem] ldP_new ldP_drew

set_option maxHeartbeats 1000000 in
set_option maxRecDepth 100000 in
theorem ends_long (fs : List (UInt8 → Bool)) (t : ByteArray) (w : World) (h16 : fs.length ≤ 16) (hl : fs.length ≤ t.size) (hm : t.size ≤ maxLen) :
    Calls Try.prog 21 #[.agg (patC fs), .string t] w fun e w' => e = .returned (.bool (each fs (t.data.toList.drop (t.size - fs.length)))) ∧ Below w.heap.size w w' := by
  have h0 := patC_zero fs
  have hX : Sz65 (patC fs) := patC_size fs h16
  unfold maxLen at hm
  have HE : Hid (∀ W, Calls Try.prog 26 #[.agg (patC fs), .string (t.extract (t.size - fs.length) t.size)] W fun e w' => e = .returned (.bool (each fs (t.data.toList.drop (t.size - fs.length)))) ∧ Below W.heap.size W w') := fun W => by
    have h := each_any fs (t.extract (t.size - fs.length) t.size) W h16 (by simp; omega)
    rw [extract_str, str_list, List.take_of_length_le (by simp)] at h
    rw [extract_str, List.take_of_length_le (by simp)]
    exact h
  generalize each fs (t.data.toList.drop (t.size - fs.length)) = RES at *
  have hsub : (t.size : Int) - (fs.length : Int) = ((t.size - fs.length : Nat) : Int) := by omega
  have hmz : ((t.size - fs.length : Nat) : Int) ≤ (t.size : Int) := by omega
  have hmn : t.size - fs.length ≤ t.size := by omega
  have hm0 : (0 : Int) ≤ ((t.size - fs.length : Nat) : Int) := by omega
  have hm3 : ((t.size - fs.length : Nat) : Int) ≤ 9223372036854775807 := by omega
  have hw : IntKind.i64.wrap ((t.size : Int) - (fs.length : Int)) = ((t.size - fs.length : Nat) : Int) := by rw [hsub]; simp [IntKind.wrap, IntKind.signed, IntKind.bits]; omega
  generalize t.size - fs.length = m at *
  clear hsub
  generalize patC fs = X at *
  generalize fs.length = n at *
  have hlz : (n : Int) ≤ (t.size : Int) := by omega
  go_enter Try.func21, Try.ntmps21
  go_wp2
  go_region_with (go_at_call 26; refine (unhide HE _).mono ?_; rintro e W1 ⟨rfl, hb1⟩; have HB1 := hide hb1; clear hb1)
  all_goals
    go_wp2
    go_ret
    exact ⟨rfl, (((Below.refl _ w).alloc (Nat.le_refl _) _).drew).trans ((unhide HB1).mono (by simp))⟩
end Pt
end Go.Proofs.Ytjcchogilbekoab
