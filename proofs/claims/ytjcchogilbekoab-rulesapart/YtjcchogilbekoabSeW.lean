/- Contracts: a pattern's Starts and Ends. -/
import Derived.Test.YtjcchogilbekoabEhW
namespace Go.Proofs.Ytjcchogilbekoab
open Go.RowKit
namespace Pt
open Cd

/-- as many cells as a pattern has -/
def Sz65 (X : Array Value) : Prop := X.size = 65
def ldP (v : Value) : Sem Value := Instr.loadAt 48 v
theorem load_as (v : Value) : Instr.loadAt 48 v = ldP v := rfl
theorem ldP_row {w : World} {g : Nat} {X : Array Value} (hg : w.heap[g]? = some (.cells X 48 (0, 0))) (h : Sz65 X) : (ldP (.pointer (some ⟨g, 0, none⟩))).run Try.prog w = .ok (.agg X) w := by
  have hl := run_loadVar_row (P := Try.prog) w g 48 48 X (0, 0) _ hg Try.underlying48 rfl (by rw [show X.size = 65 from h]; exact infoP)
  simp only [ldP, Instr.loadAt, Instr.sureAddr, Sem.run_bind, Sem.run_pure, Result.andThen_ok, hl]
theorem ldP_new (W : World) (X : Array Value) (h : Sz65 X) : (ldP (.pointer (some ⟨W.heap.size, 0, none⟩))).run Try.prog (W.alloc (.cells X 48)) = .ok (.agg X) (W.alloc (.cells X 48)) := ldP_row (heap_alloc_last W _) h
theorem ldP_drew (W : World) (X : Array Value) (h : Sz65 X) : (ldP (.pointer (some ⟨W.heap.size, 0, none⟩))).run Try.prog ((W.alloc (.cells X 48)).drew) = .ok (.agg X) ((W.alloc (.cells X 48)).drew) := ldP_row (heap_alloc_last W _) h
attribute [local go_sem ↓] load_as
attribute [local go_sem] ldP_new ldP_drew
/-- does w begin with bytes that the items admit? -/
def startsB (fs : List (UInt8 → Bool)) (l : List UInt8) : Bool := decide (fs.length ≤ l.length) && each fs (l.take fs.length)
def endsB (fs : List (UInt8 → Bool)) (l : List UInt8) : Bool := decide (fs.length ≤ l.length) && each fs (l.drop (l.length - fs.length))

set_option maxHeartbeats 1000000 in
set_option maxRecDepth 100000 in
theorem starts_short (fs : List (UInt8 → Bool)) (t : ByteArray) (w : World) (h16 : fs.length ≤ 16) (hl : t.size < fs.length) :
    Calls Try.prog 20 #[.agg (patC fs), .string t] w fun e w' => e = .returned (.bool false) ∧ Below w.heap.size w w' := by
  have h0 := patC_zero fs
  have hX : Sz65 (patC fs) := patC_size fs h16
  generalize patC fs = X at *
  generalize fs.length = n at *
  have hd : decide (n ≤ t.size) = false := by rw [decide_eq_false_iff_not]; omega
  go_enter Try.func20, Try.ntmps20
  go_wp2
  go_quiet (fail)
  go_wp2
  go_ret
  exact ⟨rfl, below_drewN ((Below.refl _ w).alloc (Nat.le_refl _) _) _⟩
set_option maxHeartbeats 1000000 in
set_option maxRecDepth 100000 in
theorem starts_long (fs : List (UInt8 → Bool)) (t : ByteArray) (w : World) (h16 : fs.length ≤ 16) (hl : fs.length ≤ t.size) :
    Calls Try.prog 20 #[.agg (patC fs), .string t] w fun e w' => e = .returned (.bool (each fs (t.data.toList.take fs.length))) ∧ Below w.heap.size w w' := by
  have h0 := patC_zero fs
  have hX : Sz65 (patC fs) := patC_size fs h16
  have HE : Hid (∀ W, Calls Try.prog 26 #[.agg (patC fs), .string (t.extract 0 fs.length)] W fun e w' => e = .returned (.bool (each fs (t.data.toList.take fs.length))) ∧ Below W.heap.size W w') := fun W => by
    have h := each_any fs (t.extract 0 fs.length) W h16 (by simp; omega)
    rw [extract_str, str_list, List.drop_zero, Nat.sub_zero] at h
    rw [extract_str, List.drop_zero, Nat.sub_zero]
    exact h
  generalize each fs (t.data.toList.take fs.length) = RES at *
  generalize patC fs = X at *
  generalize fs.length = n at *
  have hlz : (n : Int) ≤ (t.size : Int) := by omega
  go_enter Try.func20, Try.ntmps20
  go_wp2
  go_region_with (go_at_call 26; refine (unhide HE _).mono ?_; rintro e W1 ⟨rfl, hb1⟩; have HB1 := hide hb1; clear hb1)
  all_goals
    go_wp2
    go_ret
    exact ⟨rfl, (((Below.refl _ w).alloc (Nat.le_refl _) _).drew).trans ((unhide HB1).mono (by simp))⟩
set_option maxHeartbeats 1000000 in
set_option maxRecDepth 100000 in
theorem ends_short (fs : List (UInt8 → Bool)) (t : ByteArray) (w : World) (h16 : fs.length ≤ 16) (hl : t.size < fs.length) :
    Calls Try.prog 21 #[.agg (patC fs), .string t] w fun e w' => e = .returned (.bool false) ∧ Below w.heap.size w w' := by
  have h0 := patC_zero fs
  have hX : Sz65 (patC fs) := patC_size fs h16
  generalize patC fs = X at *
  generalize fs.length = n at *
  have hd : decide (n ≤ t.size) = false := by rw [decide_eq_false_iff_not]; omega
  go_enter Try.func21, Try.ntmps21
  go_wp2
  go_quiet (fail)
  go_wp2
  go_ret
  exact ⟨rfl, below_drewN ((Below.refl _ w).alloc (Nat.le_refl _) _) _⟩
end Pt
end Go.Proofs.Ytjcchogilbekoab
