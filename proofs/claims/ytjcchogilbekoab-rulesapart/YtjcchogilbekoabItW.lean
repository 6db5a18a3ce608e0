/- Contracts: the items of a pattern: only, others, has. -/
import Derived.Test.YtjcchogilbekoabChecked
import Derived.Test.YtjcchogilbekoabCdS
import Derived.WalkKit
import Derived.WalkSpells
import Derived.WalkLawsBesides
import Derived.Deep.QuietTactic
import Derived.BigQuiet
import Derived.Deep.DeepFit
import Derived.Lib.Strings
import Derived.Laws.Rows
import Derived.Laws.BitsAll
namespace Go.Proofs.Ytjcchogilbekoab
open Go.RowKit
namespace Pt
open Cd

theorem hide {p : Prop} (h : p) : Hid p := h
theorem unhide {p : Prop} (h : Hid p) : p := h
/-- the four cells of an item -/
def itC (f : UInt8 → Bool) : Array Value := #[.int .u64 (wd f 0), .int .u64 (wd f 1), .int .u64 (wd f 2), .int .u64 (wd f 3)]
theorem itC_get (f : UInt8 → Bool) {k : Nat} (h : k < 4) : (itC f)[k]? = some (.int .u64 (wd f k)) := by
  have : k = 0 ∨ k = 1 ∨ k = 2 ∨ k = 3 := by omega
  rcases this with rfl | rfl | rfl | rfl <;> rfl

theorem bit_has {x j : Nat} (h : x < 18446744073709551616) : (bits BinOp.and IntKind.u64 ((x : Int) / 2 ^ j) 1 == 1) = x.testBit j := by
  have e : ((x : Int) / 2 ^ j) = ((x / 2 ^ j : Nat) : Int) := by simp
  have h2 : x / 2 ^ j < 18446744073709551616 := Nat.lt_of_le_of_lt (Nat.div_le_self _ _) h
  rw [e, show (1 : Int) = ((1 : Nat) : Int) from rfl, bits_and_u64_nat _ _ h2 (by decide), Nat.and_one_is_mod, Nat.testBit_eq_decide_div_mod_eq, Bool.eq_iff_iff, beq_iff_eq, decide_eq_true_eq]
  omega
theorem bit_not (f : UInt8 → Bool) (k : Nat) : bits BinOp.xor IntKind.u64 18446744073709551615 ((wd f k : Nat) : Int) = ((wd (fun b => !f b) k : Nat) : Int) := by
  rw [show (18446744073709551615 : Int) = ((18446744073709551615 : Nat) : Int) from rfl, bits_xor_u64_nat _ _ (by decide) (wd_lt f k)]
  congr 1
  apply Nat.eq_of_testBit_eq
  intro j
  have e : (18446744073709551615 : Nat) = 2 ^ 64 - 1 := by decide
  rw [Nat.testBit_xor, e, Nat.testBit_two_pow_sub_one, wd_bit, wd_bit]
  cases decide (j < 64) <;> simp
theorem pow_lt64 {j : Nat} (hj : j < 64) : 2 ^ j < 18446744073709551616 := by
  have : 2 ^ j ≤ 2 ^ 63 := Nat.pow_le_pow_right (by decide) (by omega)
  have e : 2 ^ 63 = 9223372036854775808 := by decide
  omega
theorem bit_put {x j : Nat} (h : x < 18446744073709551616) (hj : j < 64) : bits BinOp.or IntKind.u64 (x : Int) (IntKind.u64.wrap (2 ^ j)) = ((x ||| 2 ^ j : Nat) : Int) := by
  have e : ((2 : Int) ^ j) = ((2 ^ j : Nat) : Int) := by simp
  have h2 := pow_lt64 hj
  rw [e, IntKind.wrap_u64]
  have e3 : ((2 ^ j : Nat) : Int) % 18446744073709551616 = ((2 ^ j : Nat) : Int) := by generalize 2 ^ j = p at *; omega
  rw [e3]
  exact bits_or_u64_nat _ _ h h2
theorem ret_bool {a b : Bool} (h : a = b) : Ending.returned (.bool a) = .returned (.bool b) := by rw [h]

set_option maxHeartbeats 1000000 in
set_option maxRecDepth 100000 in
theorem has_any (f : UInt8 → Bool) (b : UInt8) (w : World) :
    Calls Try.prog 32 #[.agg (itC f), .int .u8 (b.toNat : Int)] w fun e w' => e = .returned (.bool (f b)) ∧ w' = w.alloc (.cells (itC f) 45) := by
  have hb : (b.toNat : Int) < 256 := by have := b.toNat_lt; omega
  have hg := itC_get f (k := b.toNat / 64) (by omega)
  have HX := hide (wd_has f b)
  have HL := hide (wd_lt f (b.toNat / 64))
  generalize wd f (b.toNat / 64) = x at *
  generalize itC f = C at *
  go_enter Try.func32, Try.ntmps32
  go_wp2
  go_ret
  exact ⟨ret_bool ((bit_has (unhide HL)).trans (unhide HX)), rfl⟩

/-- the first k cells turned -/
def mixC (f : UInt8 → Bool) (k : Nat) : Array Value := #[.int .u64 (if 0 < k then wd (fun b => !f b) 0 else wd f 0 : Nat), .int .u64 (if 1 < k then wd (fun b => !f b) 1 else wd f 1 : Nat), .int .u64 (if 2 < k then wd (fun b => !f b) 2 else wd f 2 : Nat), .int .u64 (if 3 < k then wd (fun b => !f b) 3 else wd f 3 : Nat)]
theorem mixC_start (f : UInt8 → Bool) : itC f = mixC f 0 := rfl
theorem mixC_end (f : UInt8 → Bool) : mixC f 4 = itC (fun b => !f b) := rfl
theorem mixC_get (f : UInt8 → Bool) {k : Nat} (h : k < 4) : (mixC f k)[k]? = some (.int .u64 (wd f k)) := by
  have : k = 0 ∨ k = 1 ∨ k = 2 ∨ k = 3 := by omega
  rcases this with rfl | rfl | rfl | rfl <;> rfl
theorem mixC_set (f : UInt8 → Bool) {k : Nat} (h : k < 4) : (mixC f k).setIfInBounds k (.int .u64 (wd (fun b => !f b) k)) = mixC f (k + 1) := by
  have : k = 0 ∨ k = 1 ∨ k = 2 ∨ k = 3 := by omega
  rcases this with rfl | rfl | rfl | rfl <;> rfl
def zeroI : Array Value := #[.int .u64 0, .int .u64 0, .int .u64 0, .int .u64 0]

set_option maxHeartbeats 1000000 in
set_option maxRecDepth 100000 in
theorem others_any (f : UInt8 → Bool) (w : World) :
    Calls Try.prog 30 #[.agg (itC f)] w fun e w' => e = .returned (.agg (itC (fun b => !f b))) ∧ w' = (w.alloc (.cells (itC (fun b => !f b)) 45)).alloc (.cells (itC (fun b => !f b)) 45) := by
  have HN := hide (fun k => bit_not f k)
  have HG := hide (fun k h => mixC_get f (k := k) h)
  have HS := hide (fun k h => mixC_set f (k := k) h)
  go_enter Try.func30, Try.ntmps30
  go_wp2
  go_loopw [4] (fun i wr => ∃ k : Nat, k ≤ 4 ∧ i = .int .i64 k ∧ wr = (w.alloc (.cells (mixC f k) 45)).alloc (.cells #[.int .u64 0, .int .u64 0, .int .u64 0, .int .u64 0] 45)) (fun i _ => 4 - (intOf i).toNat)
  case atStart => exact ⟨0, by omega, rfl, rfl⟩
  case round =>
    obtain ⟨k, hk, rfl, rfl⟩ := hrel
    by_cases hlt : k < 4
    · have hltz : (k : Int) < 4 := by omega
      have hg := unhide HG k hlt
      have hn := unhide HN k
      have HS2 := hide (unhide HS k hlt)
      generalize mixC f k = C at *
      generalize wd f k = x at *
      generalize wd (fun b => !f b) k = y at *
      go_wp2
      go_roundw
      case rel => exact ⟨k + 1, by omega, by go_num, by rw [← unhide HS2, ← hn]; rfl⟩
      case measure => simp [intOf]; omega
    · have hltz : ¬ (k : Int) < 4 := by omega
      have hC : mixC f k = #[.int .u64 (wd (fun b => !f b) 0), .int .u64 (wd (fun b => !f b) 1), .int .u64 (wd (fun b => !f b) 2), .int .u64 (wd (fun b => !f b) 3)] := by
        obtain rfl : k = 4 := by omega
        exact mixC_end f
      rw [hC]
      clear hC HN HG HS
      go_wp2
      exact bodyPost_ret (v := .agg (itC (fun b => !f b))) (by simp [results, Try.results30, go_sem, itC]) rfl ⟨rfl, rfl⟩

theorem take_snoc (s : ByteArray) (k : Nat) (h : k < s.size) : s.data.toList.take (k + 1) = s.data.toList.take k ++ [s[k]] := by
  rw [List.take_succ_eq_append_getElem (by simpa using h)]; rfl
theorem itC_put (f : UInt8 → Bool) (c : UInt8) : (itC f).setIfInBounds (c.toNat / 64) (.int .u64 ((wd f (c.toNat / 64) ||| 2 ^ (c.toNat % 64) : Nat) : Int)) = itC (fun b => f b || b == c) := by
  have hc := c.toNat_lt
  have hk : c.toNat / 64 < 4 := by omega
  have key : ∀ k, k < 4 → wd (fun b => f b || b == c) k = if k = c.toNat / 64 then wd f k ||| 2 ^ (c.toNat % 64) else wd f k := fun k h => wd_put f c k h
  generalize c.toNat / 64 = q at *
  generalize 2 ^ (c.toNat % 64) = p at *
  unfold itC
  rw [key 0 (by decide), key 1 (by decide), key 2 (by decide), key 3 (by decide)]
  have : q = 0 ∨ q = 1 ∨ q = 2 ∨ q = 3 := by omega
  rcases this with rfl | rfl | rfl | rfl <;> rfl
/-- the set of the bytes of a list -/
def setOf (l : List UInt8) : UInt8 → Bool := fun b => l.contains b
theorem setOf_snoc (l : List UInt8) (c : UInt8) : setOf (l ++ [c]) = fun b => setOf l b || b == c := by
  funext b
  unfold setOf
  rw [Bool.eq_iff_iff]
  simp
theorem itC_none : itC (setOf []) = #[.int .u64 0, .int .u64 0, .int .u64 0, .int .u64 0] := by
  have : setOf [] = fun _ => false := by funext b; simp [setOf]
  unfold itC
  rw [this]
  simp [wd_none]

set_option maxHeartbeats 1000000 in
set_option maxRecDepth 100000 in
theorem only_any (s : ByteArray) (w : World) (hs : s.size ≤ maxLen) :
    Calls Try.prog 29 #[.string s] w fun e w' => e = .returned (.agg (itC (setOf s.data.toList))) ∧ w' = (w.alloc (.cells (itC (setOf s.data.toList)) 45)).alloc (.cells (itC (setOf s.data.toList)) 45) := by
  unfold maxLen at hs
  go_enter Try.func29, Try.ntmps29
  go_wp2
  go_loopw [4] (fun i wr => ∃ k : Nat, k ≤ s.size ∧ i = .int .i64 k ∧ wr = (w.alloc (.cells #[.int .u64 0, .int .u64 0, .int .u64 0, .int .u64 0] 45)).alloc (.cells (itC (setOf (s.data.toList.take k))) 45)) (fun i _ => s.size - (intOf i).toNat)
  case atStart => exact ⟨0, by omega, rfl, by rw [List.take_zero, itC_none]⟩
  case round =>
    obtain ⟨k, hk, rfl, rfl⟩ := hrel
    by_cases hlt : k < s.size
    · have hg := itC_get (setOf (s.data.toList.take k)) (k := s[k].toNat / 64) (by have := s[k].toNat_lt; omega)
      have HP := hide (itC_put (setOf (s.data.toList.take k)) s[k])
      have HT := hide (congrArg setOf (take_snoc s k hlt))
      have HW := hide (wd_lt (setOf (s.data.toList.take k)) (s[k].toNat / 64))
      have hc : (s[k].toNat : Int) < 256 := by have := s[k].toNat_lt; omega
      generalize itC (setOf (s.data.toList.take k)) = C at *
      generalize wd (setOf (s.data.toList.take k)) (s[k].toNat / 64) = x at *
      go_wp2
      go_roundw
      case rel => exact ⟨k + 1, by omega, by go_num, by rw [bit_put (unhide HW) (Nat.mod_lt _ (by decide)), unhide HP, unhide HT, setOf_snoc]⟩
      case measure => simp [intOf]; omega
    · have hC : itC (setOf (s.data.toList.take k)) = #[.int .u64 (wd (setOf s.data.toList) 0), .int .u64 (wd (setOf s.data.toList) 1), .int .u64 (wd (setOf s.data.toList) 2), .int .u64 (wd (setOf s.data.toList) 3)] := by
        rw [List.take_of_length_le (by simp; omega)]
        rfl
      rw [hC]
      clear hC
      go_wp2
      exact bodyPost_ret (v := .agg (itC (setOf s.data.toList))) (by simp [results, Try.results29, go_sem, itC]) rfl ⟨rfl, rfl⟩
end Pt
end Go.Proofs.Ytjcchogilbekoab
