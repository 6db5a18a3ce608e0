/- Contracts: the items of a pattern: only, others, has. -/
import Derived.Test.YtkefjaifaonlbaaGreatDoorChecked
import Derived.Test.YtkefjaifaonlbaaGreatDoorGz10
import Derived.WalkKit
import Derived.WalkSpells
import Derived.WalkLawsBesides
import Derived.Deep.QuietTactic
import Derived.BigQuiet
import Derived.Deep.DeepFit
import Derived.Lib.Strings
import Derived.Laws.Rows
import Derived.Laws.BitsAll
import Derived.Test.YtkefjaifaonlbaaGreatDoorShAll
import Derived.Deep.RegionWith
import Derived.BigRegion
namespace Go.Proofs.YtkefjaifaonlbaaGreatDoor
open Go.RowKit
namespace Pt
open Cd

theorem hide {p : Prop} (h : p) : Hid p := h
theorem unhide {p : Prop} (h : Hid p) : p := h
/-- the four cells of an item -/
def itC (f : UInt8 → Bool) : Array Value := #[.int .u64 (wd f 0), .int .u64 (wd f 1), .int .u64 (wd f 2), .int .u64 (wd f 3)]
theorem itC_get (f : UInt8 → Bool) {k : Nat} (h : k < 4) : (itC f)[k]? = some (.int .u64 (wd f k)) := by
  have : k = 0 ∨ k = 1 ∨ k = 2 ∨ k = 3 := by omega
  rcases this with rfl | rfl | rfl | rfl <;> rfl

theorem bit_has {x j : Nat} (h : x < 18446744073709551616) : (bits BinOp.and IntKind.u64 ((x : Int) / 2 ^ j) 1 == 1) = x.testBit j := by
  have e : ((x : Int) / 2 ^ j) = ((x / 2 ^ j : Nat) : Int) := by simp
  have h2 : x / 2 ^ j < 18446744073709551616 := Nat.lt_of_le_of_lt (Nat.div_le_self _ _) h
  rw [e, show (1 : Int) = ((1 : Nat) : Int) from rfl, bits_and_u64_nat _ _ h2 (by decide), Nat.and_one_is_mod, Nat.testBit_eq_decide_div_mod_eq, Bool.eq_iff_iff, beq_iff_eq, decide_eq_true_eq]
  omega
theorem bit_not (f : UInt8 → Bool) (k : Nat) : bits BinOp.xor IntKind.u64 18446744073709551615 ((wd f k : Nat) : Int) = ((wd (fun b => !f b) k : Nat) : Int) := by
  rw [show (18446744073709551615 : Int) = ((18446744073709551615 : Nat) : Int) from rfl, bits_xor_u64_nat _ _ (by decide) (wd_lt f k)]
  congr 1
  apply Nat.eq_of_testBit_eq
  intro j
  have e : (18446744073709551615 : Nat) = 2 ^ 64 - 1 := by decide
  rw [Nat.testBit_xor, e, Nat.testBit_two_pow_sub_one, wd_bit, wd_bit]
  cases decide (j < 64) <;> simp
theorem pow_lt64 {j : Nat} (hj : j < 64) : 2 ^ j < 18446744073709551616 := by
  have : 2 ^ j ≤ 2 ^ 63 := Nat.pow_le_pow_right (by decide) (by omega)
  have e : 2 ^ 63 = 9223372036854775808 := by decide
  omega
theorem bit_put {x j : Nat} (h : x < 18446744073709551616) (hj : j < 64) : bits BinOp.or IntKind.u64 (x : Int) (IntKind.u64.wrap (2 ^ j)) = ((x ||| 2 ^ j : Nat) : Int) := by
  have e : ((2 : Int) ^ j) = ((2 ^ j : Nat) : Int) := by simp
  have h2 := pow_lt64 hj
  rw [e, IntKind.wrap_u64]
  have e3 : ((2 ^ j : Nat) : Int) % 18446744073709551616 = ((2 ^ j : Nat) : Int) := by generalize 2 ^ j = p at *; omega
  rw [e3]
  exact bits_or_u64_nat _ _ h h2
theorem ret_bool {a b : Bool} (h : a = b) : Ending.returned (.bool a) = .returned (.bool b) := by rw [h]

set_option maxHeartbeats 1000000 in
set_option maxRecDepth 100000 in
theorem has_any (f : UInt8 → Bool) (b : UInt8) (w : World) :
    Calls Tryz.prog 158 #[.agg (itC f), .int .u8 (b.toNat : Int)] w fun e w' => e = .returned (.bool (f b)) ∧ w' = w.alloc (.cells (itC f) 195) := by
  have hb : (b.toNat : Int) < 256 := by have := b.toNat_lt; omega
  have hg := itC_get f (k := b.toNat / 64) (by omega)
  have HX := hide (wd_has f b)
  have HL := hide (wd_lt f (b.toNat / 64))
  generalize wd f (b.toNat / 64) = x at *
  generalize itC f = C at *
  go_enter Tryz.func158, Tryz.ntmps158
  go_wp2
  go_ret
  exact ⟨ret_bool ((bit_has (unhide HL)).trans (unhide HX)), rfl⟩

/-- the first k cells turned -/
def mixC (f : UInt8 → Bool) (k : Nat) : Array Value := #[.int .u64 (if 0 < k then wd (fun b => !f b) 0 else wd f 0 : Nat), .int .u64 (if 1 < k then wd (fun b => !f b) 1 else wd f 1 : Nat), .int .u64 (if 2 < k then wd (fun b => !f b) 2 else wd f 2 : Nat), .int .u64 (if 3 < k then wd (fun b => !f b) 3 else wd f 3 : Nat)]
theorem mixC_start (f : UInt8 → Bool) : itC f = mixC f 0 := rfl
theorem mixC_end (f : UInt8 → Bool) : mixC f 4 = itC (fun b => !f b) := rfl
theorem mixC_get (f : UInt8 → Bool) {k : Nat} (h : k < 4) : (mixC f k)[k]? = some (.int .u64 (wd f k)) := by
  have : k = 0 ∨ k = 1 ∨ k = 2 ∨ k = 3 := by omega
  rcases this with rfl | rfl | rfl | rfl <;> rfl
theorem mixC_set (f : UInt8 → Bool) {k : Nat} (h : k < 4) : (mixC f k).setIfInBounds k (.int .u64 (wd (fun b => !f b) k)) = mixC f (k + 1) := by
  have : k = 0 ∨ k = 1 ∨ k = 2 ∨ k = 3 := by omega
  rcases this with rfl | rfl | rfl | rfl <;> rfl
def zeroI : Array Value := #[.int .u64 0, .int .u64 0, .int .u64 0, .int .u64 0]

set_option maxHeartbeats 1000000 in
set_option maxRecDepth 100000 in
theorem others_any (f : UInt8 → Bool) (w : World) :
    Calls Tryz.prog 155 #[.agg (itC f)] w fun e w' => e = .returned (.agg (itC (fun b => !f b))) ∧ w' = (w.alloc (.cells (itC (fun b => !f b)) 195)).alloc (.cells (itC (fun b => !f b)) 195) := by
  have HN := hide (fun k => bit_not f k)
  have HG := hide (fun k h => mixC_get f (k := k) h)
  have HS := hide (fun k h => mixC_set f (k := k) h)
  go_enter Tryz.func155, Tryz.ntmps155
  go_wp2
  go_loopw [4] (fun i wr => ∃ k : Nat, k ≤ 4 ∧ i = .int .i64 k ∧ wr = (w.alloc (.cells (mixC f k) 195)).alloc (.cells #[.int .u64 0, .int .u64 0, .int .u64 0, .int .u64 0] 195)) (fun i _ => 4 - (intOf i).toNat)
  case atStart => exact ⟨0, by omega, rfl, rfl⟩
  case round =>
    obtain ⟨k, hk, rfl, rfl⟩ := hrel
    by_cases hlt : k < 4
    · have hltz : (k : Int) < 4 := by omega
      have hg := unhide HG k hlt
      have hn := unhide HN k
      have HS2 := hide (unhide HS k hlt)
      generalize mixC f k = C at *
      generalize wd f k = x at *
      generalize wd (fun b => !f b) k = y at *
      go_wp2
      go_roundw
      case rel => exact ⟨k + 1, by omega, by go_num, by rw [← unhide HS2, ← hn]; rfl⟩
      case measure => simp [intOf]; omega
    · have hltz : ¬ (k : Int) < 4 := by omega
      have hC : mixC f k = #[.int .u64 (wd (fun b => !f b) 0), .int .u64 (wd (fun b => !f b) 1), .int .u64 (wd (fun b => !f b) 2), .int .u64 (wd (fun b => !f b) 3)] := by
        obtain rfl : k = 4 := by omega
        exact mixC_end f
      rw [hC]
      clear hC HN HG HS
      go_wp2
      exact bodyPost_ret (v := .agg (itC (fun b => !f b))) (by simp [results, Tryz.results155, go_sem, itC]) rfl ⟨rfl, rfl⟩

theorem take_snoc (s : ByteArray) (k : Nat) (h : k < s.size) : s.data.toList.take (k + 1) = s.data.toList.take k ++ [s[k]] := by
  rw [List.take_succ_eq_append_getElem (by simpa using h)]; rfl
theorem itC_put (f : UInt8 → Bool) (c : UInt8) : (itC f).setIfInBounds (c.toNat / 64) (.int .u64 ((wd f (c.toNat / 64) ||| 2 ^ (c.toNat % 64) : Nat) : Int)) = itC (fun b => f b || b == c) := by
  have hc := c.toNat_lt
  have hk : c.toNat / 64 < 4 := by omega
  have key : ∀ k, k < 4 → wd (fun b => f b || b == c) k = if k = c.toNat / 64 then wd f k ||| 2 ^ (c.toNat % 64) else wd f k := fun k h => wd_put f c k h
  generalize c.toNat / 64 = q at *
  generalize 2 ^ (c.toNat % 64) = p at *
  unfold itC
  rw [key 0 (by decide), key 1 (by decide), key 2 (by decide), key 3 (by decide)]
  have : q = 0 ∨ q = 1 ∨ q = 2 ∨ q = 3 := by omega
  rcases this with rfl | rfl | rfl | rfl <;> rfl
/-- the set of the bytes of a list -/
def setOf (l : List UInt8) : UInt8 → Bool := fun b => l.contains b
theorem setOf_snoc (l : List UInt8) (c : UInt8) : setOf (l ++ [c]) = fun b => setOf l b || b == c := by
  funext b
  unfold setOf
  rw [Bool.eq_iff_iff]
  simp
theorem itC_none : itC (setOf []) = #[.int .u64 0, .int .u64 0, .int .u64 0, .int .u64 0] := by
  have : setOf [] = fun _ => false := by funext b; simp [setOf]
  unfold itC
  rw [this]
  simp [wd_none]

set_option maxHeartbeats 1000000 in
set_option maxRecDepth 100000 in
theorem only_any (s : ByteArray) (w : World) (hs : s.size ≤ maxLen) :
    Calls Tryz.prog 154 #[.string s] w fun e w' => e = .returned (.agg (itC (setOf s.data.toList))) ∧ w' = (w.alloc (.cells (itC (setOf s.data.toList)) 195)).alloc (.cells (itC (setOf s.data.toList)) 195) := by
  unfold maxLen at hs
  go_enter Tryz.func154, Tryz.ntmps154
  go_wp2
  go_loopw [4] (fun i wr => ∃ k : Nat, k ≤ s.size ∧ i = .int .i64 k ∧ wr = (w.alloc (.cells #[.int .u64 0, .int .u64 0, .int .u64 0, .int .u64 0] 195)).alloc (.cells (itC (setOf (s.data.toList.take k))) 195)) (fun i _ => s.size - (intOf i).toNat)
  case atStart => exact ⟨0, by omega, rfl, by rw [List.take_zero, itC_none]⟩
  case round =>
    obtain ⟨k, hk, rfl, rfl⟩ := hrel
    by_cases hlt : k < s.size
    · have hg := itC_get (setOf (s.data.toList.take k)) (k := s[k].toNat / 64) (by have := s[k].toNat_lt; omega)
      have HP := hide (itC_put (setOf (s.data.toList.take k)) s[k])
      have HT := hide (congrArg setOf (take_snoc s k hlt))
      have HW := hide (wd_lt (setOf (s.data.toList.take k)) (s[k].toNat / 64))
      have hc : (s[k].toNat : Int) < 256 := by have := s[k].toNat_lt; omega
      generalize itC (setOf (s.data.toList.take k)) = C at *
      generalize wd (setOf (s.data.toList.take k)) (s[k].toNat / 64) = x at *
      go_wp2
      go_roundw
      case rel => exact ⟨k + 1, by omega, by go_num, by rw [bit_put (unhide HW) (Nat.mod_lt _ (by decide)), unhide HP, unhide HT, setOf_snoc]⟩
      case measure => simp [intOf]; omega
    · have hC : itC (setOf (s.data.toList.take k)) = #[.int .u64 (wd (setOf s.data.toList) 0), .int .u64 (wd (setOf s.data.toList) 1), .int .u64 (wd (setOf s.data.toList) 2), .int .u64 (wd (setOf s.data.toList) 3)] := by
        rw [List.take_of_length_le (by simp; omega)]
        rfl
      rw [hC]
      clear hC
      go_wp2
      exact bodyPost_ret (v := .agg (itC (setOf s.data.toList))) (by simp [results, Tryz.results154, go_sem, itC]) rfl ⟨rfl, rfl⟩
end Pt
end Go.Proofs.YtkefjaifaonlbaaGreatDoor
/- The shelf. -/
/- Contracts: strings.Cut and strings.CutPrefix at a separator of one byte. -/
namespace Go.Proofs.YtkefjaifaonlbaaGreatDoor
open Go.RowKit
namespace Pt
open Cd

theorem ix_val (l : List UInt8) (c : UInt8) : Lib.indexByte l c = if c ∈ l then ((l.takeWhile (· != c)).length : Int) else -1 := by
  induction l with
  | nil => rfl
  | cons a t ih =>
    unfold Lib.indexByte
    rw [ih, List.takeWhile_cons]
    by_cases h : a = c
    · subst h
      simp
    · have h2 : ¬ c = a := fun e => h e.symm
      by_cases hc : c ∈ t
      · simp [h, hc, h2]
      · simp [h, hc, h2]
theorem one_beq (c : UInt8) (s : ByteArray) : ([c] == s.toList) = decide (s.data.toList = [c]) := by
  rw [ByteArray.toList_eq, Bool.eq_iff_iff, beq_iff_eq, decide_eq_true_eq]
  exact eq_comm
/-- a text of a list -/
def str (l : List UInt8) : ByteArray := ⟨l.toArray⟩
theorem str_list (l : List UInt8) : (str l).data.toList = l := by simp [str]
theorem str_self (s : ByteArray) : str s.data.toList = s := rfl
theorem str_size (l : List UInt8) : (str l).size = l.length := by simp [str, ByteArray.size]
theorem extract_str (s : ByteArray) (a b : Nat) : s.extract a b = str ((s.data.toList.drop a).take (b - a)) := by
  apply ByteArray.ext
  apply Array.toList_inj.1
  simp [str, List.take_drop]

set_option maxHeartbeats 1000000 in
set_option maxRecDepth 100000 in
theorem index1_any (s : ByteArray) (c : UInt8) (w : World) :
    Calls Tryz.prog 111 #[.string s, .string ⟨#[c]⟩] w fun e w' => e = .returned (.int .i64 (Lib.indexByte s.data.toList c)) ∧ w' = w := by
  have HI : Hid (∀ W, Calls Tryz.prog 132 #[.string s, .int .u8 (c.toNat : Int)] W fun e w' => e = .returned (.int .i64 (Lib.indexByte s.data.toList c)) ∧ w' = W) := fun W => by
    have h := Tryz.stringslite_IndexByte s (c.toNat : Int) W
    have e : ((c.toNat : Int)).toNat.toUInt8 = c := by simp
    rw [e] at h
    exact h
  have hq := one_beq c s
  by_cases hs : s.data.toList = [c]
  · have HR : Hid (Lib.indexByte s.data.toList c = 0) := by rw [Hid, hs]; simp [Lib.indexByte]
    rw [decide_eq_true hs] at hq
    clear hs
    generalize Lib.indexByte s.data.toList c = r at *
    go_enter Tryz.func111, Tryz.ntmps111
    go_wp2_with (go_at_call 132; refine (unhide HI _).mono ?_; rintro e w1 ⟨rfl, rfl⟩)
    go_ret
    exact ⟨by rw [unhide HR]; rfl, rfl⟩
  · rw [decide_eq_false hs] at hq
    clear hs
    generalize Lib.indexByte s.data.toList c = r at *
    go_enter Tryz.func111, Tryz.ntmps111
    go_wp2_with (go_at_call 132; refine (unhide HI _).mono ?_; rintro e w1 ⟨rfl, rfl⟩)
    go_ret
    exact ⟨rfl, rfl⟩
theorem tw_facts {l : List UInt8} {c : UInt8} (h : c ∈ l) : (l.takeWhile (· != c)).length < l.length ∧ l.take (l.takeWhile (· != c)).length = l.takeWhile (· != c) ∧ l.drop ((l.takeWhile (· != c)).length + 1) = (l.dropWhile (· != c)).tail := by
  induction l with
  | nil => simp at h
  | cons a t ih =>
    by_cases e : a = c
    · subst e
      simp
    · have hc : c ∈ t := (List.mem_cons.1 h).resolve_left (fun e2 => e e2.symm)
      obtain ⟨h1, h2, h3⟩ := ih hc
      have ea : (a != c) = true := by simp [e]
      rw [List.takeWhile_cons, if_pos ea, List.dropWhile_cons, if_pos ea]
      simp only [List.length_cons, List.take_succ_cons, List.drop_succ_cons, h2, h3]
      exact ⟨by omega, trivial, trivial⟩
theorem ret3 {a a' b b' : ByteArray} {x : Bool} (h1 : a = a') (h2 : b = b') : Ending.returned (.tuple #[.string a, .string b, .bool x]) = .returned (.tuple #[.string a', .string b', .bool x]) := by rw [h1, h2]

set_option maxHeartbeats 1000000 in
set_option maxRecDepth 100000 in
theorem litecut_yes (s : ByteArray) (c : UInt8) (w : World) (hs : s.size ≤ maxLen) (h : c ∈ s.data.toList) :
    Calls Tryz.prog 139 #[.string s, .string ⟨#[c]⟩] w fun e w' => e = .returned (.tuple #[.string (str (s.data.toList.takeWhile (· != c))), .string (str (s.data.toList.dropWhile (· != c)).tail), .bool true]) ∧ ∃ q, w' = w.drewN q := by
  unfold maxLen at hs
  obtain ⟨h1, h2, h3⟩ := tw_facts h
  have HI := hide (fun W => index1_any s c W)
  rw [ix_val, if_pos h] at HI
  have hl : s.data.toList.length = s.size := by simp
  rw [hl] at h1
  have HA : Hid (s.extract 0 (s.data.toList.takeWhile (· != c)).length = str (s.data.toList.takeWhile (· != c))) := by
    rw [Hid, extract_str, List.drop_zero, Nat.sub_zero, h2]
  have HB : Hid (s.extract ((s.data.toList.takeWhile (· != c)).length + 1) s.size = str (s.data.toList.dropWhile (· != c)).tail) := by
    rw [Hid, extract_str, h3, List.take_of_length_le]
    rw [← h3, List.length_drop, hl]
    omega
  clear h2 h3 hl h
  generalize str (s.data.toList.takeWhile (· != c)) = A at *
  generalize str (s.data.toList.dropWhile (· != c)).tail = B at *
  generalize (s.data.toList.takeWhile (· != c)).length = n at *
  go_enter Tryz.func139, Tryz.ntmps139
  go_wp2_with (go_at_call 111; refine (unhide HI _).mono ?_; rintro e w1 ⟨rfl, rfl⟩)
  go_quiet (fail)
  go_wp2
  go_ret3
  exact ⟨ret3 (unhide HA) (unhide HB), _, rfl⟩
theorem ix_no {l : List UInt8} {c : UInt8} (h : c ∉ l) : Lib.indexByte l c = -1 := by rw [ix_val, if_neg h]
set_option maxHeartbeats 1000000 in
set_option maxRecDepth 100000 in
theorem litecut_no (s : ByteArray) (c : UInt8) (w : World) (h : c ∉ s.data.toList) :
    Calls Tryz.prog 139 #[.string s, .string ⟨#[c]⟩] w fun e w' => e = .returned (.tuple #[.string s, .string ⟨#[]⟩, .bool false]) ∧ ∃ q, w' = w.drewN q := by
  have HI := hide (fun W => index1_any s c W)
  rw [ix_no h] at HI
  clear h
  go_enter Tryz.func139, Tryz.ntmps139
  go_wp2_with (go_at_call 111; refine (unhide HI _).mono ?_; rintro e w1 ⟨rfl, rfl⟩)
  go_ret3
  exact ⟨rfl, 0, rfl⟩
set_option maxHeartbeats 1000000 in
set_option maxRecDepth 100000 in
theorem cut_of {s t : Value} {A B : ByteArray} {b : Bool} {w : World} (h : Calls Tryz.prog 139 #[s, t] w fun e w' => e = .returned (.tuple #[.string A, .string B, .bool b]) ∧ ∃ q, w' = w.drewN q) :
    Calls Tryz.prog 119 #[s, t] w fun e w' => e = .returned (.tuple #[.string A, .string B, .bool b]) ∧ ∃ q, w' = w.drewN q := by
  have H := hide h
  clear h
  go_enter Tryz.func119, Tryz.ntmps119
  go_wp2_with (go_at_call 139; refine (unhide H).mono ?_; rintro e w1 ⟨rfl, q1, rfl⟩)
  go_ret3
  exact ⟨rfl, q1, rfl⟩
theorem cut_yes (s : ByteArray) (c : UInt8) (w : World) (hs : s.size ≤ maxLen) (h : c ∈ s.data.toList) :
    Calls Tryz.prog 119 #[.string s, .string ⟨#[c]⟩] w fun e w' => e = .returned (.tuple #[.string (str (s.data.toList.takeWhile (· != c))), .string (str (s.data.toList.dropWhile (· != c)).tail), .bool true]) ∧ ∃ q, w' = w.drewN q := cut_of (litecut_yes s c w hs h)
theorem cut_no (s : ByteArray) (c : UInt8) (w : World) (h : c ∉ s.data.toList) :
    Calls Tryz.prog 119 #[.string s, .string ⟨#[c]⟩] w fun e w' => e = .returned (.tuple #[.string s, .string ⟨#[]⟩, .bool false]) ∧ ∃ q, w' = w.drewN q := cut_of (litecut_no s c w h)

set_option maxHeartbeats 1000000 in
set_option maxRecDepth 100000 in
theorem prefix_yes (s : ByteArray) (c : UInt8) (l : List UInt8) (w : World) (hs : s.size ≤ maxLen) (h : s.data.toList = c :: l) :
    Calls Tryz.prog 156 #[.string s, .string ⟨#[c]⟩] w fun e w' => e = .returned (.tuple #[.string (str l), .bool true]) ∧ w' = w := by
  unfold maxLen at hs
  have hz : 1 ≤ s.size := by have := congrArg List.length h; simp at this; omega
  have HE : Hid (s.extract 1 s.size = str l) := by
    have := congrArg List.length h
    rw [Hid, extract_str, h, List.drop_succ_cons, List.drop_zero, List.take_of_length_le]
    simp at this
    omega
  have he : s.extract 0 1 = ⟨#[c]⟩ := by rw [extract_str, h]; rfl
  clear h
  generalize str l = T at *
  go_enter Tryz.func156, Tryz.ntmps156
  go_wp2
  go_ret2
  exact ⟨by rw [← unhide HE]; rfl, rfl⟩
set_option maxHeartbeats 1000000 in
set_option maxRecDepth 100000 in
theorem prefix_nil (c : UInt8) (w : World) :
    Calls Tryz.prog 156 #[.string ⟨#[]⟩, .string ⟨#[c]⟩] w fun e w' => e = .returned (.tuple #[.string ⟨#[]⟩, .bool false]) ∧ w' = w := by
  go_enter Tryz.func156, Tryz.ntmps156
  go_wp2
  go_ret2
  exact ⟨rfl, rfl⟩
set_option maxHeartbeats 1000000 in
set_option maxRecDepth 100000 in
theorem prefix_no (s : ByteArray) (c d : UInt8) (l : List UInt8) (w : World) (hs : s.size ≤ maxLen) (h : s.data.toList = d :: l) (hd : d ≠ c) :
    Calls Tryz.prog 156 #[.string s, .string ⟨#[c]⟩] w fun e w' => e = .returned (.tuple #[.string s, .bool false]) ∧ w' = w := by
  unfold maxLen at hs
  have hz : 1 ≤ s.size := by have := congrArg List.length h; simp at this; omega
  have he : s.extract 0 1 = ⟨#[d]⟩ := by rw [extract_str, h]; rfl
  have hd2 : (d == c) = false := by simp [hd]
  clear h hd
  go_enter Tryz.func156, Tryz.ntmps156
  go_wp2
  go_ret2
  exact ⟨rfl, rfl⟩
end Pt
end Go.Proofs.YtkefjaifaonlbaaGreatDoor
/- What cond.cut's walks lean on. -/
namespace Go.Proofs.YtkefjaifaonlbaaGreatDoor
open Go.RowKit
namespace Pt
open Cd

theorem ret_cut {C C' : Array Value} {a a' : ByteArray} {x : Bool} (h1 : C = C') (h2 : a = a') : Ending.returned (.tuple #[.agg C, .string a, .bool x]) = .returned (.tuple #[.agg C', .string a', .bool x]) := by rw [h1, h2]
/-- what is new lies above; what was is as it was -/
theorem below_two {w W : World} {a b : Obj} {n : Nat} (h : Below n w W) (hn : n ≤ W.heap.size) : Below n w ((W.alloc a).alloc b) := (h.alloc hn a).alloc (by simp; omega) b

theorem first_byte {s : ByteArray} {c : UInt8} {l : List UInt8} (h : s.data.toList = c :: l) : ∃ hz : 0 < s.size, s[0] = c := by
  have hz : 0 < s.size := by have := congrArg List.length h; simp at this; omega
  refine ⟨hz, ?_⟩
  have h1 : s.data.toList[0]? = some c := by rw [h]; rfl
  have h2 : s.data.toList[0]? = some s[0] := by rw [List.getElem?_eq_getElem (by simp; omega)]; rfl
  rw [h2] at h1
  exact Option.some.inj h1
theorem rest_str {s : ByteArray} {c : UInt8} {l : List UInt8} (h : s.data.toList = c :: l) : s.extract 1 s.size = str l := by
  have := congrArg List.length h
  rw [extract_str, h, List.drop_succ_cons, List.drop_zero, List.take_of_length_le]
  simp at this
  omega
theorem ne_int {a b : UInt8} (h : a ≠ b) : ¬ (a.toNat : Int) = (b.toNat : Int) := fun e => h (UInt8.toNat_inj.1 (by omega))
theorem set_one {c : UInt8} (h : c ≠ 46) : setOf [c] = adm [c] := by funext b; rw [adm_one h, setOf, Bool.eq_iff_iff, con_iff, beq_iff_eq, List.mem_singleton]; exact eq_comm
theorem set_in {c : UInt8} (hc : c ≠ 94) (l : List UInt8) : setOf (c :: l) = adm (91 :: ((c :: l) ++ [93])) := by funext b; rw [List.cons_append, adm_in hc]; rfl
theorem set_out (l : List UInt8) : (fun b => !setOf l b) = adm (91 :: ((94 :: l) ++ [93])) := by funext b; rw [List.cons_append, adm_out]; rfl
theorem only_set (l : List UInt8) (W : World) (h : l.length ≤ maxLen) : Calls Tryz.prog 154 #[.string (str l)] W fun e w' => e = .returned (.agg (itC (setOf l))) ∧ w' = (W.alloc (.cells (itC (setOf l)) 195)).alloc (.cells (itC (setOf l)) 195) := by
  have := only_any (str l) W (by rw [str_size]; exact h)
  rw [str_list] at this
  exact this
theorem cells_four (f : UInt8 → Bool) : ∃ x0 x1 x2 x3 : Nat, itC f = #[.int .u64 x0, .int .u64 x1, .int .u64 x2, .int .u64 x3] := ⟨_, _, _, _, rfl⟩

end Pt
end Go.Proofs.YtkefjaifaonlbaaGreatDoor
/- Contract: cond.cut at a full stop. -/
namespace Go.Proofs.YtkefjaifaonlbaaGreatDoor
open Go.RowKit
namespace Pt
open Cd

set_option maxHeartbeats 1000000 in
set_option maxRecDepth 100000 in
theorem cut_dot (s : ByteArray) (l : List UInt8) (w : World) (hs : s.size ≤ maxLen) (h : s.data.toList = 46 :: l) :
    Calls Tryz.prog 151 #[.string s] w fun e w' => e = .returned (.tuple #[.agg (itC (adm [46])), .string (str l), .bool true]) ∧ Below w.heap.size w w' := by
  unfold maxLen at hs
  have hz : 1 ≤ s.size := by have := congrArg List.length h; simp at this; omega
  have hs0 : s[0] = 46 := by
    have : s.data.toList[0]? = some 46 := by rw [h]; rfl
    have h2 : s.data.toList[0]? = some s[0] := by rw [List.getElem?_eq_getElem (by simp; omega)]; rfl
    rw [h2] at this
    exact Option.some.inj this
  have HE : Hid (s.extract 1 s.size = str l) := by
    have := congrArg List.length h
    rw [Hid, extract_str, h, List.drop_succ_cons, List.drop_zero, List.take_of_length_le]
    simp at this
    omega
  have HO : Hid (∀ W, Calls Tryz.prog 154 #[.string ⟨#[]⟩] W fun e w' => e = .returned (.agg (itC (setOf []))) ∧ w' = (W.alloc (.cells (itC (setOf [])) 195)).alloc (.cells (itC (setOf [])) 195)) := fun W => only_any ⟨#[]⟩ W (by decide)
  have HT : Hid (∀ W, Calls Tryz.prog 155 #[.agg (itC (setOf []))] W fun e w' => e = .returned (.agg (itC (adm [46]))) ∧ w' = (W.alloc (.cells (itC (adm [46])) 195)).alloc (.cells (itC (adm [46])) 195)) := fun W => by
    have h := others_any (setOf []) W
    have e : (fun b => !setOf [] b) = adm [46] := by funext b; rw [adm_dot]; simp [setOf]
    rw [e] at h
    exact h
  clear h
  generalize str l = T at *
  generalize itC (setOf []) = C0 at *
  have HD : Hid (∃ x0 x1 x2 x3 : Nat, itC (adm [46]) = #[.int .u64 x0, .int .u64 x1, .int .u64 x2, .int .u64 x3]) := ⟨_, _, _, _, rfl⟩
  generalize itC (adm [46]) = C at *
  obtain ⟨x0, x1, x2, x3, rfl⟩ := unhide HD
  go_enter Tryz.func151, Tryz.ntmps151
  go_wp2
  go_region_with (first | (go_at_call 154; refine (unhide HO _).mono ?_; rintro e W1 ⟨rfl, rfl⟩) | (go_at_call 155; refine (unhide HT _).mono ?_; rintro e W1 ⟨rfl, rfl⟩))
  all_goals go_wp2
  all_goals refine bodyPost_ret (v := .tuple #[.agg #[.int .u64 x0, .int .u64 x1, .int .u64 x2, .int .u64 x3], .string (s.extract 1 s.size), .bool true]) (by simp [results, Tryz.results151, go_sem]) rfl ⟨ret_cut rfl (unhide HE), ?_⟩
  all_goals repeat (first | exact Below.refl _ _ | refine Below.drew ?_ | refine Below.alloc ?_ (by simp <;> omega) _)
end Pt
end Go.Proofs.YtkefjaifaonlbaaGreatDoor
