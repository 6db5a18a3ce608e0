import Derived.Test.YtidhbhdcoanfcaaGreatDoorChecked
import Derived.WalkSpells
import Derived.WalkLawsBesides
import Derived.BigQuiet
import Derived.Lib.Strings
set_option maxHeartbeats 8000000
set_option maxRecDepth 100000
namespace Go.Proofs.YtidhbhdcoanfcaaGreatDoor.Cd

def adm : List UInt8 → UInt8 → Bool
 | [], _ => false
 | [c], b => c == 46 || c == b
 | _ :: 94 :: r, b => !(r.dropLast.contains b)
 | _ :: c :: r, b => (c :: r).dropLast.contains b
theorem adm_dot (b : UInt8) : adm [46] b = true := by simp [adm]
theorem adm_one {c : UInt8} (h : c ≠ 46) (b : UInt8) : adm [c] b = (c == b) := by simp [adm, h]
theorem adm_out (x : UInt8) (l : List UInt8) (b : UInt8) : adm (x :: 94 :: (l ++ [93])) b = !(l.contains b) := by
 cases l with
 | nil => simp [adm]
 | cons a t =>
  show (!((a :: t ++ [93]).dropLast.contains b)) = _
  rw [List.dropLast_concat]
theorem adm_in {x c : UInt8} (hc : c ≠ 94) (l : List UInt8) (b : UInt8) : adm (x :: c :: (l ++ [93])) b = (c :: l).contains b := by
 unfold adm
 split
 ·simp_all
 ·simp_all
 ·simp_all
 ·rename_i h
  simp only [List.cons.injEq] at h
  obtain ⟨rfl, rfl, rfl⟩ := h
  rw [← List.cons_append, List.dropLast_concat]

def cut1 : List UInt8 → Option (List UInt8 × List UInt8)
 | [] => none
 | c :: r => if c = 91 then (match r.dropWhile (· != 93) with
   | [] => none
   | _ :: rest => if r.takeWhile (· != 93) = [] ∨ r.takeWhile (· != 93) = [94] then none else some (91 :: (r.takeWhile (· != 93) ++ [93]), rest))
  else some ([c], r)
theorem cut1_len {l p r : List UInt8} (h : cut1 l = some (p, r)) : l = p ++ r ∧ 0 < p.length := by
 cases l with
 | nil => simp [cut1] at h
 | cons c t =>
  simp only [cut1] at h
  split at h
  ·rename_i hc
   subst hc
   split at h
   ·simp at h
   ·rename_i x rest hd
    split at h
    ·simp at h
    ·simp only [Option.some.injEq, Prod.mk.injEq] at h
     obtain ⟨rfl, rfl⟩ := h
     refine ⟨?_, by simp⟩
     have h1 := List.takeWhile_append_dropWhile (p := fun x : UInt8 => x != 93) (l := t)
     have h2 : x = 93 := by
      have := List.head?_dropWhile_not (fun x : UInt8 => x != 93) t
      rw [hd] at this
      simpa using this
     subst h2
     rw [hd] at h1
     simp [h1]
  ·simp only [Option.some.injEq, Prod.mk.injEq] at h
   obtain ⟨rfl, rfl⟩ := h
   exact ⟨rfl, by simp⟩
def pcsF : Nat → List UInt8 → Option (List (List UInt8))
 | _, [] => some []
 | 0, _ :: _ => none
 | n + 1, c :: t => match cut1 (c :: t) with
  | none => none
  | some (p, r) => (pcsF n r).map (p :: ·)
def pcs (l : List UInt8) : Option (List (List UInt8)) := pcsF l.length l
theorem pcsF_eq (n m : Nat) (l : List UInt8) (hn : l.length ≤ n) (hm : l.length ≤ m) : pcsF n l = pcsF m l := by
 induction n generalizing l m with
 | zero =>
  have : l = [] := List.eq_nil_of_length_eq_zero (by omega)
  subst this
  simp [pcsF]
 | succ n ih =>
  cases l with
  | nil => simp [pcsF]
  | cons c t =>
   cases m with
   | zero => simp at hm
   | succ m =>
    simp only [pcsF]
    cases hc : cut1 (c :: t) with
    | none => rfl
    | some q =>
     obtain ⟨p, r⟩ := q
     obtain ⟨h1, h2⟩ := cut1_len hc
     have h3 := congrArg List.length h1
     simp only [List.length_append, List.length_cons] at h3 hn hm
     simp only
     rw [ih m r (by omega) (by omega)]
theorem pcs_nil : pcs [] = some [] := rfl
theorem pcs_bad {l : List UInt8} (h0 : l ≠ []) (h : cut1 l = none) : pcs l = none := by
 cases l with
 | nil => exact absurd rfl h0
 | cons c t => simp [pcs, pcsF, h]
theorem pcs_cut {l p r : List UInt8} (h : cut1 l = some (p, r)) : pcs l = (pcs r).map (p :: ·) := by
 cases l with
 | nil => simp [cut1] at h
 | cons c t =>
  obtain ⟨h1, h2⟩ := cut1_len h
  have h3 := congrArg List.length h1
  simp only [List.length_append, List.length_cons] at h3
  simp only [pcs, pcsF, List.length_cons, h]
  rw [pcsF_eq _ r.length r (by omega) (Nat.le_refl _)]
def rd (l : List UInt8) : List (List UInt8) × Nat :=
 if l = [] ∨ 512 < l.length then ([], 40) else if l = [46] then ([], 0) else match pcs l with
  | none => ([], 41)
  | some P => if 16 < P.length then ([], 42) else (P, 0)
theorem rd_len (l : List UInt8) : (rd l).1.length ≤ 16 := by
 unfold rd
 split
 ·simp
 ·split
  ·simp
  ·split
   ·simp
   ·split
    ·simp
    ·simp; omega

def bt (n : Nat) : UInt8 := UInt8.ofNat n
theorem bt_toNat (n : Nat) : (bt n).toNat = n % 256 := by simp [bt]
def wdn (f : UInt8 → Bool) (k : Nat) : Nat → Nat
 | 0 => 0
 | n + 1 => wdn f k n + if f (bt (64 * k + n)) then 2 ^ n else 0
def wd (f : UInt8 → Bool) (k : Nat) : Nat := wdn f k 64
theorem wdn_lt (f : UInt8 → Bool) (k n : Nat) : wdn f k n < 2 ^ n := by
 induction n with
 | zero => simp [wdn]
 | succ n ih => unfold wdn; rw [Nat.pow_succ]; split <;> omega
theorem wdn_bit (f : UInt8 → Bool) (k n j : Nat) : (wdn f k n).testBit j = (decide (j < n) && f (bt (64 * k + j))) := by
 induction n with
 | zero => simp [wdn]
 | succ n ih =>
  unfold wdn
  have hlt := wdn_lt f k n
  by_cases hf : f (bt (64 * k + n)) = true
  ·rw [if_pos hf, Nat.add_comm]
   by_cases hj : j = n
   ·subst hj
    rw [Nat.testBit_two_pow_add_eq, Nat.testBit_lt_two_pow hlt]
    simp [hf]
   ·by_cases hj2 : j < n
    ·rw [Nat.testBit_two_pow_add_gt hj2, ih]
     have : j < n + 1 := by omega
     simp [hj2, this]
    ·have h1 : 2 ^ n + wdn f k n < 2 ^ j := by
      have : 2 ^ (n + 1) ≤ 2 ^ j := Nat.pow_le_pow_right (by omega) (by omega)
      rw [Nat.pow_succ] at this
      omega
     rw [Nat.testBit_lt_two_pow h1]
     have : ¬ j < n + 1 := by omega
     simp [this]
  ·rw [if_neg hf, Nat.add_zero, ih]
   by_cases hj : j = n
   ·subst hj
    simp at hf
    simp [hf]
   ·by_cases hj2 : j < n
    ·have : j < n + 1 := by omega
     simp [hj2, this]
    ·have : ¬ j < n + 1 := by omega
     simp [hj2, this]
theorem wd_lt (f : UInt8 → Bool) (k : Nat) : wd f k < 18446744073709551616 := wdn_lt f k 64
theorem wd_bit (f : UInt8 → Bool) (k j : Nat) : (wd f k).testBit j = (decide (j < 64) && f (bt (64 * k + j))) := wdn_bit f k 64 j
theorem byte_split (b : UInt8) : bt (64 * (b.toNat / 64) + b.toNat % 64) = b := by
 rw [Nat.div_add_mod, bt]; simp
theorem wd_has (f : UInt8 → Bool) (b : UInt8) : (wd f (b.toNat / 64)).testBit (b.toNat % 64) = f b := by
 rw [wd_bit, byte_split]
 have : b.toNat % 64 < 64 := Nat.mod_lt _ (by decide)
 simp [this]
theorem wd_none (k : Nat) : wd (fun _ => false) k = 0 := by
 apply Nat.eq_of_testBit_eq
 intro j
 rw [wd_bit]
 simp
theorem wd_put (f : UInt8 → Bool) (b : UInt8) (k : Nat) (hk : k < 4) : wd (fun c => f c || c == b) k = if k = b.toNat / 64 then wd f k ||| 2 ^ (b.toNat % 64) else wd f k := by
 have hb := b.toNat_lt
 apply Nat.eq_of_testBit_eq
 intro j
 split
 ·rename_i e
  subst e
  rw [Nat.testBit_or, wd_bit, wd_bit, Nat.testBit_two_pow]
  by_cases hj : j < 64
  ·simp only [hj, decide_true, Bool.true_and]
   congr 1
   rw [Bool.eq_iff_iff, beq_iff_eq, decide_eq_true_eq]
   constructor
   ·intro e
    have := congrArg UInt8.toNat e
    rw [bt_toNat] at this
    omega
   ·intro e
    rw [← e]
    exact byte_split b
  ·have : ¬ b.toNat % 64 = j := by have : b.toNat % 64 < 64 := Nat.mod_lt _ (by decide); omega
   simp [hj, this]
 ·rename_i e
  rw [wd_bit, wd_bit]
  by_cases hj : j < 64
  ·have : (bt (64 * k + j) == b) = false := by
    rw [beq_eq_false_iff_ne]
    intro e2
    have := congrArg UInt8.toNat e2
    rw [bt_toNat] at this
    omega
   simp [this]
  ·simp [hj]

def every : List UInt8 := (List.range 256).map bt
def lso (f : UInt8 → Bool) : List UInt8 := every.filter f
theorem mem_every (b : UInt8) : b ∈ every := by
 have := b.toNat_lt
 exact List.mem_map.2 ⟨b.toNat, List.mem_range.2 (by omega), by simp [bt]⟩
theorem every_len : every.length = 256 := by simp [every]
theorem nodup_map_on {α β : Type} {f : α → β} {l : List α} (h : l.Nodup) (hf : ∀ a ∈ l, ∀ b ∈ l, f a = f b → a = b) : (l.map f).Nodup := by
 induction l with
 | nil => simp
 | cons a t ih =>
  rw [List.nodup_cons] at h
  rw [List.map_cons, List.nodup_cons]
  refine ⟨fun hm => ?_, ih h.2 (fun x hx y hy => hf x (by simp [hx]) y (by simp [hy]))⟩
  obtain ⟨x, hx, e⟩ := List.mem_map.1 hm
  have := hf x (by simp [hx]) a (by simp) e
  subst this
  exact h.1 hx
theorem every_nodup : every.Nodup := by
 refine nodup_map_on List.nodup_range fun a ha b hb e => ?_
 have := congrArg UInt8.toNat e
 rw [bt_toNat, bt_toNat] at this
 rw [List.mem_range] at ha hb
 omega
theorem mem_lso {f : UInt8 → Bool} {b : UInt8} : b ∈ lso f ↔ f b = true := by simp [lso, mem_every]
theorem lso_nodup (f : UInt8 → Bool) : (lso f).Nodup := every_nodup.filter _
theorem sub_len {a b : List UInt8} (h : a.Nodup) (hs : ∀ x ∈ a, x ∈ b) : a.length ≤ b.length := by
 induction a generalizing b with
 | nil => simp
 | cons x t ih =>
  rw [List.nodup_cons] at h
  have hx := hs x (by simp)
  have h1 := ih (b := b.erase x) h.2 (fun y hy => (List.mem_erase_of_ne (fun e : y = x => h.1 (by rw [← e]; exact hy))).2 (hs y (by simp [hy])))
  rw [List.length_erase_of_mem hx] at h1
  have := List.length_pos_of_mem hx
  simp only [List.length_cons]
  omega
theorem one_of {l : List UInt8} {c : UInt8} (h : l.Nodup) (hc : c ∈ l) (ho : ∀ x ∈ l, x = c) : l = [c] := by
 have h1 : l.length ≤ [c].length := sub_len h (fun x hx => by simp [ho x hx])
 match l, hc with
 | [x], _ => rw [ho x (by simp)]
 | _ :: _ :: _, _ => simp at h1
def shw (f : UInt8 → Bool) : List UInt8 :=
 if (lso f).length = 256 then [46]
 else if lso f = [46] then [91, 46, 93] else if lso f = [91] then [91, 91, 93]
 else if (lso f).length = 1 then lso f
 else if f 93 = true then 91 :: 94 :: (lso (fun b => !f b) ++ [93])
 else 91 :: (((lso f).filter (· != 94) ++ (if f 94 = true then [94] else [])) ++ [93])
theorem con_iff {l : List UInt8} {b : UInt8} : l.contains b = true ↔ b ∈ l := by simp
def sws (P : List (List UInt8)) : List UInt8 := if P = [] then [46] else (P.map fun p => shw (adm p)).flatten
theorem sws_eq {P Q : List (List UInt8)} (h : P.map adm = Q.map adm) : sws P = sws Q := by
 unfold sws
 have hl := congrArg List.length h
 simp only [List.length_map] at hl
 have e : (P.map fun p => shw (adm p)) = Q.map fun p => shw (adm p) := by
  have := congrArg (List.map shw) h
  rwa [List.map_map, List.map_map] at this
 by_cases hP : P = []
 ·have hQ : Q = [] := List.eq_nil_of_length_eq_zero (by rw [← hl, hP]; rfl)
  rw [hP, hQ]
 ·have hQ : Q ≠ [] := fun e => hP (List.eq_nil_of_length_eq_zero (by rw [hl, e]; rfl))
  rw [if_neg hP, if_neg hQ, e]
end Go.Proofs.YtidhbhdcoanfcaaGreatDoor.Cd
namespace Go.Proofs.YtidhbhdcoanfcaaGreatDoor
open Go.RowKit
namespace Pt
open Cd

theorem hide {p : Prop} (h : p) : Hid p := h
theorem unhide {p : Prop} (h : Hid p) : p := h
def itC (f : UInt8 → Bool) : Array Value := #[.int .u64 (wd f 0), .int .u64 (wd f 1), .int .u64 (wd f 2), .int .u64 (wd f 3)]
theorem itC_get (f : UInt8 → Bool) {k : Nat} (h : k < 4) : (itC f)[k]? = some (.int .u64 (wd f k)) := by
 have : k = 0 ∨ k = 1 ∨ k = 2 ∨ k = 3 := by omega
 rcases this with rfl | rfl | rfl | rfl <;> rfl

theorem bit_has {x j : Nat} (h : x < 18446744073709551616) : (bits BinOp.and IntKind.u64 ((x : Int) / 2 ^ j) 1 == 1) = x.testBit j := by
 have e : ((x : Int) / 2 ^ j) = ((x / 2 ^ j : Nat) : Int) := by simp
 have h2 : x / 2 ^ j < 18446744073709551616 := Nat.lt_of_le_of_lt (Nat.div_le_self _ _) h
 rw [e, show (1 : Int) = ((1 : Nat) : Int) from rfl, bits_and_u64_nat _ _ h2 (by decide), Nat.and_one_is_mod, Nat.testBit_eq_decide_div_mod_eq, Bool.eq_iff_iff, beq_iff_eq, decide_eq_true_eq]
 omega
theorem bit_not (f : UInt8 → Bool) (k : Nat) : bits BinOp.xor IntKind.u64 18446744073709551615 ((wd f k : Nat) : Int) = ((wd (fun b => !f b) k : Nat) : Int) := by
 rw [show (18446744073709551615 : Int) = ((18446744073709551615 : Nat) : Int) from rfl, bits_xor_u64_nat _ _ (by decide) (wd_lt f k)]
 congr 1
 apply Nat.eq_of_testBit_eq
 intro j
 have e : (18446744073709551615 : Nat) = 2 ^ 64 - 1 := by decide
 rw [Nat.testBit_xor, e, Nat.testBit_two_pow_sub_one, wd_bit, wd_bit]
 cases decide (j < 64) <;> simp
theorem pow_lt64 {j : Nat} (hj : j < 64) : 2 ^ j < 18446744073709551616 := by
 have : 2 ^ j ≤ 2 ^ 63 := Nat.pow_le_pow_right (by decide) (by omega)
 have e : 2 ^ 63 = 9223372036854775808 := by decide
 omega
theorem bit_put {x j : Nat} (h : x < 18446744073709551616) (hj : j < 64) : bits BinOp.or IntKind.u64 (x : Int) (IntKind.u64.wrap (2 ^ j)) = ((x ||| 2 ^ j : Nat) : Int) := by
 have e : ((2 : Int) ^ j) = ((2 ^ j : Nat) : Int) := by simp
 have h2 := pow_lt64 hj
 rw [e, IntKind.wrap_u64]
 have e3 : ((2 ^ j : Nat) : Int) % 18446744073709551616 = ((2 ^ j : Nat) : Int) := by generalize 2 ^ j = p at *; omega
 rw [e3]
 exact bits_or_u64_nat _ _ h h2
theorem ret_bool {a b : Bool} (h : a = b) : Ending.returned (.bool a) = .returned (.bool b) := by rw [h]

theorem has_any (f : UInt8 → Bool) (b : UInt8) (w : World) :
  Calls Tryz.prog 191 #[.agg (itC f), .int .u8 (b.toNat : Int)] w fun e w' => e = .returned (.bool (f b)) ∧ w' = w.alloc (.cells (itC f) 226) := by
 have hb : (b.toNat : Int) < 256 := by have := b.toNat_lt; omega
 have hg := itC_get f (k := b.toNat / 64) (by omega)
 have HX := hide (wd_has f b)
 have HL := hide (wd_lt f (b.toNat / 64))
 generalize wd f (b.toNat / 64) = x at *
 generalize itC f = C at *
 go_enter Tryz.func191, Tryz.ntmps191
 go_wp2
 go_ret
 exact ⟨ret_bool ((bit_has (unhide HL)).trans (unhide HX)), rfl⟩

def mixC (f : UInt8 → Bool) (k : Nat) : Array Value := #[.int .u64 (if 0 < k then wd (fun b => !f b) 0 else wd f 0 : Nat), .int .u64 (if 1 < k then wd (fun b => !f b) 1 else wd f 1 : Nat), .int .u64 (if 2 < k then wd (fun b => !f b) 2 else wd f 2 : Nat), .int .u64 (if 3 < k then wd (fun b => !f b) 3 else wd f 3 : Nat)]
theorem mixC_end (f : UInt8 → Bool) : mixC f 4 = itC (fun b => !f b) := rfl
theorem mixC_get (f : UInt8 → Bool) {k : Nat} (h : k < 4) : (mixC f k)[k]? = some (.int .u64 (wd f k)) := by
 have : k = 0 ∨ k = 1 ∨ k = 2 ∨ k = 3 := by omega
 rcases this with rfl | rfl | rfl | rfl <;> rfl
theorem mixC_set (f : UInt8 → Bool) {k : Nat} (h : k < 4) : (mixC f k).setIfInBounds k (.int .u64 (wd (fun b => !f b) k)) = mixC f (k + 1) := by
 have : k = 0 ∨ k = 1 ∨ k = 2 ∨ k = 3 := by omega
 rcases this with rfl | rfl | rfl | rfl <;> rfl
theorem others_any (f : UInt8 → Bool) (w : World) :
  Calls Tryz.prog 188 #[.agg (itC f)] w fun e w' => e = .returned (.agg (itC (fun b => !f b))) ∧ w' = (w.alloc (.cells (itC (fun b => !f b)) 226)).alloc (.cells (itC (fun b => !f b)) 226) := by
 have HN := hide (fun k => bit_not f k)
 have HG := hide (fun k h => mixC_get f (k := k) h)
 have HS := hide (fun k h => mixC_set f (k := k) h)
 go_enter Tryz.func188, Tryz.ntmps188
 go_wp2
 go_loopw [4] (fun i wr => ∃ k : Nat, k ≤ 4 ∧ i = .int .i64 k ∧ wr = (w.alloc (.cells (mixC f k) 226)).alloc (.cells #[.int .u64 0, .int .u64 0, .int .u64 0, .int .u64 0] 226)) (fun i _ => 4 - (intOf i).toNat)
 case atStart => exact ⟨0, by omega, rfl, rfl⟩
 case round =>
  obtain ⟨k, hk, rfl, rfl⟩ := hrel
  by_cases hlt : k < 4
  ·have hltz : (k : Int) < 4 := by omega
   have hg := unhide HG k hlt
   have hn := unhide HN k
   have HS2 := hide (unhide HS k hlt)
   generalize mixC f k = C at *
   generalize wd f k = x at *
   generalize wd (fun b => !f b) k = y at *
   go_wp2
   go_roundw
   case rel => exact ⟨k + 1, by omega, by go_num, by rw [← unhide HS2, ← hn]; rfl⟩
   case measure => simp [intOf]; omega
  ·have hltz : ¬ (k : Int) < 4 := by omega
   have hC : mixC f k = #[.int .u64 (wd (fun b => !f b) 0), .int .u64 (wd (fun b => !f b) 1), .int .u64 (wd (fun b => !f b) 2), .int .u64 (wd (fun b => !f b) 3)] := by
    obtain rfl : k = 4 := by omega
    exact mixC_end f
   rw [hC]
   clear hC HN HG HS
   go_wp2
   exact bodyPost_ret (v := .agg (itC (fun b => !f b))) (by simp [results, Tryz.results188, go_sem, itC]) rfl ⟨rfl, rfl⟩

theorem take_snoc (s : ByteArray) (k : Nat) (h : k < s.size) : s.data.toList.take (k + 1) = s.data.toList.take k ++ [s[k]] := by
 rw [List.take_succ_eq_append_getElem (by simpa using h)]; rfl
theorem itC_put (f : UInt8 → Bool) (c : UInt8) : (itC f).setIfInBounds (c.toNat / 64) (.int .u64 ((wd f (c.toNat / 64) ||| 2 ^ (c.toNat % 64) : Nat) : Int)) = itC (fun b => f b || b == c) := by
 have hc := c.toNat_lt
 have hk : c.toNat / 64 < 4 := by omega
 have key : ∀ k, k < 4 → wd (fun b => f b || b == c) k = if k = c.toNat / 64 then wd f k ||| 2 ^ (c.toNat % 64) else wd f k := fun k h => wd_put f c k h
 generalize c.toNat / 64 = q at *
 generalize 2 ^ (c.toNat % 64) = p at *
 unfold itC
 rw [key 0 (by decide), key 1 (by decide), key 2 (by decide), key 3 (by decide)]
 have : q = 0 ∨ q = 1 ∨ q = 2 ∨ q = 3 := by omega
 rcases this with rfl | rfl | rfl | rfl <;> rfl
def setOf (l : List UInt8) : UInt8 → Bool := fun b => l.contains b
theorem setOf_snoc (l : List UInt8) (c : UInt8) : setOf (l ++ [c]) = fun b => setOf l b || b == c := by
 funext b
 unfold setOf
 rw [Bool.eq_iff_iff]
 simp
theorem itC_none : itC (setOf []) = #[.int .u64 0, .int .u64 0, .int .u64 0, .int .u64 0] := by
 have : setOf [] = fun _ => false := by funext b; simp [setOf]
 unfold itC
 rw [this]
 simp [wd_none]

theorem only_any (s : ByteArray) (w : World) (hs : s.size ≤ maxLen) :
  Calls Tryz.prog 187 #[.string s] w fun e w' => e = .returned (.agg (itC (setOf s.data.toList))) ∧ w' = (w.alloc (.cells (itC (setOf s.data.toList)) 226)).alloc (.cells (itC (setOf s.data.toList)) 226) := by
 unfold maxLen at hs
 go_enter Tryz.func187, Tryz.ntmps187
 go_wp2
 go_loopw [4] (fun i wr => ∃ k : Nat, k ≤ s.size ∧ i = .int .i64 k ∧ wr = (w.alloc (.cells #[.int .u64 0, .int .u64 0, .int .u64 0, .int .u64 0] 226)).alloc (.cells (itC (setOf (s.data.toList.take k))) 226)) (fun i _ => s.size - (intOf i).toNat)
 case atStart => exact ⟨0, by omega, rfl, by rw [List.take_zero, itC_none]⟩
 case round =>
  obtain ⟨k, hk, rfl, rfl⟩ := hrel
  by_cases hlt : k < s.size
  ·have hg := itC_get (setOf (s.data.toList.take k)) (k := s[k].toNat / 64) (by have := s[k].toNat_lt; omega)
   have HP := hide (itC_put (setOf (s.data.toList.take k)) s[k])
   have HT := hide (congrArg setOf (take_snoc s k hlt))
   have HW := hide (wd_lt (setOf (s.data.toList.take k)) (s[k].toNat / 64))
   have hc : (s[k].toNat : Int) < 256 := by have := s[k].toNat_lt; omega
   generalize itC (setOf (s.data.toList.take k)) = C at *
   generalize wd (setOf (s.data.toList.take k)) (s[k].toNat / 64) = x at *
   go_wp2
   go_roundw
   case rel => exact ⟨k + 1, by omega, by go_num, by rw [bit_put (unhide HW) (Nat.mod_lt _ (by decide)), unhide HP, unhide HT, setOf_snoc]⟩
   case measure => simp [intOf]; omega
  ·have hC : itC (setOf (s.data.toList.take k)) = #[.int .u64 (wd (setOf s.data.toList) 0), .int .u64 (wd (setOf s.data.toList) 1), .int .u64 (wd (setOf s.data.toList) 2), .int .u64 (wd (setOf s.data.toList) 3)] := by
    rw [List.take_of_length_le (by simp; omega)]
    rfl
   rw [hC]
   clear hC
   go_wp2
   exact bodyPost_ret (v := .agg (itC (setOf s.data.toList))) (by simp [results, Tryz.results187, go_sem, itC]) rfl ⟨rfl, rfl⟩
end Pt
end Go.Proofs.YtidhbhdcoanfcaaGreatDoor
