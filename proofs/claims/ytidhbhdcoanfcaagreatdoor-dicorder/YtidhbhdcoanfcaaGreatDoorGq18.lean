import Derived.Test.YtidhbhdcoanfcaaGreatDoorShAll
import Derived.Test.YtidhbhdcoanfcaaGreatDoorGq17
import Derived.Deep.RegionWith
set_option maxHeartbeats 8000000
set_option maxRecDepth 100000

namespace Go.Proofs.YtidhbhdcoanfcaaGreatDoor
open Go.RowKit
namespace Pt
open Cd

theorem ix_val (l : List UInt8) (c : UInt8) : Lib.indexByte l c = if c ∈ l then ((l.takeWhile (· != c)).length : Int) else -1 := by
 induction l with
 | nil => rfl
 | cons a t ih =>
  unfold Lib.indexByte
  rw [ih, List.takeWhile_cons]
  by_cases h : a = c
  ·subst h
   simp
  ·have h2 : ¬ c = a := fun e => h e.symm
   by_cases hc : c ∈ t
   ·simp [h, hc, h2]
   ·simp [h, hc, h2]
theorem one_beq (c : UInt8) (s : ByteArray) : ([c] == s.toList) = decide (s.data.toList = [c]) := by
 rw [ByteArray.toList_eq, Bool.eq_iff_iff, beq_iff_eq, decide_eq_true_eq]
 exact eq_comm
def str (l : List UInt8) : ByteArray := ⟨l.toArray⟩
theorem str_list (l : List UInt8) : (str l).data.toList = l := by simp [str]
theorem str_self (s : ByteArray) : str s.data.toList = s := rfl
theorem str_size (l : List UInt8) : (str l).size = l.length := by simp [str, ByteArray.size]
theorem extract_str (s : ByteArray) (a b : Nat) : s.extract a b = str ((s.data.toList.drop a).take (b - a)) := by
 apply ByteArray.ext
 apply Array.toList_inj.1
 simp [str, List.take_drop]

theorem index1_any (s : ByteArray) (c : UInt8) (w : World) :
  Calls Tryz.prog 160 #[.string s, .string ⟨#[c]⟩] w fun e w' => e = .returned (.int .i64 (Lib.indexByte s.data.toList c)) ∧ w' = w := by
 have HI : Hid (∀ W, Calls Tryz.prog 171 #[.string s, .int .u8 (c.toNat : Int)] W fun e w' => e = .returned (.int .i64 (Lib.indexByte s.data.toList c)) ∧ w' = W) := fun W => by
  have h := Tryz.stringslite_IndexByte s (c.toNat : Int) W
  have e : ((c.toNat : Int)).toNat.toUInt8 = c := by simp
  rw [e] at h
  exact h
 have hq := one_beq c s
 by_cases hs : s.data.toList = [c]
 ·have HR : Hid (Lib.indexByte s.data.toList c = 0) := by rw [Hid, hs]; simp [Lib.indexByte]
  rw [decide_eq_true hs] at hq
  clear hs
  generalize Lib.indexByte s.data.toList c = r at *
  go_enter Tryz.func160, Tryz.ntmps160
  go_wp2_with (go_at_call 171; refine (unhide HI _).mono ?_; rintro e w1 ⟨rfl, rfl⟩)
  go_ret
  exact ⟨by rw [unhide HR]; rfl, rfl⟩
 ·rw [decide_eq_false hs] at hq
  clear hs
  generalize Lib.indexByte s.data.toList c = r at *
  go_enter Tryz.func160, Tryz.ntmps160
  go_wp2_with (go_at_call 171; refine (unhide HI _).mono ?_; rintro e w1 ⟨rfl, rfl⟩)
  go_ret
  exact ⟨rfl, rfl⟩
theorem tw_facts {l : List UInt8} {c : UInt8} (h : c ∈ l) : (l.takeWhile (· != c)).length < l.length ∧ l.take (l.takeWhile (· != c)).length = l.takeWhile (· != c) ∧ l.drop ((l.takeWhile (· != c)).length + 1) = (l.dropWhile (· != c)).tail := by
 induction l with
 | nil => simp at h
 | cons a t ih =>
  by_cases e : a = c
  ·subst e
   simp
  ·have hc : c ∈ t := (List.mem_cons.1 h).resolve_left (fun e2 => e e2.symm)
   obtain ⟨h1, h2, h3⟩ := ih hc
   have ea : (a != c) = true := by simp [e]
   rw [List.takeWhile_cons, if_pos ea, List.dropWhile_cons, if_pos ea]
   simp only [List.length_cons, List.take_succ_cons, List.drop_succ_cons, h2, h3]
   exact ⟨by omega, trivial, trivial⟩
theorem ret3 {a a' b b' : ByteArray} {x : Bool} (h1 : a = a') (h2 : b = b') : Ending.returned (.tuple #[.string a, .string b, .bool x]) = .returned (.tuple #[.string a', .string b', .bool x]) := by rw [h1, h2]

theorem litecut_yes (s : ByteArray) (c : UInt8) (w : World) (hs : s.size ≤ maxLen) (h : c ∈ s.data.toList) :
  Calls Tryz.prog 139 #[.string s, .string ⟨#[c]⟩] w fun e w' => e = .returned (.tuple #[.string (str (s.data.toList.takeWhile (· != c))), .string (str (s.data.toList.dropWhile (· != c)).tail), .bool true]) ∧ ∃ q, w' = w.drewN q := by
 unfold maxLen at hs
 obtain ⟨h1, h2, h3⟩ := tw_facts h
 have HI := hide (fun W => index1_any s c W)
 rw [ix_val, if_pos h] at HI
 have hl : s.data.toList.length = s.size := by simp
 rw [hl] at h1
 have HA : Hid (s.extract 0 (s.data.toList.takeWhile (· != c)).length = str (s.data.toList.takeWhile (· != c))) := by
  rw [Hid, extract_str, List.drop_zero, Nat.sub_zero, h2]
 have HB : Hid (s.extract ((s.data.toList.takeWhile (· != c)).length + 1) s.size = str (s.data.toList.dropWhile (· != c)).tail) := by
  rw [Hid, extract_str, h3, List.take_of_length_le]
  rw [← h3, List.length_drop, hl]
  omega
 clear h2 h3 hl h
 generalize str (s.data.toList.takeWhile (· != c)) = A at *
 generalize str (s.data.toList.dropWhile (· != c)).tail = B at *
 generalize (s.data.toList.takeWhile (· != c)).length = n at *
 go_enter Tryz.func139, Tryz.ntmps139
 go_wp2_with (go_at_call 160; refine (unhide HI _).mono ?_; rintro e w1 ⟨rfl, rfl⟩)
 go_quiet (fail)
 go_wp2
 go_ret3
 exact ⟨ret3 (unhide HA) (unhide HB), _, rfl⟩
theorem ix_no {l : List UInt8} {c : UInt8} (h : c ∉ l) : Lib.indexByte l c = -1 := by rw [ix_val, if_neg h]
theorem litecut_no (s : ByteArray) (c : UInt8) (w : World) (h : c ∉ s.data.toList) :
  Calls Tryz.prog 139 #[.string s, .string ⟨#[c]⟩] w fun e w' => e = .returned (.tuple #[.string s, .string ⟨#[]⟩, .bool false]) ∧ ∃ q, w' = w.drewN q := by
 have HI := hide (fun W => index1_any s c W)
 rw [ix_no h] at HI
 clear h
 go_enter Tryz.func139, Tryz.ntmps139
 go_wp2_with (go_at_call 160; refine (unhide HI _).mono ?_; rintro e w1 ⟨rfl, rfl⟩)
 go_ret3
 exact ⟨rfl, 0, rfl⟩
theorem cut_of {s t : Value} {A B : ByteArray} {b : Bool} {w : World} (h : Calls Tryz.prog 139 #[s, t] w fun e w' => e = .returned (.tuple #[.string A, .string B, .bool b]) ∧ ∃ q, w' = w.drewN q) :
  Calls Tryz.prog 110 #[s, t] w fun e w' => e = .returned (.tuple #[.string A, .string B, .bool b]) ∧ ∃ q, w' = w.drewN q := by
 have H := hide h
 clear h
 go_enter Tryz.func110, Tryz.ntmps110
 go_wp2_with (go_at_call 139; refine (unhide H).mono ?_; rintro e w1 ⟨rfl, q1, rfl⟩)
 go_ret3
 exact ⟨rfl, q1, rfl⟩
theorem cut_yes (s : ByteArray) (c : UInt8) (w : World) (hs : s.size ≤ maxLen) (h : c ∈ s.data.toList) :
  Calls Tryz.prog 110 #[.string s, .string ⟨#[c]⟩] w fun e w' => e = .returned (.tuple #[.string (str (s.data.toList.takeWhile (· != c))), .string (str (s.data.toList.dropWhile (· != c)).tail), .bool true]) ∧ ∃ q, w' = w.drewN q := cut_of (litecut_yes s c w hs h)
theorem cut_no (s : ByteArray) (c : UInt8) (w : World) (h : c ∉ s.data.toList) :
  Calls Tryz.prog 110 #[.string s, .string ⟨#[c]⟩] w fun e w' => e = .returned (.tuple #[.string s, .string ⟨#[]⟩, .bool false]) ∧ ∃ q, w' = w.drewN q := cut_of (litecut_no s c w h)

theorem prefix_yes (s : ByteArray) (c : UInt8) (l : List UInt8) (w : World) (hs : s.size ≤ maxLen) (h : s.data.toList = c :: l) :
  Calls Tryz.prog 189 #[.string s, .string ⟨#[c]⟩] w fun e w' => e = .returned (.tuple #[.string (str l), .bool true]) ∧ w' = w := by
 unfold maxLen at hs
 have hz : 1 ≤ s.size := by have := congrArg List.length h; simp at this; omega
 have HE : Hid (s.extract 1 s.size = str l) := by
  have := congrArg List.length h
  rw [Hid, extract_str, h, List.drop_succ_cons, List.drop_zero, List.take_of_length_le]
  simp at this
  omega
 have he : s.extract 0 1 = ⟨#[c]⟩ := by rw [extract_str, h]; rfl
 clear h
 generalize str l = T at *
 go_enter Tryz.func189, Tryz.ntmps189
 go_wp2
 go_ret2
 exact ⟨by rw [← unhide HE]; rfl, rfl⟩
theorem prefix_nil (c : UInt8) (w : World) :
  Calls Tryz.prog 189 #[.string ⟨#[]⟩, .string ⟨#[c]⟩] w fun e w' => e = .returned (.tuple #[.string ⟨#[]⟩, .bool false]) ∧ w' = w := by
 go_enter Tryz.func189, Tryz.ntmps189
 go_wp2
 go_ret2
 exact ⟨rfl, rfl⟩
theorem prefix_no (s : ByteArray) (c d : UInt8) (l : List UInt8) (w : World) (hs : s.size ≤ maxLen) (h : s.data.toList = d :: l) (hd : d ≠ c) :
  Calls Tryz.prog 189 #[.string s, .string ⟨#[c]⟩] w fun e w' => e = .returned (.tuple #[.string s, .bool false]) ∧ w' = w := by
 unfold maxLen at hs
 have hz : 1 ≤ s.size := by have := congrArg List.length h; simp at this; omega
 have he : s.extract 0 1 = ⟨#[d]⟩ := by rw [extract_str, h]; rfl
 have hd2 : (d == c) = false := by simp [hd]
 clear h hd
 go_enter Tryz.func189, Tryz.ntmps189
 go_wp2
 go_ret2
 exact ⟨rfl, rfl⟩

theorem ret_cut {C C' : Array Value} {a a' : ByteArray} {x : Bool} (h1 : C = C') (h2 : a = a') : Ending.returned (.tuple #[.agg C, .string a, .bool x]) = .returned (.tuple #[.agg C', .string a', .bool x]) := by rw [h1, h2]
theorem first_byte {s : ByteArray} {c : UInt8} {l : List UInt8} (h : s.data.toList = c :: l) : ∃ hz : 0 < s.size, s[0] = c := by
 have hz : 0 < s.size := by have := congrArg List.length h; simp at this; omega
 refine ⟨hz, ?_⟩
 have h1 : s.data.toList[0]? = some c := by rw [h]; rfl
 have h2 : s.data.toList[0]? = some s[0] := by rw [List.getElem?_eq_getElem (by simp; omega)]; rfl
 rw [h2] at h1
 exact Option.some.inj h1
theorem rest_str {s : ByteArray} {c : UInt8} {l : List UInt8} (h : s.data.toList = c :: l) : s.extract 1 s.size = str l := by
 have := congrArg List.length h
 rw [extract_str, h, List.drop_succ_cons, List.drop_zero, List.take_of_length_le]
 simp at this
 omega
theorem ne_int {a b : UInt8} (h : a ≠ b) : ¬ (a.toNat : Int) = (b.toNat : Int) := fun e => h (UInt8.toNat_inj.1 (by omega))
theorem set_one {c : UInt8} (h : c ≠ 46) : setOf [c] = adm [c] := by funext b; rw [adm_one h, setOf, Bool.eq_iff_iff, con_iff, beq_iff_eq, List.mem_singleton]; exact eq_comm
theorem set_in {c : UInt8} (hc : c ≠ 94) (l : List UInt8) : setOf (c :: l) = adm (91 :: ((c :: l) ++ [93])) := by funext b; rw [List.cons_append, adm_in hc]; rfl
theorem set_out (l : List UInt8) : (fun b => !setOf l b) = adm (91 :: ((94 :: l) ++ [93])) := by funext b; rw [List.cons_append, adm_out]; rfl
theorem only_set (l : List UInt8) (W : World) (h : l.length ≤ maxLen) : Calls Tryz.prog 187 #[.string (str l)] W fun e w' => e = .returned (.agg (itC (setOf l))) ∧ w' = (W.alloc (.cells (itC (setOf l)) 226)).alloc (.cells (itC (setOf l)) 226) := by
 have := only_any (str l) W (by rw [str_size]; exact h)
 rw [str_list] at this
 exact this
theorem cells_four (f : UInt8 → Bool) : ∃ x0 x1 x2 x3 : Nat, itC f = #[.int .u64 x0, .int .u64 x1, .int .u64 x2, .int .u64 x3] := ⟨_, _, _, _, rfl⟩


theorem cut_dot (s : ByteArray) (l : List UInt8) (w : World) (hs : s.size ≤ maxLen) (h : s.data.toList = 46 :: l) :
  Calls Tryz.prog 167 #[.string s] w fun e w' => e = .returned (.tuple #[.agg (itC (adm [46])), .string (str l), .bool true]) ∧ Below w.heap.size w w' := by
 unfold maxLen at hs
 have hz : 1 ≤ s.size := by have := congrArg List.length h; simp at this; omega
 have hs0 : s[0] = 46 := by
  have : s.data.toList[0]? = some 46 := by rw [h]; rfl
  have h2 : s.data.toList[0]? = some s[0] := by rw [List.getElem?_eq_getElem (by simp; omega)]; rfl
  rw [h2] at this
  exact Option.some.inj this
 have HE : Hid (s.extract 1 s.size = str l) := by
  have := congrArg List.length h
  rw [Hid, extract_str, h, List.drop_succ_cons, List.drop_zero, List.take_of_length_le]
  simp at this
  omega
 have HO : Hid (∀ W, Calls Tryz.prog 187 #[.string ⟨#[]⟩] W fun e w' => e = .returned (.agg (itC (setOf []))) ∧ w' = (W.alloc (.cells (itC (setOf [])) 226)).alloc (.cells (itC (setOf [])) 226)) := fun W => only_any ⟨#[]⟩ W (by decide)
 have HT : Hid (∀ W, Calls Tryz.prog 188 #[.agg (itC (setOf []))] W fun e w' => e = .returned (.agg (itC (adm [46]))) ∧ w' = (W.alloc (.cells (itC (adm [46])) 226)).alloc (.cells (itC (adm [46])) 226)) := fun W => by
  have h := others_any (setOf []) W
  have e : (fun b => !setOf [] b) = adm [46] := by funext b; rw [adm_dot]; simp [setOf]
  rw [e] at h
  exact h
 clear h
 generalize str l = T at *
 generalize itC (setOf []) = C0 at *
 have HD : Hid (∃ x0 x1 x2 x3 : Nat, itC (adm [46]) = #[.int .u64 x0, .int .u64 x1, .int .u64 x2, .int .u64 x3]) := ⟨_, _, _, _, rfl⟩
 generalize itC (adm [46]) = C at *
 obtain ⟨x0, x1, x2, x3, rfl⟩ := unhide HD
 go_enter Tryz.func167, Tryz.ntmps167
 go_wp2
 go_region_with (first | (go_at_call 187; refine (unhide HO _).mono ?_; rintro e W1 ⟨rfl, rfl⟩) | (go_at_call 188; refine (unhide HT _).mono ?_; rintro e W1 ⟨rfl, rfl⟩))
 all_goals go_wp2
 all_goals refine bodyPost_ret (v := .tuple #[.agg #[.int .u64 x0, .int .u64 x1, .int .u64 x2, .int .u64 x3], .string (s.extract 1 s.size), .bool true]) (by simp [results, Tryz.results167, go_sem]) rfl ⟨ret_cut rfl (unhide HE), ?_⟩
 all_goals repeat (first | exact Below.refl _ _ | refine Below.drew ?_ | refine Below.alloc ?_ (by simp <;> omega) _)


theorem cut_plain (s : ByteArray) (c : UInt8) (l : List UInt8) (w : World) (hs : s.size ≤ maxLen) (h : s.data.toList = c :: l) (h46 : c ≠ 46) (h91 : c ≠ 91) :
  Calls Tryz.prog 167 #[.string s] w fun e w' => e = .returned (.tuple #[.agg (itC (adm [c])), .string (str l), .bool true]) ∧ Below w.heap.size w w' := by
 unfold maxLen at hs
 obtain ⟨hz0, hs0⟩ := first_byte h
 have hz : 1 ≤ s.size := hz0
 have HE := hide (rest_str h)
 have he : s.extract 0 1 = ⟨#[c]⟩ := by rw [extract_str, h]; rfl
 have HO : Hid (∀ W, Calls Tryz.prog 187 #[.string ⟨#[c]⟩] W fun e w' => e = .returned (.agg (itC (adm [c]))) ∧ w' = (W.alloc (.cells (itC (adm [c])) 226)).alloc (.cells (itC (adm [c])) 226)) := fun W => by
  rw [← set_one h46]
  exact only_any ⟨#[c]⟩ W (by show 1 ≤ maxLen; decide)
 have h1 := ne_int h46
 have h2 := ne_int h91
 simp only [show ((46 : UInt8).toNat : Int) = 46 from rfl, show ((91 : UInt8).toNat : Int) = 91 from rfl] at h1 h2
 clear h h46 h91
 generalize str l = T at *
 have HD := hide (cells_four (adm [c]))
 generalize itC (adm [c]) = C at *
 obtain ⟨x0, x1, x2, x3, rfl⟩ := unhide HD
 clear HD
 go_enter Tryz.func167, Tryz.ntmps167
 go_wp2
 go_region_with (go_at_call 187; refine (unhide HO _).mono ?_; rintro e W1 ⟨rfl, rfl⟩)
 all_goals go_wp2
 all_goals refine bodyPost_ret (v := .tuple #[.agg #[.int .u64 x0, .int .u64 x1, .int .u64 x2, .int .u64 x3], .string (s.extract 1 s.size), .bool true]) (by simp [results, Tryz.results167, go_sem]) rfl ⟨ret_cut rfl (unhide HE), ?_⟩
 all_goals repeat (first | exact Below.refl _ _ | refine Below.drew ?_ | refine Below.alloc ?_ (by simp <;> omega) _)
end Pt
end Go.Proofs.YtidhbhdcoanfcaaGreatDoor
