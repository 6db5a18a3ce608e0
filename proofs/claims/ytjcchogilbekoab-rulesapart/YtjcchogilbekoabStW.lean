/- Contracts: strings.Cut and strings.CutPrefix at a separator of one byte. -/
import Derived.Test.YtjcchogilbekoabItW
import Derived.Test.YtjcchogilbekoabShX
namespace Go.Proofs.Ytjcchogilbekoab
open Go.RowKit
namespace Pt
open Cd

theorem ix_val (l : List UInt8) (c : UInt8) : Lib.indexByte l c = if c ∈ l then ((l.takeWhile (· != c)).length : Int) else -1 := by
  induction l with
  | nil => rfl
  | cons a t ih =>
    unfold Lib.indexByte
    rw [ih, List.takeWhile_cons]
    by_cases h : a = c
    · subst h
      simp
    · have h2 : ¬ c = a := fun e => h e.symm
      by_cases hc : c ∈ t
      · simp [h, hc, h2]
      · simp [h, hc, h2]
theorem one_beq (c : UInt8) (s : ByteArray) : ([c] == s.toList) = decide (s.data.toList = [c]) := by
  rw [ByteArray.toList_eq, Bool.eq_iff_iff, beq_iff_eq, decide_eq_true_eq]
  exact eq_comm
/-- a text of a list -/
def str (l : List UInt8) : ByteArray := ⟨l.toArray⟩
theorem str_list (l : List UInt8) : (str l).data.toList = l := by simp [str]
theorem str_self (s : ByteArray) : str s.data.toList = s := rfl
theorem str_size (l : List UInt8) : (str l).size = l.length := by simp [str, ByteArray.size]
theorem extract_str (s : ByteArray) (a b : Nat) : s.extract a b = str ((s.data.toList.drop a).take (b - a)) := by
  apply ByteArray.ext
  apply Array.toList_inj.1
  simp [str, List.take_drop]

set_option maxHeartbeats 1000000 in
set_option maxRecDepth 100000 in
theorem index1_any (s : ByteArray) (c : UInt8) (w : World) :
    Calls Try.prog 34 #[.string s, .string ⟨#[c]⟩] w fun e w' => e = .returned (.int .i64 (Lib.indexByte s.data.toList c)) ∧ w' = w := by
  have HI : Hid (∀ W, Calls Try.prog 35 #[.string s, .int .u8 (c.toNat : Int)] W fun e w' => e = .returned (.int .i64 (Lib.indexByte s.data.toList c)) ∧ w' = W) := fun W => by
    have h := Try.stringslite_IndexByte s (c.toNat : Int) W
    have e : ((c.toNat : Int)).toNat.toUInt8 = c := by simp
    rw [e] at h
    exact h
  have hq := one_beq c s
  by_cases hs : s.data.toList = [c]
  · have HR : Hid (Lib.indexByte s.data.toList c = 0) := by rw [Hid, hs]; simp [Lib.indexByte]
    rw [decide_eq_true hs] at hq
    clear hs
    generalize Lib.indexByte s.data.toList c = r at *
    go_enter Try.func34, Try.ntmps34
    go_wp2_with (go_at_call 35; refine (unhide HI _).mono ?_; rintro e w1 ⟨rfl, rfl⟩)
    go_ret
    exact ⟨by rw [unhide HR]; rfl, rfl⟩
  · rw [decide_eq_false hs] at hq
    clear hs
    generalize Lib.indexByte s.data.toList c = r at *
    go_enter Try.func34, Try.ntmps34
    go_wp2_with (go_at_call 35; refine (unhide HI _).mono ?_; rintro e w1 ⟨rfl, rfl⟩)
    go_ret
    exact ⟨rfl, rfl⟩
theorem tw_facts {l : List UInt8} {c : UInt8} (h : c ∈ l) : (l.takeWhile (· != c)).length < l.length ∧ l.take (l.takeWhile (· != c)).length = l.takeWhile (· != c) ∧ l.drop ((l.takeWhile (· != c)).length + 1) = (l.dropWhile (· != c)).tail := by
  induction l with
  | nil => simp at h
  | cons a t ih =>
    by_cases e : a = c
    · subst e
      simp
    · have hc : c ∈ t := (List.mem_cons.1 h).resolve_left (fun e2 => e e2.symm)
      obtain ⟨h1, h2, h3⟩ := ih hc
      have ea : (a != c) = true := by simp [e]
      rw [List.takeWhile_cons, if_pos ea, List.dropWhile_cons, if_pos ea]
      simp only [List.length_cons, List.take_succ_cons, List.drop_succ_cons, h2, h3]
      exact ⟨by omega, trivial, trivial⟩
theorem ret3 {a a' b b' : ByteArray} {x : Bool} (h1 : a = a') (h2 : b = b') : Ending.returned (.tuple #[.string a, .string b, .bool x]) = .returned (.tuple #[.string a', .string b', .bool x]) := by rw [h1, h2]

set_option maxHeartbeats 1000000 in
set_option maxRecDepth 100000 in
theorem litecut_yes (s : ByteArray) (c : UInt8) (w : World) (hs : s.size ≤ maxLen) (h : c ∈ s.data.toList) :
    Calls Try.prog 33 #[.string s, .string ⟨#[c]⟩] w fun e w' => e = .returned (.tuple #[.string (str (s.data.toList.takeWhile (· != c))), .string (str (s.data.toList.dropWhile (· != c)).tail), .bool true]) ∧ ∃ q, w' = w.drewN q := by
  unfold maxLen at hs
  obtain ⟨h1, h2, h3⟩ := tw_facts h
  have HI := hide (fun W => index1_any s c W)
  rw [ix_val, if_pos h] at HI
  have hl : s.data.toList.length = s.size := by simp
  rw [hl] at h1
  have HA : Hid (s.extract 0 (s.data.toList.takeWhile (· != c)).length = str (s.data.toList.takeWhile (· != c))) := by
    rw [Hid, extract_str, List.drop_zero, Nat.sub_zero, h2]
  have HB : Hid (s.extract ((s.data.toList.takeWhile (· != c)).length + 1) s.size = str (s.data.toList.dropWhile (· != c)).tail) := by
    rw [Hid, extract_str, h3, List.take_of_length_le]
    rw [← h3, List.length_drop, hl]
    omega
  clear h2 h3 hl h
  generalize str (s.data.toList.takeWhile (· != c)) = A at *
  generalize str (s.data.toList.dropWhile (· != c)).tail = B at *
  generalize (s.data.toList.takeWhile (· != c)).length = n at *
  go_enter Try.func33, Try.ntmps33
  go_wp2_with (go_at_call 34; refine (unhide HI _).mono ?_; rintro e w1 ⟨rfl, rfl⟩)
  go_quiet (fail)
  go_wp2
  go_ret3
  exact ⟨ret3 (unhide HA) (unhide HB), _, rfl⟩
theorem ix_no {l : List UInt8} {c : UInt8} (h : c ∉ l) : Lib.indexByte l c = -1 := by rw [ix_val, if_neg h]
set_option maxHeartbeats 1000000 in
set_option maxRecDepth 100000 in
theorem litecut_no (s : ByteArray) (c : UInt8) (w : World) (h : c ∉ s.data.toList) :
    Calls Try.prog 33 #[.string s, .string ⟨#[c]⟩] w fun e w' => e = .returned (.tuple #[.string s, .string ⟨#[]⟩, .bool false]) ∧ ∃ q, w' = w.drewN q := by
  have HI := hide (fun W => index1_any s c W)
  rw [ix_no h] at HI
  clear h
  go_enter Try.func33, Try.ntmps33
  go_wp2_with (go_at_call 34; refine (unhide HI _).mono ?_; rintro e w1 ⟨rfl, rfl⟩)
  go_ret3
  exact ⟨rfl, 0, rfl⟩
set_option maxHeartbeats 1000000 in
set_option maxRecDepth 100000 in
theorem cut_of {s t : Value} {A B : ByteArray} {b : Bool} {w : World} (h : Calls Try.prog 33 #[s, t] w fun e w' => e = .returned (.tuple #[.string A, .string B, .bool b]) ∧ ∃ q, w' = w.drewN q) :
    Calls Try.prog 31 #[s, t] w fun e w' => e = .returned (.tuple #[.string A, .string B, .bool b]) ∧ ∃ q, w' = w.drewN q := by
  have H := hide h
  clear h
  go_enter Try.func31, Try.ntmps31
  go_wp2_with (go_at_call 33; refine (unhide H).mono ?_; rintro e w1 ⟨rfl, q1, rfl⟩)
  go_ret3
  exact ⟨rfl, q1, rfl⟩
theorem cut_yes (s : ByteArray) (c : UInt8) (w : World) (hs : s.size ≤ maxLen) (h : c ∈ s.data.toList) :
    Calls Try.prog 31 #[.string s, .string ⟨#[c]⟩] w fun e w' => e = .returned (.tuple #[.string (str (s.data.toList.takeWhile (· != c))), .string (str (s.data.toList.dropWhile (· != c)).tail), .bool true]) ∧ ∃ q, w' = w.drewN q := cut_of (litecut_yes s c w hs h)
theorem cut_no (s : ByteArray) (c : UInt8) (w : World) (h : c ∉ s.data.toList) :
    Calls Try.prog 31 #[.string s, .string ⟨#[c]⟩] w fun e w' => e = .returned (.tuple #[.string s, .string ⟨#[]⟩, .bool false]) ∧ ∃ q, w' = w.drewN q := cut_of (litecut_no s c w h)

set_option maxHeartbeats 1000000 in
set_option maxRecDepth 100000 in
theorem prefix_yes (s : ByteArray) (c : UInt8) (l : List UInt8) (w : World) (hs : s.size ≤ maxLen) (h : s.data.toList = c :: l) :
    Calls Try.prog 17 #[.string s, .string ⟨#[c]⟩] w fun e w' => e = .returned (.tuple #[.string (str l), .bool true]) ∧ w' = w := by
  unfold maxLen at hs
  have hz : 1 ≤ s.size := by have := congrArg List.length h; simp at this; omega
  have HE : Hid (s.extract 1 s.size = str l) := by
    have := congrArg List.length h
    rw [Hid, extract_str, h, List.drop_succ_cons, List.drop_zero, List.take_of_length_le]
    simp at this
    omega
  have he : s.extract 0 1 = ⟨#[c]⟩ := by rw [extract_str, h]; rfl
  clear h
  generalize str l = T at *
  go_enter Try.func17, Try.ntmps17
  go_wp2
  go_ret2
  exact ⟨by rw [← unhide HE]; rfl, rfl⟩
set_option maxHeartbeats 1000000 in
set_option maxRecDepth 100000 in
theorem prefix_nil (c : UInt8) (w : World) :
    Calls Try.prog 17 #[.string ⟨#[]⟩, .string ⟨#[c]⟩] w fun e w' => e = .returned (.tuple #[.string ⟨#[]⟩, .bool false]) ∧ w' = w := by
  go_enter Try.func17, Try.ntmps17
  go_wp2
  go_ret2
  exact ⟨rfl, rfl⟩
set_option maxHeartbeats 1000000 in
set_option maxRecDepth 100000 in
theorem prefix_no (s : ByteArray) (c d : UInt8) (l : List UInt8) (w : World) (hs : s.size ≤ maxLen) (h : s.data.toList = d :: l) (hd : d ≠ c) :
    Calls Try.prog 17 #[.string s, .string ⟨#[c]⟩] w fun e w' => e = .returned (.tuple #[.string s, .bool false]) ∧ w' = w := by
  unfold maxLen at hs
  have hz : 1 ≤ s.size := by have := congrArg List.length h; simp at this; omega
  have he : s.extract 0 1 = ⟨#[d]⟩ := by rw [extract_str, h]; rfl
  have hd2 : (d == c) = false := by simp [hd]
  clear h hd
  go_enter Try.func17, Try.ntmps17
  go_wp2
  go_ret2
  exact ⟨rfl, rfl⟩
end Pt
end Go.Proofs.Ytjcchogilbekoab
