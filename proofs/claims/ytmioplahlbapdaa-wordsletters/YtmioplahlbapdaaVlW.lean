/- Contracts: words.Valid and the document's Valid answer whether a text is a word, for every text; nothing in memory turns. -/
import Derived.Test.YtmioplahlbapdaaChecked
import Derived.Test.YtmioplahlbapdaaWd
import Derived.WalkKit
import Derived.WalkSpells
import Derived.WalkLawsBesides
import Derived.Deep.QuietTactic
import Derived.BigQuiet
import Derived.BigCall
import Derived.Deep.DeepFit
import Derived.Lib.Strings
namespace Go.Proofs.Ytmioplahlbapdaa
open Go.RowKit
namespace VlW

theorem hide {p : Prop} (h : p) : Hid p := h
theorem unhide {p : Prop} (h : Hid p) : p := h

set_option maxHeartbeats 400000 in
theorem is_any (b : UInt8) (w : World) : Calls Try.prog 28 #[.int .u8 (b.toNat : Int)] w fun e w' => e = .returned (.bool (Wd.fit b)) ∧ w' = w := by
  by_cases h1 : 32 < (b.toNat : Int)
  · by_cases h2 : (b.toNat : Int) = 127
    · rw [Wd.unfit_del h2]
      have e2 : ((b.toNat : Int) != 127) = false := by rw [h2]; rfl
      clear h2
      go_enter Try.func28, Try.ntmps28
      go_wp2
      go_ret
      exact ⟨rfl, rfl⟩
    · rw [Wd.fit_of h1 h2]
      have e2 : ((b.toNat : Int) != 127) = true := by rw [bne_iff_ne]; exact h2
      clear h2
      go_enter Try.func28, Try.ntmps28
      go_wp2
      go_ret
      exact ⟨rfl, rfl⟩
  · rw [Wd.unfit_lo (by omega)]
    go_enter Try.func28, Try.ntmps28
    go_wp2
    go_ret
    exact ⟨rfl, rfl⟩

theorem retb {a b : Bool} (h : a = b) : Ending.returned (.bool a) = .returned (.bool b) := by rw [h]
/-- not empty, and all word bytes -/
def okB (l : List UInt8) : Bool := !l.isEmpty && l.all Wd.fit
theorem okB_bad {l : List UInt8} (h : l.all Wd.fit = false) : okB l = false := by unfold okB; rw [h, Bool.and_false]
theorem okB_all {s : ByteArray} (h : s.data.toList.all Wd.fit = true) : okB s.data.toList = !s.toList.isEmpty := by unfold okB; rw [h, Bool.and_true, Lib.toList_data]

set_option maxHeartbeats 1000000 in
theorem all_any (s : ByteArray) (w : World) (hs : s.size ≤ maxLen) :
    Calls Try.prog 22 #[.string s] w fun e w' => e = .returned (.bool (okB s.data.toList)) ∧ w' = w := by
  unfold maxLen at hs
  go_enter Try.func22, Try.ntmps22
  go_wp2
  go_loop [3] (fun i => ∃ k : Nat, k ≤ s.size ∧ i = .int .i64 k ∧ Hid ((s.data.toList.take k).all Wd.fit = true)) (fun i => s.size - (intOf i).toNat)
  case atStart => exact ⟨0, Nat.zero_le _, rfl, rfl⟩
  case round =>
    obtain ⟨k, hk, rfl, HD⟩ := hrel
    by_cases hlt : k < s.size
    · cases hf : Wd.fit s[k] with
      | true =>
        have HS := hide (Wd.all_step s k hlt (unhide HD) hf)
        have HN := hide (fun W => is_any s[k] W)
        rw [hf] at HN
        clear hf
        go_wp2_with (go_at_call 28; refine (unhide HN _).mono ?_; rintro e W1 ⟨rfl, rfl⟩)
        go_round
        case rel => exact ⟨k + 1, by omega, by go_num, HS⟩
        case measure => simp [intOf]; omega
      | false =>
        have HS := hide (okB_bad (Wd.all_bad s k hlt hf))
        have HN := hide (fun W => is_any s[k] W)
        rw [hf] at HN
        clear hf
        go_wp2_with (go_at_call 28; refine (unhide HN _).mono ?_; rintro e W1 ⟨rfl, rfl⟩)
        go_ret
        exact ⟨retb (unhide HS).symm, rfl⟩
    · have HA : Hid (s.data.toList.all Wd.fit = true) := by rw [Hid, ← Wd.take_full s k (by omega)]; exact unhide HD
      clear HD
      have HE := hide (okB_all (unhide HA))
      go_wp2
      go_ret
      exact ⟨retb (unhide HE).symm, rfl⟩

set_option maxHeartbeats 1000000 in
theorem bytes_any (s : ByteArray) (w : World) (hs : s.size ≤ maxLen) :
    Calls Try.prog 23 #[.string s] w fun e w' => e = .returned (.bool (s.data.toList.all Wd.fit)) ∧ w' = w := by
  unfold maxLen at hs
  obtain ⟨r, hr⟩ : ∃ r, r = s.data.toList.all Wd.fit := ⟨_, rfl⟩
  rw [← hr]
  have HR := hide hr
  clear hr
  go_enter Try.func23, Try.ntmps23
  go_wp2
  go_loop [3] (fun i => ∃ k : Nat, k ≤ s.size ∧ i = .int .i64 k ∧ Hid ((s.data.toList.take k).all Wd.fit = true)) (fun i => s.size - (intOf i).toNat)
  case atStart => exact ⟨0, Nat.zero_le _, rfl, rfl⟩
  case round =>
    obtain ⟨k, hk, rfl, HD⟩ := hrel
    by_cases hlt : k < s.size
    · by_cases h1 : (s[k].toNat : Int) < 33
      · have HS : Hid (r = false) := by rw [Hid, unhide HR]; exact Wd.all_bad s k hlt (Wd.unfit_lo (by omega))
        clear HR HD
        go_wp2
        go_ret
        exact ⟨retb (unhide HS).symm, rfl⟩
      · by_cases h2 : (s[k].toNat : Int) = 127
        · have HS : Hid (r = false) := by rw [Hid, unhide HR]; exact Wd.all_bad s k hlt (Wd.unfit_del h2)
          have e2 : ((s[k].toNat : Int) == 127) = true := by rw [beq_iff_eq]; exact h2
          clear HR HD h2
          go_wp2
          go_ret
          exact ⟨retb (unhide HS).symm, rfl⟩
        · have HS := hide (Wd.all_step s k hlt (unhide HD) (Wd.fit_of (by omega) h2))
          have e2 : ((s[k].toNat : Int) == 127) = false := by rw [beq_eq_false_iff_ne]; exact h2
          clear h2
          go_wp2
          go_round
          case rel => exact ⟨k + 1, by omega, by go_num, HS⟩
          case measure => simp [intOf]; omega
    · have HA : Hid (r = true) := by rw [Hid, unhide HR, ← Wd.take_full s k (by omega)]; exact unhide HD
      clear HD HR
      go_wp2
      go_ret
      exact ⟨retb (unhide HA).symm, rfl⟩

/-- a word -/
def isW (s : ByteArray) : Bool := decide (s.size ≤ 64) && okB s.data.toList
theorem isW_big {s : ByteArray} (h : ¬ s.size ≤ 64) : isW s = false := by simp [isW, h]
theorem isW_small {s : ByteArray} (h : s.size ≤ 64) : isW s = okB s.data.toList := by simp [isW, h]
theorem isW_empty {s : ByteArray} (h : s.size < 1) : isW s = false := by
  have hl : s.data.toList.length = s.size := by simp
  have : s.data.toList = [] := List.eq_nil_of_length_eq_zero (by omega)
  unfold isW okB
  rw [this]; simp
theorem isW_mid {s : ByteArray} (h : s.size ≤ 64) (h0 : ¬ s.size < 1) : isW s = s.data.toList.all Wd.fit := by
  rw [isW_small h]
  unfold okB
  cases he : s.data.toList with
  | nil => have : s.data.toList.length = s.size := by simp
           rw [he] at this; simp at this; omega
  | cons a t => simp

set_option maxHeartbeats 1000000 in
theorem valid_any (s : ByteArray) (w : World) (hs : s.size ≤ maxLen) :
    Calls Try.prog 10 #[.string s] w fun e w' => e = .returned (.bool (isW s)) ∧ w' = w := by
  by_cases h : s.size ≤ 64
  · have HI := hide (fun W => all_any s W hs)
    rw [isW_small h]
    have h1 : (s.size : Int) ≤ 64 := by omega
    clear hs h
    go_enter Try.func10, Try.ntmps10
    go_wp2_with (go_at_call 22; refine (unhide HI _).mono ?_; rintro e W1 ⟨rfl, rfl⟩)
    go_ret
    exact ⟨rfl, rfl⟩
  · rw [isW_big h]
    have h1 : ¬ (s.size : Int) ≤ 64 := by omega
    clear hs h
    go_enter Try.func10, Try.ntmps10
    go_wp2
    go_ret
    exact ⟨rfl, rfl⟩
set_option maxHeartbeats 1000000 in
theorem ref_any (s : ByteArray) (w : World) (hs : s.size ≤ maxLen) :
    Calls Try.prog 11 #[.string s] w fun e w' => e = .returned (.bool (isW s)) ∧ w' = w := by
  by_cases h0 : s.size < 1
  · rw [isW_empty h0]
    have h1 : (s.size : Int) < 1 := by omega
    clear hs h0
    go_enter Try.func11, Try.ntmps11
    go_wp2
    go_ret
    exact ⟨rfl, rfl⟩
  · by_cases h : s.size ≤ 64
    · have HI := hide (fun W => bytes_any s W hs)
      rw [isW_mid h h0]
      generalize s.data.toList.all Wd.fit = r at *
      have h1 : ¬ (s.size : Int) < 1 := by omega
      have h2 : ¬ 64 < (s.size : Int) := by omega
      clear hs h0 h
      go_enter Try.func11, Try.ntmps11
      go_wp2_with (go_at_call 23; refine (unhide HI _).mono ?_; rintro e W1 ⟨rfl, rfl⟩)
      go_ret
      exact ⟨rfl, rfl⟩
    · rw [isW_big h]
      have h1 : ¬ (s.size : Int) < 1 := by omega
      have h2 : 64 < (s.size : Int) := by omega
      clear hs h0 h
      go_enter Try.func11, Try.ntmps11
      go_wp2
      go_ret
      exact ⟨rfl, rfl⟩
end VlW
end Go.Proofs.Ytmioplahlbapdaa
