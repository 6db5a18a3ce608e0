/- Contracts: words.Valid answers whether a text is a word, for every text; nothing in memory turns. -/
import Derived.Test.YtmioplahlbapdabChecked
import Derived.Test.YtmioplahlbapdabWd
import Derived.WalkKit
import Derived.WalkSpells
import Derived.WalkLawsBesides
import Derived.Deep.QuietTactic
import Derived.BigQuiet
import Derived.BigCall
import Derived.Deep.DeepFit
import Derived.Lib.Strings
namespace Go.Proofs.Ytmioplahlbapdab
open Go.RowKit
namespace VlW

theorem hide {p : Prop} (h : p) : Hid p := h
theorem unhide {p : Prop} (h : Hid p) : p := h

set_option maxHeartbeats 400000 in
theorem is_any (b : UInt8) (w : World) : Calls Try.prog 17 #[.int .u8 (b.toNat : Int)] w fun e w' => e = .returned (.bool (Wd.fit b)) ∧ w' = w := by
  by_cases h1 : 32 < (b.toNat : Int)
  · by_cases h2 : (b.toNat : Int) = 127
    · rw [Wd.unfit_del h2]
      have e2 : ((b.toNat : Int) != 127) = false := by rw [h2]; rfl
      clear h2
      go_enter Try.func17, Try.ntmps17
      go_wp2
      go_ret
      exact ⟨rfl, rfl⟩
    · rw [Wd.fit_of h1 h2]
      have e2 : ((b.toNat : Int) != 127) = true := by rw [bne_iff_ne]; exact h2
      clear h2
      go_enter Try.func17, Try.ntmps17
      go_wp2
      go_ret
      exact ⟨rfl, rfl⟩
  · rw [Wd.unfit_lo (by omega)]
    go_enter Try.func17, Try.ntmps17
    go_wp2
    go_ret
    exact ⟨rfl, rfl⟩

theorem retb {a b : Bool} (h : a = b) : Ending.returned (.bool a) = .returned (.bool b) := by rw [h]
/-- not empty, and all word bytes -/
def okB (l : List UInt8) : Bool := !l.isEmpty && l.all Wd.fit
theorem okB_bad {l : List UInt8} (h : l.all Wd.fit = false) : okB l = false := by unfold okB; rw [h, Bool.and_false]
theorem okB_all {s : ByteArray} (h : s.data.toList.all Wd.fit = true) : okB s.data.toList = !s.toList.isEmpty := by unfold okB; rw [h, Bool.and_true, Lib.toList_data]

set_option maxHeartbeats 1000000 in
theorem all_any (s : ByteArray) (w : World) (hs : s.size ≤ maxLen) :
    Calls Try.prog 15 #[.string s] w fun e w' => e = .returned (.bool (okB s.data.toList)) ∧ w' = w := by
  unfold maxLen at hs
  go_enter Try.func15, Try.ntmps15
  go_wp2
  go_loop [3] (fun i => ∃ k : Nat, k ≤ s.size ∧ i = .int .i64 k ∧ Hid ((s.data.toList.take k).all Wd.fit = true)) (fun i => s.size - (intOf i).toNat)
  case atStart => exact ⟨0, Nat.zero_le _, rfl, rfl⟩
  case round =>
    obtain ⟨k, hk, rfl, HD⟩ := hrel
    by_cases hlt : k < s.size
    · cases hf : Wd.fit s[k] with
      | true =>
        have HS := hide (Wd.all_step s k hlt (unhide HD) hf)
        have HN := hide (fun W => is_any s[k] W)
        rw [hf] at HN
        clear hf
        go_wp2_with (go_at_call 17; refine (unhide HN _).mono ?_; rintro e W1 ⟨rfl, rfl⟩)
        go_round
        case rel => exact ⟨k + 1, by omega, by go_num, HS⟩
        case measure => simp [intOf]; omega
      | false =>
        have HS := hide (okB_bad (Wd.all_bad s k hlt hf))
        have HN := hide (fun W => is_any s[k] W)
        rw [hf] at HN
        clear hf
        go_wp2_with (go_at_call 17; refine (unhide HN _).mono ?_; rintro e W1 ⟨rfl, rfl⟩)
        go_ret
        exact ⟨retb (unhide HS).symm, rfl⟩
    · have HA : Hid (s.data.toList.all Wd.fit = true) := by rw [Hid, ← Wd.take_full s k (by omega)]; exact unhide HD
      clear HD
      have HE := hide (okB_all (unhide HA))
      go_wp2
      go_ret
      exact ⟨retb (unhide HE).symm, rfl⟩

/-- a word -/
def isW (s : ByteArray) : Bool := decide (s.size ≤ 64) && okB s.data.toList
theorem isW_big {s : ByteArray} (h : ¬ s.size ≤ 64) : isW s = false := by simp [isW, h]
theorem isW_small {s : ByteArray} (h : s.size ≤ 64) : isW s = okB s.data.toList := by simp [isW, h]
theorem isW_empty {s : ByteArray} (h : s.size < 1) : isW s = false := by
  have hl : s.data.toList.length = s.size := by simp
  have : s.data.toList = [] := List.eq_nil_of_length_eq_zero (by omega)
  unfold isW okB
  rw [this]; simp
theorem isW_mid {s : ByteArray} (h : s.size ≤ 64) (h0 : ¬ s.size < 1) : isW s = s.data.toList.all Wd.fit := by
  rw [isW_small h]
  unfold okB
  cases he : s.data.toList with
  | nil => have : s.data.toList.length = s.size := by simp
           rw [he] at this; simp at this; omega
  | cons a t => simp

set_option maxHeartbeats 1000000 in
theorem valid_any (s : ByteArray) (w : World) (hs : s.size ≤ maxLen) :
    Calls Try.prog 11 #[.string s] w fun e w' => e = .returned (.bool (isW s)) ∧ w' = w := by
  by_cases h : s.size ≤ 64
  · have HI := hide (fun W => all_any s W hs)
    rw [isW_small h]
    have h1 : (s.size : Int) ≤ 64 := by omega
    clear hs h
    go_enter Try.func11, Try.ntmps11
    go_wp2_with (go_at_call 15; refine (unhide HI _).mono ?_; rintro e W1 ⟨rfl, rfl⟩)
    go_ret
    exact ⟨rfl, rfl⟩
  · rw [isW_big h]
    have h1 : ¬ (s.size : Int) ≤ 64 := by omega
    clear hs h
    go_enter Try.func11, Try.ntmps11
    go_wp2
    go_ret
    exact ⟨rfl, rfl⟩
end VlW
end Go.Proofs.Ytmioplahlbapdab
