/- Contracts: words.Common answers how many bytes both texts begin with, for every two texts; nothing in memory turns. -/
import Derived.Test.YtmioplahlbapdabChecked
import Derived.Test.YtmioplahlbapdabWd
import Derived.WalkKit
import Derived.WalkSpells
import Derived.WalkLawsBesides
import Derived.Deep.QuietTactic
import Derived.BigQuiet
import Derived.Deep.DeepFit
import Derived.Lib.Strings
namespace Go.Proofs.Ytmioplahlbapdab
open Go.RowKit
namespace CmW

theorem hide {p : Prop} (h : p) : Hid p := h
theorem unhide {p : Prop} (h : Hid p) : p := h
theorem ret1 {a b : Nat} (h : a = b) : Ending.returned (.int .i64 (a : Int)) = .returned (.int .i64 (b : Int)) := by rw [h]

set_option maxHeartbeats 1000000 in
theorem common_any (a b : ByteArray) (w : World) (ha : a.size ≤ maxLen) :
    Calls Try.prog 9 #[.string a, .string b] w fun e w' => e = .returned (.int .i64 ((Wd.cm a.data.toList b.data.toList : Nat) : Int)) ∧ ∃ q, w' = w.drewN q := by
  unfold maxLen at ha
  go_enter Try.func9, Try.ntmps9
  go_wp2
  go_loopw [5] (fun n wr => ∃ k q : Nat, k ≤ a.size ∧ k ≤ b.size ∧ n = .int .i64 k ∧ wr = w.drewN q ∧ Hid (k + Wd.cm (a.data.toList.drop k) (b.data.toList.drop k) = Wd.cm a.data.toList b.data.toList)) (fun n _ => a.size - (intOf n).toNat)
  case atStart => exact ⟨0, 0, Nat.zero_le _, Nat.zero_le _, rfl, rfl, by show 0 + _ = _; rw [List.drop_zero, List.drop_zero, Nat.zero_add]⟩
  case round =>
    obtain ⟨k, q, hk1, hk2, rfl, rfl, HC⟩ := hrel
    by_cases h1 : k < a.size
    · by_cases h2 : k < b.size
      · by_cases he : a[k] = b[k]
        · have HS := hide (Wd.cm_step a b k h1 h2 he)
          have hq : ((a[k].toNat : Int) == (b[k].toNat : Int)) = true := by rw [he, beq_iff_eq]
          clear he
          go_wp2
          go_quiet (fail)
          go_wp2
          go_roundw
          case rel => exact ⟨k + 1, _, by omega, by omega, by go_num, rfl, by have h := unhide HC; rw [unhide HS] at h; show k + 1 + _ = _; omega⟩
          case measure => simp [intOf]; omega
        · have HS := hide (Wd.cm_part a b k h1 h2 he)
          have hq : ((a[k].toNat : Int) == (b[k].toNat : Int)) = false := by rw [beq_eq_false_iff_ne]; exact fun h => he (Wd.byte_eq h)
          have HR : Hid (k = Wd.cm a.data.toList b.data.toList) := by have h := unhide HC; rw [unhide HS] at h; exact h
          clear he HC HS
          go_wp2
          go_quiet (fail)
          go_wp2
          go_ret
          exact ⟨ret1 (unhide HR), _, World.drewN_drewN _ _ _⟩
      · have HR : Hid (k = Wd.cm a.data.toList b.data.toList) := by have h := unhide HC; rw [Wd.cm_end2 a b k (by omega)] at h; exact h
        clear HC
        go_wp2
        go_quiet (fail)
        go_wp2
        go_ret
        exact ⟨ret1 (unhide HR), _, World.drewN_drewN _ _ _⟩
    · have HR : Hid (k = Wd.cm a.data.toList b.data.toList) := by have h := unhide HC; rw [Wd.cm_end1 a b k (by omega)] at h; exact h
      clear HC
      go_wp2
      go_quiet (fail)
      go_wp2
      go_ret
      exact ⟨ret1 (unhide HR), _, World.drewN_drewN _ _ _⟩
end CmW
end Go.Proofs.Ytmioplahlbapdab
