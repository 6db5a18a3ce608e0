/- Contracts: cut and put of a rule's piece, against the plain meaning (Ta). -/
import Derived.Test.YtjcchogilbekoabRtW
import Derived.Test.YtjcchogilbekoabTa1
import Derived.Test.YtjcchogilbekoabShAll
namespace Go.Proofs.Ytjcchogilbekoab
open Go.RowKit
namespace Pt

theorem str_app (a b : ByteArray) : a ++ b = str (a.data.toList ++ b.data.toList) := by
  apply ByteArray.ext
  simp [str, ByteArray.data_append]
theorem cutP_pre (w p : List UInt8) : (Ta.cut 1 w p).isSome = Lib.hasPrefix w p ∧ ∀ st, Ta.cut 1 w p = some st → Lib.trimPrefix w p = st := by
  unfold Ta.cut
  rw [if_pos rfl]
  cases Lib.hasPrefix w p <;> simp
theorem cutP_suf (w p : List UInt8) : (Ta.cut 2 w p).isSome = Lib.hasSuffix w p ∧ ∀ st, Ta.cut 2 w p = some st → Lib.trimSuffix w p = st := by
  unfold Ta.cut
  rw [if_neg (by decide), if_pos rfl]
  cases Lib.hasSuffix w p <;> simp
theorem rcut_any (k : Int) (s p : ByteArray) (w : World) (hs : s.size ≤ 9223372036854775807) :
    Calls Try.prog 14 #[.int .i64 k, .string s, .string p] w fun e w' => (∃ t, e = .returned (.tuple #[.string t, .bool (Ta.cut k s.data.toList p.data.toList).isSome]) ∧ ∀ st, Ta.cut k s.data.toList p.data.toList = some st → t = str st) ∧ w' = w := by
  by_cases h1 : k = 1
  · subst h1
    obtain ⟨e1, e2⟩ := cutP_pre s.data.toList p.data.toList
    rw [e1]
    go_enter Try.func14, Try.ntmps14
    go_wp2_with (go_at_call 17; refine (Try.strings_CutPrefix s p _).mono ?_; rintro e w1 ⟨rfl, rfl⟩)
    go_ret2
    exact ⟨⟨_, rfl, fun st h => by rw [e2 st h]; rfl⟩, rfl⟩
  · by_cases h2 : k = 2
    · subst h2
      obtain ⟨e1, e2⟩ := cutP_suf s.data.toList p.data.toList
      rw [e1]
      go_enter Try.func14, Try.ntmps14
      go_wp2_with (go_at_call 18; refine (Try.strings_CutSuffix s p _ hs).mono ?_; rintro e w1 ⟨rfl, rfl⟩)
      go_ret2
      exact ⟨⟨_, rfl, fun st h => by rw [e2 st h]; rfl⟩, rfl⟩
    · have e1 : Ta.cut k s.data.toList p.data.toList = none := by unfold Ta.cut; rw [if_neg h1, if_neg h2]
      rw [e1]
      go_enter Try.func14, Try.ntmps14
      go_wp2
      go_ret2
      exact ⟨⟨_, rfl, fun st h => by cases h⟩, rfl⟩
theorem rput_any (k : Int) (s p : ByteArray) (w : World) (hs : s.size + p.size ≤ 9223372036854775807) :
    Calls Try.prog 13 #[.int .i64 k, .string s, .string p] w fun e w' => e = .returned (.string (str (Ta.put k s.data.toList p.data.toList))) ∧ w' = w := by
  unfold Ta.put
  by_cases h1 : k = 1
  · subst h1
    rw [if_pos rfl, ← str_app]
    have h2 : p.size + s.size ≤ 9223372036854775807 := by omega
    go_enter Try.func13, Try.ntmps13
    go_wp2
    go_ret
    exact ⟨rfl, rfl⟩
  · rw [if_neg h1, ← str_app]
    go_enter Try.func13, Try.ntmps13
    go_wp2
    go_ret
    exact ⟨rfl, rfl⟩
end Pt
end Go.Proofs.Ytjcchogilbekoab
