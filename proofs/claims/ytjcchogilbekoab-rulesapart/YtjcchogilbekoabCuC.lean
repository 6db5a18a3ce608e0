/- Contract: cond.cut at a bracket. -/
import Derived.Test.YtjcchogilbekoabCuH
namespace Go.Proofs.Ytjcchogilbekoab
open Go.RowKit
namespace Pt
open Cd

theorem str_ne {l : List UInt8} (h : l ≠ []) : (str l).toList.isEmpty = false := by
  rw [ByteArray.toList_eq, str_list]
  cases l with
  | nil => exact absurd rfl h
  | cons a t => rfl
theorem tw_len (t : List UInt8) : (t.takeWhile (· != 93)).length ≤ t.length := (List.takeWhile_sublist _).length_le

set_option maxHeartbeats 1000000 in
set_option maxRecDepth 100000 in
theorem cut_out (s : ByteArray) (t m : List UInt8) (w : World) (hs : s.size ≤ maxLen) (h : s.data.toList = 91 :: t) (h93 : 93 ∈ t) (hm : t.takeWhile (· != 93) = 94 :: m) (hm0 : m ≠ []) :
    Calls Try.prog 24 #[.string s] w fun e w' => e = .returned (.tuple #[.agg (itC (adm (91 :: ((94 :: m) ++ [93])))), .string (str (t.dropWhile (· != 93)).tail), .bool true]) ∧ Below w.heap.size w w' := by
  have hlen := congrArg List.length h
  simp only [List.length_cons] at hlen
  have hsl : s.data.toList.length = s.size := by simp
  have htl : t.length ≤ maxLen := by omega
  have hml : m.length ≤ maxLen := by
    have h2 := congrArg List.length hm
    have h3 := tw_len t
    simp only [List.length_cons] at h2
    omega
  have HC : Hid (∀ W, Calls Try.prog 31 #[.string (str t), .string ⟨#[93]⟩] W fun e w' => e = .returned (.tuple #[.string (str (94 :: m)), .string (str (t.dropWhile (· != 93)).tail), .bool true]) ∧ ∃ q, w' = W.drewN q) := fun W => by
    have := cut_yes (str t) 93 W (by rw [str_size]; exact htl) (by rw [str_list]; exact h93)
    rw [str_list, hm] at this
    exact this
  have HP : Hid (∀ W, Calls Try.prog 17 #[.string (str (94 :: m)), .string ⟨#[94]⟩] W fun e w' => e = .returned (.tuple #[.string (str m), .bool true]) ∧ w' = W) := fun W => prefix_yes (str (94 :: m)) 94 m W (by rw [str_size]; have h3 := tw_len t; rw [hm] at h3; omega) (str_list _)
  have HO : Hid (∀ W, Calls Try.prog 29 #[.string (str m)] W fun e w' => e = .returned (.agg (itC (setOf m))) ∧ w' = (W.alloc (.cells (itC (setOf m)) 45)).alloc (.cells (itC (setOf m)) 45)) := fun W => only_set m W hml
  have HT : Hid (∀ W, Calls Try.prog 30 #[.agg (itC (setOf m))] W fun e w' => e = .returned (.agg (itC (adm (91 :: ((94 :: m) ++ [93]))))) ∧ w' = (W.alloc (.cells (itC (adm (91 :: ((94 :: m) ++ [93])))) 45)).alloc (.cells (itC (adm (91 :: ((94 :: m) ++ [93])))) 45)) := fun W => by
    have h := others_any (setOf m) W
    rw [set_out] at h
    exact h
  obtain ⟨hz0, hs0⟩ := first_byte h
  have hz : 1 ≤ s.size := hz0
  have he := rest_str h
  have hne := str_ne hm0
  unfold maxLen at hs
  clear h hlen hsl htl hml hm h93 hm0
  generalize itC (setOf m) = C0 at *
  generalize adm (91 :: ((94 :: m) ++ [93])) = f at *
  generalize str m = M at *
  generalize str (94 :: m) = I at *
  generalize str (t.dropWhile (· != 93)).tail = R at *
  have HD := hide (cells_four f)
  generalize itC f = C at *
  obtain ⟨x0, x1, x2, x3, rfl⟩ := unhide HD
  clear HD
  go_enter Try.func24, Try.ntmps24
  go_wp2_with (first | (go_at_call 31; refine (unhide HC _).mono ?_; rintro e W1 ⟨rfl, q1, rfl⟩) | (go_at_call 17; refine (unhide HP _).mono ?_; rintro e W1 ⟨rfl, rfl⟩) | (go_at_call 29; refine (unhide HO _).mono ?_; rintro e W1 ⟨rfl, rfl⟩) | (go_at_call 30; refine (unhide HT _).mono ?_; rintro e W1 ⟨rfl, rfl⟩))
  refine bodyPost_ret (v := .tuple #[.agg #[.int .u64 x0, .int .u64 x1, .int .u64 x2, .int .u64 x3], .string R, .bool true]) (by simp [results, Try.results24, go_sem]) rfl ⟨rfl, ?_⟩
  have B0 := below_drewN ((Below.refl w.heap.size w).alloc (Nat.le_refl _) (.cells #[.int .u64 0, .int .u64 0, .int .u64 0, .int .u64 0] 45)) q1
  exact (((((((B0.setCell (Nat.le_refl _) _).setCell (Nat.le_refl _) _).setCell (Nat.le_refl _) _).setCell (Nat.le_refl _) _).alloc (by simp) _).alloc (by simp <;> omega) _).alloc (by simp <;> omega) _).alloc (by simp <;> omega) _
end Pt
end Go.Proofs.Ytjcchogilbekoab
