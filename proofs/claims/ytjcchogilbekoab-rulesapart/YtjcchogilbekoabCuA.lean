/- Contract: cond.cut at a full stop. -/
import Derived.Test.YtjcchogilbekoabCuH
namespace Go.Proofs.Ytjcchogilbekoab
open Go.RowKit
namespace Pt
open Cd

set_option maxHeartbeats 1000000 in
set_option maxRecDepth 100000 in
theorem cut_dot (s : ByteArray) (l : List UInt8) (w : World) (hs : s.size ≤ maxLen) (h : s.data.toList = 46 :: l) :
    Calls Try.prog 24 #[.string s] w fun e w' => e = .returned (.tuple #[.agg (itC (adm [46])), .string (str l), .bool true]) ∧ Below w.heap.size w w' := by
  unfold maxLen at hs
  have hz : 1 ≤ s.size := by have := congrArg List.length h; simp at this; omega
  have hs0 : s[0] = 46 := by
    have : s.data.toList[0]? = some 46 := by rw [h]; rfl
    have h2 : s.data.toList[0]? = some s[0] := by rw [List.getElem?_eq_getElem (by simp; omega)]; rfl
    rw [h2] at this
    exact Option.some.inj this
  have HE : Hid (s.extract 1 s.size = str l) := by
    have := congrArg List.length h
    rw [Hid, extract_str, h, List.drop_succ_cons, List.drop_zero, List.take_of_length_le]
    simp at this
    omega
  have HO : Hid (∀ W, Calls Try.prog 29 #[.string ⟨#[]⟩] W fun e w' => e = .returned (.agg (itC (setOf []))) ∧ w' = (W.alloc (.cells (itC (setOf [])) 45)).alloc (.cells (itC (setOf [])) 45)) := fun W => only_any ⟨#[]⟩ W (by decide)
  have HT : Hid (∀ W, Calls Try.prog 30 #[.agg (itC (setOf []))] W fun e w' => e = .returned (.agg (itC (adm [46]))) ∧ w' = (W.alloc (.cells (itC (adm [46])) 45)).alloc (.cells (itC (adm [46])) 45)) := fun W => by
    have h := others_any (setOf []) W
    have e : (fun b => !setOf [] b) = adm [46] := by funext b; rw [adm_dot]; simp [setOf]
    rw [e] at h
    exact h
  clear h
  generalize str l = T at *
  generalize itC (setOf []) = C0 at *
  have HD : Hid (∃ x0 x1 x2 x3 : Nat, itC (adm [46]) = #[.int .u64 x0, .int .u64 x1, .int .u64 x2, .int .u64 x3]) := ⟨_, _, _, _, rfl⟩
  generalize itC (adm [46]) = C at *
  obtain ⟨x0, x1, x2, x3, rfl⟩ := unhide HD
  go_enter Try.func24, Try.ntmps24
  go_wp2
  go_region_with (first | (go_at_call 29; refine (unhide HO _).mono ?_; rintro e W1 ⟨rfl, rfl⟩) | (go_at_call 30; refine (unhide HT _).mono ?_; rintro e W1 ⟨rfl, rfl⟩))
  all_goals go_wp2
  all_goals refine bodyPost_ret (v := .tuple #[.agg #[.int .u64 x0, .int .u64 x1, .int .u64 x2, .int .u64 x3], .string (s.extract 1 s.size), .bool true]) (by simp [results, Try.results24, go_sem]) rfl ⟨ret_cut rfl (unhide HE), ?_⟩
  all_goals repeat (first | exact Below.refl _ _ | refine Below.drew ?_ | refine Below.alloc ?_ (by simp <;> omega) _)
end Pt
end Go.Proofs.Ytjcchogilbekoab
