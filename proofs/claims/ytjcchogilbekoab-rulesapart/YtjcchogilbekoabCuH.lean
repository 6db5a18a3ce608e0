/- What cond.cut's walks lean on. -/
import Derived.Test.YtjcchogilbekoabStW
import Derived.Deep.RegionWith
import Derived.BigRegion
namespace Go.Proofs.Ytjcchogilbekoab
open Go.RowKit
namespace Pt
open Cd

theorem ret_cut {C C' : Array Value} {a a' : ByteArray} {x : Bool} (h1 : C = C') (h2 : a = a') : Ending.returned (.tuple #[.agg C, .string a, .bool x]) = .returned (.tuple #[.agg C', .string a', .bool x]) := by rw [h1, h2]
/-- what is new lies above; what was is as it was -/
theorem below_two {w W : World} {a b : Obj} {n : Nat} (h : Below n w W) (hn : n ≤ W.heap.size) : Below n w ((W.alloc a).alloc b) := (h.alloc hn a).alloc (by simp; omega) b

theorem first_byte {s : ByteArray} {c : UInt8} {l : List UInt8} (h : s.data.toList = c :: l) : ∃ hz : 0 < s.size, s[0] = c := by
  have hz : 0 < s.size := by have := congrArg List.length h; simp at this; omega
  refine ⟨hz, ?_⟩
  have h1 : s.data.toList[0]? = some c := by rw [h]; rfl
  have h2 : s.data.toList[0]? = some s[0] := by rw [List.getElem?_eq_getElem (by simp; omega)]; rfl
  rw [h2] at h1
  exact Option.some.inj h1
theorem rest_str {s : ByteArray} {c : UInt8} {l : List UInt8} (h : s.data.toList = c :: l) : s.extract 1 s.size = str l := by
  have := congrArg List.length h
  rw [extract_str, h, List.drop_succ_cons, List.drop_zero, List.take_of_length_le]
  simp at this
  omega
theorem ne_int {a b : UInt8} (h : a ≠ b) : ¬ (a.toNat : Int) = (b.toNat : Int) := fun e => h (UInt8.toNat_inj.1 (by omega))
theorem set_one {c : UInt8} (h : c ≠ 46) : setOf [c] = adm [c] := by funext b; rw [adm_one h, setOf, Bool.eq_iff_iff, con_iff, beq_iff_eq, List.mem_singleton]; exact eq_comm
theorem set_in {c : UInt8} (hc : c ≠ 94) (l : List UInt8) : setOf (c :: l) = adm (91 :: ((c :: l) ++ [93])) := by funext b; rw [List.cons_append, adm_in hc]; rfl
theorem set_out (l : List UInt8) : (fun b => !setOf l b) = adm (91 :: ((94 :: l) ++ [93])) := by funext b; rw [List.cons_append, adm_out]; rfl
theorem only_set (l : List UInt8) (W : World) (h : l.length ≤ maxLen) : Calls Try.prog 29 #[.string (str l)] W fun e w' => e = .returned (.agg (itC (setOf l))) ∧ w' = (W.alloc (.cells (itC (setOf l)) 45)).alloc (.cells (itC (setOf l)) 45) := by
  have := only_any (str l) W (by rw [str_size]; exact h)
  rw [str_list] at this
  exact this
theorem cells_four (f : UInt8 → Bool) : ∃ x0 x1 x2 x3 : Nat, itC f = #[.int .u64 x0, .int .u64 x1, .int .u64 x2, .int .u64 x3] := ⟨_, _, _, _, rfl⟩

end Pt
end Go.Proofs.Ytjcchogilbekoab
