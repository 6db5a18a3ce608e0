/- Contract: cond.cut at a plain byte. -/
import Derived.Test.YtjcchogilbekoabCuH
namespace Go.Proofs.Ytjcchogilbekoab
open Go.RowKit
namespace Pt
open Cd


set_option maxHeartbeats 1000000 in
set_option maxRecDepth 100000 in
theorem cut_plain (s : ByteArray) (c : UInt8) (l : List UInt8) (w : World) (hs : s.size ≤ maxLen) (h : s.data.toList = c :: l) (h46 : c ≠ 46) (h91 : c ≠ 91) :
    Calls Try.prog 24 #[.string s] w fun e w' => e = .returned (.tuple #[.agg (itC (adm [c])), .string (str l), .bool true]) ∧ Below w.heap.size w w' := by
  unfold maxLen at hs
  obtain ⟨hz0, hs0⟩ := first_byte h
  have hz : 1 ≤ s.size := hz0
  have HE := hide (rest_str h)
  have he : s.extract 0 1 = ⟨#[c]⟩ := by rw [extract_str, h]; rfl
  have HO : Hid (∀ W, Calls Try.prog 29 #[.string ⟨#[c]⟩] W fun e w' => e = .returned (.agg (itC (adm [c]))) ∧ w' = (W.alloc (.cells (itC (adm [c])) 45)).alloc (.cells (itC (adm [c])) 45)) := fun W => by
    rw [← set_one h46]
    exact only_any ⟨#[c]⟩ W (by show 1 ≤ maxLen; decide)
  have h1 := ne_int h46
  have h2 := ne_int h91
  simp only [show ((46 : UInt8).toNat : Int) = 46 from rfl, show ((91 : UInt8).toNat : Int) = 91 from rfl] at h1 h2
  clear h h46 h91
  generalize str l = T at *
  have HD := hide (cells_four (adm [c]))
  generalize itC (adm [c]) = C at *
  obtain ⟨x0, x1, x2, x3, rfl⟩ := unhide HD
  clear HD
  go_enter Try.func24, Try.ntmps24
  go_wp2
  go_region_with (go_at_call 29; refine (unhide HO _).mono ?_; rintro e W1 ⟨rfl, rfl⟩)
  all_goals go_wp2
  all_goals refine bodyPost_ret (v := .tuple #[.agg #[.int .u64 x0, .int .u64 x1, .int .u64 x2, .int .u64 x3], .string (s.extract 1 s.size), .bool true]) (by simp [results, Try.results24, go_sem]) rfl ⟨ret_cut rfl (unhide HE), ?_⟩
  all_goals repeat (first | exact Below.refl _ _ | refine Below.drew ?_ | refine Below.alloc ?_ (by simp <;> omega) _)
end Pt
end Go.Proofs.Ytjcchogilbekoab
