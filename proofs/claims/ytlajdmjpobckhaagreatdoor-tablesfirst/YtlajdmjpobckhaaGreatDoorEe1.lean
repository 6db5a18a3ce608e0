/- The tables: an element of a list, if there is one. -/
import Derived.Test.YtlajdmjpobckhaaGreatDoorGt27
namespace Go.Proofs.YtlajdmjpobckhaaGreatDoor
open Go.RowKit
namespace Af
open RowB
set_option maxRecDepth 100000 in
set_option maxHeartbeats 2000000 in
theorem atE_in {w : World} {g m cap k n c : Nat} {s : ByteArray} {a : Option Addr} (hk : k < m) (_hm : m ≤ 1000000) (c0 : w.cell? ⟨g, k * 2, none⟩ = some (.string s)) (c1 : w.cell? ⟨g, k * 2 + 1, none⟩ = some (.slice a n c)) :
    Calls Tryz.prog 63 #[.slice (some ⟨g, 0, none⟩) m cap, .int .i64 (k : Nat)] w fun e w' => e = .returned (.tuple #[.agg #[.string s, .slice a n c], .bool true]) ∧ Below w.heap.size w w' := by
  have hg := World.block_lt_of_cell? w ⟨g, k * 2, none⟩ c0
  have h1 : ¬ (k : Int) < 0 := by omega
  have h2 : ¬ (m : Int) ≤ (k : Int) := by omega
  have h3 : (k : Int) < (m : Int) := by omega
  go_enter Tryz.func63, Tryz.ntmps63
  go_wp2
  refine bodyPost_ret (v := .tuple #[.agg #[.string s, .slice a n c], .bool true]) (by simp [results, Tryz.results63, go_sem]) rfl ?_
  exact ⟨rfl, by (repeat (first | exact Below.refl _ _ | refine Below.drew ?_ | refine Below.alloc ?_ (by first | (simp; done) | (simp; omega)) _ | refine Below.setCell ?_ (by first | (simp; done) | (simp; omega)) _))⟩
set_option maxRecDepth 100000 in
set_option maxHeartbeats 2000000 in
theorem atE_out {w : World} {m cap : Nat} {a : Option Addr} {i : Int} (hi : i < 0 ∨ (¬ i < 0 ∧ (m : Int) ≤ i)) :
    Calls Tryz.prog 63 #[.slice a m cap, .int .i64 i] w fun e w' => e = .returned (.tuple #[.agg #[.string ⟨#[]⟩, .slice none 0 0], .bool false]) ∧ Below w.heap.size w w' := by
  rcases hi with hi | ⟨hi, h2⟩
  all_goals
    go_enter Tryz.func63, Tryz.ntmps63
    go_wp2
    refine bodyPost_ret (v := .tuple #[.agg #[.string ⟨#[]⟩, .slice none 0 0], .bool false]) (by simp [results, Tryz.results63, go_sem]) rfl ?_
    exact ⟨rfl, by (repeat (first | exact Below.refl _ _ | refine Below.drew ?_ | refine Below.alloc ?_ (by first | (simp; done) | (simp; omega)) _ | refine Below.setCell ?_ (by first | (simp; done) | (simp; omega)) _))⟩
set_option maxRecDepth 100000 in
set_option maxHeartbeats 2000000 in
theorem atF_in {w : World} {g off m cap k : Nat} {x : Int} (hk : k < m) (_hm : m ≤ 1000000) (c0 : w.cell? ⟨g, off + k, none⟩ = some (.int .u16 x)) :
    Calls Tryz.prog 89 #[.slice (some ⟨g, off, none⟩) m cap, .int .i64 (k : Nat)] w fun e w' => e = .returned (.tuple #[.int .u16 x, .bool true]) ∧ w' = w := by
  have h1 : ¬ (k : Int) < 0 := by omega
  have h2 : ¬ (m : Int) ≤ (k : Int) := by omega
  have h3 : (k : Int) < (m : Int) := by omega
  go_enter Tryz.func89, Tryz.ntmps89
  go_wp2
  go_ret2
  exact ⟨rfl, rfl⟩
set_option maxRecDepth 100000 in
set_option maxHeartbeats 2000000 in
theorem atF_out {w : World} {m cap : Nat} {a : Option Addr} {i : Int} (hi : i < 0 ∨ (¬ i < 0 ∧ (m : Int) ≤ i)) :
    Calls Tryz.prog 89 #[.slice a m cap, .int .i64 i] w fun e w' => e = .returned (.tuple #[.int .u16 0, .bool false]) ∧ w' = w := by
  rcases hi with hi | ⟨hi, h2⟩
  all_goals
    go_enter Tryz.func89, Tryz.ntmps89
    go_wp2
    go_ret2
    exact ⟨rfl, rfl⟩
set_option maxRecDepth 100000 in
set_option maxHeartbeats 2000000 in
theorem atR_in {w : World} {g m cap k : Nat} {v0 v1 : Int} {cr : Bool} {s3 s4 s5 : ByteArray} {a : Option Addr} {n c : Nat} (hk : k < m) (_hm : m ≤ 1000000) (c0 : w.cell? ⟨g, k * 7, none⟩ = some (.int .i64 v0)) (c1 : w.cell? ⟨g, k * 7 + 1, none⟩ = some (.int .u16 v1)) (c2 : w.cell? ⟨g, k * 7 + 2, none⟩ = some (.bool cr)) (c3 : w.cell? ⟨g, k * 7 + 3, none⟩ = some (.string s3)) (c4 : w.cell? ⟨g, k * 7 + 4, none⟩ = some (.string s4)) (c5 : w.cell? ⟨g, k * 7 + 5, none⟩ = some (.string s5)) (c6 : w.cell? ⟨g, k * 7 + 6, none⟩ = some (.slice a n c)) :
    Calls Tryz.prog 66 #[.slice (some ⟨g, 0, none⟩) m cap, .int .i64 (k : Nat)] w fun e w' => e = .returned (.tuple #[.agg #[.int .i64 v0, .int .u16 v1, .bool cr, .string s3, .string s4, .string s5, .slice a n c], .bool true]) ∧ Below w.heap.size w w' := by
  have hg := World.block_lt_of_cell? w ⟨g, k * 7, none⟩ c0
  have h1 : ¬ (k : Int) < 0 := by omega
  have h2 : ¬ (m : Int) ≤ (k : Int) := by omega
  have h3 : (k : Int) < (m : Int) := by omega
  go_enter Tryz.func66, Tryz.ntmps66
  go_wp2
  refine bodyPost_ret (v := .tuple #[.agg #[.int .i64 v0, .int .u16 v1, .bool cr, .string s3, .string s4, .string s5, .slice a n c], .bool true]) (by simp [results, Tryz.results66, go_sem]) rfl ?_
  exact ⟨rfl, by (repeat (first | exact Below.refl _ _ | refine Below.drew ?_ | refine Below.alloc ?_ (by first | (simp; done) | (simp; omega)) _ | refine Below.setCell ?_ (by first | (simp; done) | (simp; omega)) _))⟩
set_option maxRecDepth 100000 in
set_option maxHeartbeats 2000000 in
theorem atR_out {w : World} {m cap : Nat} {a : Option Addr} {i : Int} (hi : i < 0 ∨ (¬ i < 0 ∧ (m : Int) ≤ i)) :
    Calls Tryz.prog 66 #[.slice a m cap, .int .i64 i] w fun e w' => e = .returned (.tuple #[.agg #[.int .i64 0, .int .u16 0, .bool false, .string ⟨#[]⟩, .string ⟨#[]⟩, .string ⟨#[]⟩, .slice none 0 0], .bool false]) ∧ Below w.heap.size w w' := by
  rcases hi with hi | ⟨hi, h2⟩
  all_goals
    go_enter Tryz.func66, Tryz.ntmps66
    go_wp2
    refine bodyPost_ret (v := .tuple #[.agg #[.int .i64 0, .int .u16 0, .bool false, .string ⟨#[]⟩, .string ⟨#[]⟩, .string ⟨#[]⟩, .slice none 0 0], .bool false]) (by simp [results, Tryz.results66, go_sem]) rfl ?_
    exact ⟨rfl, by (repeat (first | exact Below.refl _ _ | refine Below.drew ?_ | refine Below.alloc ?_ (by first | (simp; done) | (simp; omega)) _ | refine Below.setCell ?_ (by first | (simp; done) | (simp; omega)) _))⟩
end Af
end Go.Proofs.YtlajdmjpobckhaaGreatDoor
