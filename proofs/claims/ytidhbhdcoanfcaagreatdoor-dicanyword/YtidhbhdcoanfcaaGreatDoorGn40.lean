import Derived.Test.YtidhbhdcoanfcaaGreatDoorGn38
import Derived.Test.YtidhbhdcoanfcaaGreatDoorGsSpR
namespace Go.Proofs.YtidhbhdcoanfcaaGreatDoor
open Go.RowKit
namespace Mkd
open FldW

set_option maxHeartbeats 1000000 in
theorem marked_any (s : ByteArray) (w : World) (hs : s.size ≤ maxLen) : Calls Tryz.prog 10 #[.string s] w fun e w' => e = .returned (.bool (Lib.hasPrefix s.data.toList Ln.mark)) ∧ w' = w := by
 unfold maxLen at hs
 cases hp : Lib.hasPrefix s.data.toList Ln.mark with
 | true =>
  obtain ⟨h3, h0, h1, h2⟩ := Ln.mark_true s hp
  have g0 : ((s[0].toNat : Int) == 239) = true := Ln.byte_eq _ 239 h0
  have g1 : ((s[1].toNat : Int) == 187) = true := Ln.byte_eq _ 187 h1
  have g2 : ((s[2].toNat : Int) == 191) = true := Ln.byte_eq _ 191 h2
  have h4 : (3 : Int) ≤ (s.size : Int) := by omega
  clear hp h0 h1 h2
  go_enter Tryz.func10, Tryz.ntmps10
  go_wp2
  go_ret
  exact ⟨rfl, rfl⟩
 | false =>
  rcases Ln.mark_false s hp with h3 | ⟨h3, h0 | ⟨h0, h1⟩ | ⟨h0, h1, h2⟩⟩
  ·have h4 : ¬ (3 : Int) ≤ (s.size : Int) := by omega
   clear hp
   go_enter Tryz.func10, Tryz.ntmps10
   go_wp2
   go_ret
   exact ⟨rfl, rfl⟩
  ·have g0 : ((s[0].toNat : Int) == 239) = false := Ln.byte_ne _ 239 h0
   have h4 : (3 : Int) ≤ (s.size : Int) := by omega
   clear hp h0
   go_enter Tryz.func10, Tryz.ntmps10
   go_wp2
   go_ret
   exact ⟨rfl, rfl⟩
  ·have g0 : ((s[0].toNat : Int) == 239) = true := Ln.byte_eq _ 239 h0
   have g1 : ((s[1].toNat : Int) == 187) = false := Ln.byte_ne _ 187 h1
   have h4 : (3 : Int) ≤ (s.size : Int) := by omega
   clear hp h0 h1
   go_enter Tryz.func10, Tryz.ntmps10
   go_wp2
   go_ret
   exact ⟨rfl, rfl⟩
  ·have g0 : ((s[0].toNat : Int) == 239) = true := Ln.byte_eq _ 239 h0
   have g1 : ((s[1].toNat : Int) == 187) = true := Ln.byte_eq _ 187 h1
   have g2 : ((s[2].toNat : Int) == 191) = false := Ln.byte_ne _ 191 h2
   have h4 : (3 : Int) ≤ (s.size : Int) := by omega
   clear hp h0 h1 h2
   go_enter Tryz.func10, Tryz.ntmps10
   go_wp2
   go_ret
   exact ⟨rfl, rfl⟩

end Mkd
namespace Af
open RowB FldW
theorem Mx.up {w W : World} (h : Mx w.heap.size w) (b : Below w.heap.size w W) : Mx W.heap.size W := by
 obtain ⟨h1, h2⟩ := h.low b
 exact ⟨Nat.lt_of_lt_of_le h1 b.size, h2⟩
abbrev dfV (k c : Nat) : Value := .agg #[.int .i64 2, .int .i64 (k : Nat), .int .i64 (c : Nat)]
def DicOk (w1 : World) (fb : Nat) (F : Fil) : Prop := ∀ W, Below w1.heap.size w1 W → ∀ s : ByteArray, Calls Tryz.prog 18 #[.pointer (some ⟨fb, 0, none⟩), .string s] W (DRes W (dicR F s.data.toList))
theorem DicOk.no {w1 W : World} {fb : Nat} {F : Fil} (h : DicOk w1 fb F) (b : Below w1.heap.size w1 W) {s : ByteArray} {k c : Nat} (hx : dicR F s.data.toList = .error (k, c)) : Calls Tryz.prog 18 #[.pointer (some ⟨fb, 0, none⟩), .string s] W fun e w' => e = .returned (.tuple #[.pointer none, dfV k c]) ∧ Below W.heap.size W w' := by
 refine (h W b s).mono ?_
 rintro e w' ⟨q1, q2⟩
 rw [hx] at q2
 exact ⟨q2, q1⟩
theorem DicOk.yes {w1 W : World} {fb : Nat} {F : Fil} (h : DicOk w1 fb F) (b : Below w1.heap.size w1 W) {s : ByteArray} {E : List Ent} (hx : dicR F s.data.toList = .ok E) : Calls Tryz.prog 18 #[.pointer (some ⟨fb, 0, none⟩), .string s] W fun e w' => ∃ wb, e = .returned (.tuple #[.pointer (some ⟨wb, 0, none⟩), .agg #[.int .i64 0, .int .i64 0, .int .i64 0]]) ∧ Below W.heap.size W w' := by
 refine (h W b s).mono ?_
 rintro e w' ⟨q1, q2⟩
 rw [hx] at q2
 obtain ⟨n0, wb, Q, -, q3, -⟩ := q2
 exact ⟨wb, q3, q1⟩
def AffOk (w : World) (a : ByteArray) (F : Fil) : Prop := Calls Tryz.prog 12 #[.string a] w fun e w1 => ∃ fb, e = .returned (.tuple #[.pointer (some ⟨fb, 0, none⟩), .agg #[.int .i64 0, .int .i64 0, .int .i64 0]]) ∧ Below w.heap.size w w1 ∧ DicOk w1 fb F
theorem affOk {w : World} {a : ByteArray} {F : Fil} (hM : Mx w.heap.size w) (h : affR a.data.toList = .ok F) : AffOk w a F := by
 refine (Read_any a w hM).mono ?_
 rintro e w1 ⟨b, q⟩
 rw [h] at q
 obtain ⟨B, P, hB, rfl, hF⟩ := q
 refine ⟨P.fb, rfl, b, fun W bW s => ?_⟩
 have hFB : B ≤ w1.heap.size := Nat.le_of_lt (Nat.lt_of_le_of_lt hF.fbB (lt_some hF.fil))
 have hMB : Mx B W := by
  obtain ⟨m1, m2⟩ := (hM.low b).low (bW.mono b.size)
  exact ⟨Nat.lt_of_lt_of_le m1 hB, m2⟩
 exact dic_of h (hF.below bW) hMB (Nat.le_trans hFB bW.size) s
theorem DicOk.yesW {w1 W : World} {fb : Nat} {F : Fil} (h : DicOk w1 fb F) (b : Below w1.heap.size w1 W) {s : ByteArray} {E : List Ent} (hx : dicR F s.data.toList = .ok E) : Calls Tryz.prog 18 #[.pointer (some ⟨fb, 0, none⟩), .string s] W fun e w' => ∃ wb n Q, e = .returned (.tuple #[.pointer (some ⟨wb, 0, none⟩), .agg #[.int .i64 0, .int .i64 0, .int .i64 0]]) ∧ Below W.heap.size W w' ∧ WA n w' wb E E Q := by
 refine (h W b s).mono ?_
 rintro e w' ⟨q1, q2⟩
 rw [hx] at q2
 obtain ⟨n0, wb, Q, -, q3, q4⟩ := q2
 exact ⟨wb, n0, Q, q3, q1, q4⟩
end Af
end Go.Proofs.YtidhbhdcoanfcaaGreatDoor
