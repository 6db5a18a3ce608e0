/- Contract: the document's Marked answers whether a text begins with the mark; nothing in memory turns. -/
import Derived.Test.YtlajdmjpobckhaaGreatDoorGd15
import Derived.Test.YtlajdmjpobckhaaGreatDoorGd00
import Derived.Test.YtlajdmjpobckhaaGreatDoorGd28
import Derived.Test.YtlajdmjpobckhaaGreatDoorRows
import Derived.Test.YtlajdmjpobckhaaGreatDoorGd02
import Derived.ProofKit
import Derived.OpenShut
import Derived.Deep.Slices
import Derived.SizedLaws
import Derived.WalkKit
import Derived.Deep.DeepHandedRow
namespace Go.Proofs.YtlajdmjpobckhaaGreatDoor
open Go.RowKit
namespace Mkd
open FldW

set_option maxHeartbeats 1000000 in
theorem marked_any (s : ByteArray) (w : World) (hs : s.size ≤ maxLen) : Calls Tryz.prog 20 #[.string s] w fun e w' => e = .returned (.bool (Lib.hasPrefix s.data.toList Ln.mark)) ∧ w' = w := by
  unfold maxLen at hs
  cases hp : Lib.hasPrefix s.data.toList Ln.mark with
  | true =>
    obtain ⟨h3, h0, h1, h2⟩ := Ln.mark_true s hp
    have g0 : ((s[0].toNat : Int) == 239) = true := Ln.byte_eq _ 239 h0
    have g1 : ((s[1].toNat : Int) == 187) = true := Ln.byte_eq _ 187 h1
    have g2 : ((s[2].toNat : Int) == 191) = true := Ln.byte_eq _ 191 h2
    have h4 : (3 : Int) ≤ (s.size : Int) := by omega
    clear hp h0 h1 h2
    go_enter Tryz.func20, Tryz.ntmps20
    go_wp2
    go_ret
    exact ⟨rfl, rfl⟩
  | false =>
    rcases Ln.mark_false s hp with h3 | ⟨h3, h0 | ⟨h0, h1⟩ | ⟨h0, h1, h2⟩⟩
    · have h4 : ¬ (3 : Int) ≤ (s.size : Int) := by omega
      clear hp
      go_enter Tryz.func20, Tryz.ntmps20
      go_wp2
      go_ret
      exact ⟨rfl, rfl⟩
    · have g0 : ((s[0].toNat : Int) == 239) = false := Ln.byte_ne _ 239 h0
      have h4 : (3 : Int) ≤ (s.size : Int) := by omega
      clear hp h0
      go_enter Tryz.func20, Tryz.ntmps20
      go_wp2
      go_ret
      exact ⟨rfl, rfl⟩
    · have g0 : ((s[0].toNat : Int) == 239) = true := Ln.byte_eq _ 239 h0
      have g1 : ((s[1].toNat : Int) == 187) = false := Ln.byte_ne _ 187 h1
      have h4 : (3 : Int) ≤ (s.size : Int) := by omega
      clear hp h0 h1
      go_enter Tryz.func20, Tryz.ntmps20
      go_wp2
      go_ret
      exact ⟨rfl, rfl⟩
    · have g0 : ((s[0].toNat : Int) == 239) = true := Ln.byte_eq _ 239 h0
      have g1 : ((s[1].toNat : Int) == 187) = true := Ln.byte_eq _ 187 h1
      have g2 : ((s[2].toNat : Int) == 191) = false := Ln.byte_ne _ 191 h2
      have h4 : (3 : Int) ≤ (s.size : Int) := by omega
      clear hp h0 h1 h2
      go_enter Tryz.func20, Tryz.ntmps20
      go_wp2
      go_ret
      exact ⟨rfl, rfl⟩

end Mkd
end Go.Proofs.YtlajdmjpobckhaaGreatDoor
/- The walk of DicFirst. -/
namespace Go.Proofs.YtlajdmjpobckhaaGreatDoor
open Go.RowKit
namespace Af
open RowB FldW
theorem Mx.up {w W : World} (h : Mx w.heap.size w) (b : Below w.heap.size w W) : Mx W.heap.size W := by
  obtain ⟨h1, h2⟩ := h.low b
  exact ⟨Nat.lt_of_lt_of_le h1 b.size, h2⟩
abbrev dfV (k c : Nat) : Value := .agg #[.int .i64 2, .int .i64 (k : Nat), .int .i64 (c : Nat)]
/-- dic.Read may be called of this file from here on -/
def DicOk (w1 : World) (fb : Nat) (F : Fil) : Prop := ∀ W, Below w1.heap.size w1 W → ∀ s : ByteArray, Calls Tryz.prog 13 #[.pointer (some ⟨fb, 0, none⟩), .string s] W (DRes W (dicR F s.data.toList))
theorem DicOk.no {w1 W : World} {fb : Nat} {F : Fil} (h : DicOk w1 fb F) (b : Below w1.heap.size w1 W) {s : ByteArray} {k c : Nat} (hx : dicR F s.data.toList = .error (k, c)) : Calls Tryz.prog 13 #[.pointer (some ⟨fb, 0, none⟩), .string s] W fun e w' => e = .returned (.tuple #[.pointer none, dfV k c]) ∧ Below W.heap.size W w' := by
  refine (h W b s).mono ?_
  rintro e w' ⟨q1, q2⟩
  rw [hx] at q2
  exact ⟨q2, q1⟩
theorem DicOk.yes {w1 W : World} {fb : Nat} {F : Fil} (h : DicOk w1 fb F) (b : Below w1.heap.size w1 W) {s : ByteArray} {E : List Ent} (hx : dicR F s.data.toList = .ok E) : Calls Tryz.prog 13 #[.pointer (some ⟨fb, 0, none⟩), .string s] W fun e w' => ∃ wb, e = .returned (.tuple #[.pointer (some ⟨wb, 0, none⟩), .agg #[.int .i64 0, .int .i64 0, .int .i64 0]]) ∧ Below W.heap.size W w' := by
  refine (h W b s).mono ?_
  rintro e w' ⟨q1, q2⟩
  rw [hx] at q2
  obtain ⟨n0, wb, Q, -, q3, -⟩ := q2
  exact ⟨wb, q3, q1⟩
/-- how aff.Read of a good text goes -/
def AffOk (w : World) (a : ByteArray) (F : Fil) : Prop := Calls Tryz.prog 12 #[.string a] w fun e w1 => ∃ fb, e = .returned (.tuple #[.pointer (some ⟨fb, 0, none⟩), .agg #[.int .i64 0, .int .i64 0, .int .i64 0]]) ∧ Below w.heap.size w w1 ∧ DicOk w1 fb F
theorem affOk {w : World} {a : ByteArray} {F : Fil} (hM : Mx w.heap.size w) (h : affR a.data.toList = .ok F) : AffOk w a F := by
  refine (Read_any a w hM).mono ?_
  rintro e w1 ⟨b, q⟩
  rw [h] at q
  obtain ⟨B, P, hB, rfl, hF⟩ := q
  refine ⟨P.fb, rfl, b, fun W bW s => ?_⟩
  have hFB : B ≤ w1.heap.size := Nat.le_of_lt (Nat.lt_of_le_of_lt hF.fbB (lt_some hF.fil))
  have hMB : Mx B W := by
    obtain ⟨m1, m2⟩ := (hM.low b).low (bW.mono b.size)
    exact ⟨Nat.lt_of_lt_of_le m1 hB, m2⟩
  exact dic_of h (hF.below bW) hMB (Nat.le_trans hFB bW.size) s
abbrev DFirst (a s t : ByteArray) (w : World) : Prop := Calls Tryz.prog 6 #[.string a, .string s, .string t] w fun e w' => e = .returned (.bool true) ∧ Below w.heap.size w w'
set_option maxRecDepth 100000 in
set_option maxHeartbeats 4000000 in
theorem dfirst_nil (a s t : ByteArray) (w : World) (hM : Mx w.heap.size w) {er : Er} (hx : affR a.data.toList = .error er) : DFirst a s t w := by
  have HA := hide (Read_any a w hM)
  rw [hx] at HA
  have HWk := hide (fun W (b : Below w.heap.size w W) => wakes12_any W (hM.up b))
  clear hM hx
  go_enter Tryz.func6, Tryz.ntmps6
  go_wp2_with fail
  refine (unhide HA).mono ?_
  rintro e w1 ⟨b1, q⟩
  simp only at q
  subst q
  have B1 := hide b1
  clear b1
  go_wp2_with fail
  refine (unhide HWk _ (by have h := unhide B1; have h2 := h.size; (repeat (first | exact h | refine Below.drew ?_ | refine Below.alloc ?_ (by first | omega | (simp; done) | (simp; omega)) _ | refine Below.setCell ?_ (by first | omega | (simp; done) | (simp; omega)) _)))).mono ?_
  rintro e w2 ⟨rfl, b2⟩
  have B2 := hide ((unhide B1).trans ((((Below.refl _ _).alloc (Nat.le_refl _) _).trans (b2.mono (by simp))).mono (unhide B1).size))
  clear b2
  go_wp2_with fail
  refine (unhide HWk _ (unhide B2)).mono ?_
  rintro e w3 ⟨rfl, b3⟩
  have B3 := hide (btr (unhide B2) b3)
  clear b3
  go_wp2
  go_ret
  exact ⟨rfl, unhide B3⟩
set_option maxRecDepth 100000 in
set_option maxHeartbeats 4000000 in
theorem dfirst_long (a s t : ByteArray) (w : World) {F : Fil} (hM : Mx w.heap.size w) (hA : AffOk w a F) (hs : 65536 < (s.size : Int)) : DFirst a s t w := by
  have HA := hide hA
  unfold AffOk at HA
  have HWk := hide (fun W (b : Below w.heap.size w W) => wakes12_any W (hM.up b))
  have hx : dicR F s.data.toList = .error (0, 10) := by
    unfold dicR
    rw [if_pos (by simp; omega)]
  have HX := hide hx
  clear hx hM hA
  go_enter Tryz.func6, Tryz.ntmps6
  go_wp2_with fail
  refine (unhide HA).mono ?_
  rintro e w1 ⟨fb, rfl, b1, hD⟩
  have B1 := hide b1
  have HD := hide hD
  clear b1 hD
  go_wp2_with fail
  refine (unhide HWk _ (by have h := unhide B1; have h2 := h.size; (repeat (first | exact h | refine Below.drew ?_ | refine Below.alloc ?_ (by first | omega | (simp; done) | (simp; omega)) _ | refine Below.setCell ?_ (by first | omega | (simp; done) | (simp; omega)) _)))).mono ?_
  rintro e w2 ⟨rfl, b2⟩
  have C2 : Hid (Below w1.heap.size w1 w2) := ((Below.refl _ _).alloc (Nat.le_refl _) _).trans (b2.mono (by simp))
  clear b2
  go_wp2_with fail
  refine (LnR.ref_split_long s w2 hs).mono ?_
  rintro e w3 ⟨rfl, hw⟩
  obtain rfl := hw.symm
  go_wp2_with fail
  refine ((unhide HD).no (unhide C2) (unhide HX)).mono ?_
  rintro e w4 ⟨rfl, b4⟩
  have C4 := hide (btr (unhide C2) b4)
  clear b4
  go_wp2
  go_ret
  exact ⟨rfl, by have h := (unhide B1).trans ((unhide C4).mono (unhide B1).size); have h2 := h.size; (repeat (first | exact h | refine Below.drew ?_ | refine Below.alloc ?_ (by first | omega | (simp; done) | (simp; omega)) _ | refine Below.setCell ?_ (by first | omega | (simp; done) | (simp; omega)) _))⟩
set_option maxRecDepth 100000 in
set_option maxHeartbeats 4000000 in
theorem dfirst_ok (a s t : ByteArray) (w : World) {F : Fil} (hM : Mx w.heap.size w) (hA : AffOk w a F) (hs : s.size ≤ 65536) {E : List Ent} (hx : dicR F s.data.toList = .ok E) : DFirst a s t w := by
  have HA := hide hA
  unfold AffOk at HA
  have HWk := hide (fun W (b : Below w.heap.size w W) => wakes12_any W (hM.up b))
  have HX := hide hx
  clear hx hM hA
  go_enter Tryz.func6, Tryz.ntmps6
  go_wp2_with fail
  refine (unhide HA).mono ?_
  rintro e w1 ⟨fb, rfl, b1, hD⟩
  have B1 := hide b1
  have HD := hide hD
  clear b1 hD
  go_wp2_with fail
  refine (unhide HWk _ (by have h := unhide B1; have h2 := h.size; (repeat (first | exact h | refine Below.drew ?_ | refine Below.alloc ?_ (by first | omega | (simp; done) | (simp; omega)) _ | refine Below.setCell ?_ (by first | omega | (simp; done) | (simp; omega)) _)))).mono ?_
  rintro e w2 ⟨rfl, b2⟩
  have C2 : Hid (Below w1.heap.size w1 w2) := ((Below.refl _ _).alloc (Nat.le_refl _) _).trans (b2.mono (by simp))
  clear b2
  go_wp2_with fail
  refine (LnR.ref_split_short s w2 hs).mono ?_
  rintro e w3 ⟨v, rfl, hO, b3⟩
  obtain ⟨ao, cap, rfl, hcap, hS⟩ := StrAt.of_own hO
  have HS := hide hS
  have C3 := hide (btr (unhide C2) b3)
  clear hO b3 hS
  have hnl : (Ln.linesOf s.data.toList).length ≤ 65536 := Nat.le_trans (Ln.linesOf_len s.data.toList) (by rw [show s.data.toList.length = s.size by simp]; exact hs)
  generalize hnn : (Ln.linesOf s.data.toList).length = n at *
  have HNN := hide hnn
  clear hnn
  go_wp2_with fail
  refine ((unhide HD).yes (unhide C3) (unhide HX)).mono ?_
  rintro e w4 ⟨wb, rfl, b4⟩
  have C4 := hide (btr (unhide C3) b4)
  clear b4 HS
  go_wp2
  go_ret
  exact ⟨rfl, by have h := (unhide B1).trans ((unhide C4).mono (unhide B1).size); have h2 := h.size; (repeat (first | exact h | refine Below.drew ?_ | refine Below.alloc ?_ (by first | omega | (simp; done) | (simp; omega)) _ | refine Below.setCell ?_ (by first | omega | (simp; done) | (simp; omega)) _))⟩
set_option maxRecDepth 100000 in
set_option maxHeartbeats 4000000 in
theorem dfirst_marked (a s t : ByteArray) (w : World) {F : Fil} (hM : Mx w.heap.size w) (hA : AffOk w a F) (hs : s.size ≤ 65536) {k c : Nat} (hx : dicR F s.data.toList = .error (k, c)) (h0 : ((c : Int) == 0) = false) (hm : Lib.hasPrefix s.data.toList Ln.mark = true) : DFirst a s t w := by
  have HA := hide hA
  unfold AffOk at HA
  have HWk := hide (fun W (b : Below w.heap.size w W) => wakes12_any W (hM.up b))
  have HX := hide hx
  have HMK := hide (fun W => LnR.marked_any s W (by unfold maxLen; omega))
  rw [hm] at HMK
  have h00 : ((c : Int) != 0) = true := by rw [bne, h0]; rfl
  clear hx hM hm hA
  go_enter Tryz.func6, Tryz.ntmps6
  go_wp2_with fail
  refine (unhide HA).mono ?_
  rintro e w1 ⟨fb, rfl, b1, hD⟩
  have B1 := hide b1
  have HD := hide hD
  clear b1 hD
  go_wp2_with fail
  refine (unhide HWk _ (by have h := unhide B1; have h2 := h.size; (repeat (first | exact h | refine Below.drew ?_ | refine Below.alloc ?_ (by first | omega | (simp; done) | (simp; omega)) _ | refine Below.setCell ?_ (by first | omega | (simp; done) | (simp; omega)) _)))).mono ?_
  rintro e w2 ⟨rfl, b2⟩
  have C2 : Hid (Below w1.heap.size w1 w2) := ((Below.refl _ _).alloc (Nat.le_refl _) _).trans (b2.mono (by simp))
  clear b2
  go_wp2_with fail
  refine (LnR.ref_split_short s w2 hs).mono ?_
  rintro e w3 ⟨v, rfl, hO, b3⟩
  obtain ⟨ao, cap, rfl, hcap, hS⟩ := StrAt.of_own hO
  have HS := hide hS
  have C3 := hide (btr (unhide C2) b3)
  clear hO b3 hS
  have hnl : (Ln.linesOf s.data.toList).length ≤ 65536 := Nat.le_trans (Ln.linesOf_len s.data.toList) (by rw [show s.data.toList.length = s.size by simp]; exact hs)
  generalize hnn : (Ln.linesOf s.data.toList).length = n at *
  have HNN := hide hnn
  clear hnn
  go_wp2_with fail
  refine ((unhide HD).no (unhide C3) (unhide HX)).mono ?_
  rintro e w4 ⟨rfl, b4⟩
  have C4 := hide (btr (unhide C3) b4)
  have HS4 := hide ((unhide HS).below b4)
  clear b4 HS
  go_wp2_with (go_at_call 20; refine (unhide HMK _).mono ?_; rintro e w9 ⟨rfl, hw⟩; obtain rfl := hw.symm)
  go_ret
  exact ⟨rfl, by have h := (unhide B1).trans ((unhide C4).mono (unhide B1).size); have h2 := h.size; (repeat (first | exact h | refine Below.drew ?_ | refine Below.alloc ?_ (by first | omega | (simp; done) | (simp; omega)) _ | refine Below.setCell ?_ (by first | omega | (simp; done) | (simp; omega)) _))⟩
set_option maxRecDepth 100000 in
set_option maxHeartbeats 4000000 in
theorem dfirst_end (a s t : ByteArray) (w : World) {F : Fil} (hM : Mx w.heap.size w) (hA : AffOk w a F) (hs : s.size ≤ 65536) {k : Nat} (hx : dicR F s.data.toList = .error (k, 116)) (hk : k = (Ln.linesOf s.data.toList).length + 1) (hm : Lib.hasPrefix s.data.toList Ln.mark = false) : DFirst a s t w := by
  have HA := hide hA
  unfold AffOk at HA
  have HWk := hide (fun W (b : Below w.heap.size w W) => wakes12_any W (hM.up b))
  have HX : Hid (∀ w1 fb W, DicOk w1 fb F → Below w1.heap.size w1 W → Calls Tryz.prog 13 #[.pointer (some ⟨fb, 0, none⟩), .string s] W fun e w' => e = .returned (.tuple #[.pointer none, .agg #[.int .i64 2, .int .i64 (((Ln.linesOf s.data.toList).length : Int) + 1), .int .i64 116]]) ∧ Below W.heap.size W w') := by
    intro w1 fb W hD b
    refine (hD.no b hx).mono ?_
    rintro e w' ⟨rfl, b2⟩
    refine ⟨?_, b2⟩
    rw [hk]
    rfl
  have HMK := hide (fun W => LnR.marked_any s W (by unfold maxLen; omega))
  rw [hm] at HMK
  clear hx hM hm hk hA
  go_enter Tryz.func6, Tryz.ntmps6
  go_wp2_with fail
  refine (unhide HA).mono ?_
  rintro e w1 ⟨fb, rfl, b1, hD⟩
  have B1 := hide b1
  have HD := hide hD
  clear b1 hD
  go_wp2_with fail
  refine (unhide HWk _ (by have h := unhide B1; have h2 := h.size; (repeat (first | exact h | refine Below.drew ?_ | refine Below.alloc ?_ (by first | omega | (simp; done) | (simp; omega)) _ | refine Below.setCell ?_ (by first | omega | (simp; done) | (simp; omega)) _)))).mono ?_
  rintro e w2 ⟨rfl, b2⟩
  have C2 : Hid (Below w1.heap.size w1 w2) := ((Below.refl _ _).alloc (Nat.le_refl _) _).trans (b2.mono (by simp))
  clear b2
  go_wp2_with fail
  refine (LnR.ref_split_short s w2 hs).mono ?_
  rintro e w3 ⟨v, rfl, hO, b3⟩
  obtain ⟨ao, cap, rfl, hcap, hS⟩ := StrAt.of_own hO
  have HS := hide hS
  have C3 := hide (btr (unhide C2) b3)
  clear hO b3 hS
  have hnl : (Ln.linesOf s.data.toList).length ≤ 65536 := Nat.le_trans (Ln.linesOf_len s.data.toList) (by rw [show s.data.toList.length = s.size by simp]; exact hs)
  generalize hnn : (Ln.linesOf s.data.toList).length = n at *
  have HNN := hide hnn
  clear hnn
  go_wp2_with fail
  refine (unhide HX _ _ _ (unhide HD) (unhide C3)).mono ?_
  rintro e w4 ⟨rfl, b4⟩
  have C4 := hide (btr (unhide C3) b4)
  have HS4 := hide ((unhide HS).below b4)
  clear b4 HS
  have hq1 : ¬ (n : Int) + 1 < 1 := by omega
  have hq2 : ¬ (n : Int) + 1 < (n : Int) + 1 := by omega
  go_wp2_with (go_at_call 20; refine (unhide HMK _).mono ?_; rintro e w9 ⟨rfl, hw⟩; obtain rfl := hw.symm)
  go_ret
  exact ⟨rfl, by have h := (unhide B1).trans ((unhide C4).mono (unhide B1).size); have h2 := h.size; (repeat (first | exact h | refine Below.drew ?_ | refine Below.alloc ?_ (by first | omega | (simp; done) | (simp; omega)) _ | refine Below.setCell ?_ (by first | omega | (simp; done) | (simp; omega)) _))⟩
end Af
end Go.Proofs.YtlajdmjpobckhaaGreatDoor
/- The walk of DicFirst, the rest: a fault within the text. -/
namespace Go.Proofs.YtlajdmjpobckhaaGreatDoor
open Go.RowKit
namespace Af
open RowB FldW
structure FirstD (w1 : World) (fb : Nat) (s t hd bf : ByteArray) (L : List Bs) (j : Nat) (c : Int) (m1 m2 : Bool) : Prop where
  read : ∀ W, Below w1.heap.size w1 W → Calls Tryz.prog 13 #[.pointer (some ⟨fb, 0, none⟩), .string s] W fun e w' => e = .returned (.tuple #[.pointer none, .agg #[.int .i64 2, .int .i64 ((j : Int) + 1), .int .i64 c]]) ∧ Below W.heap.size W w'
  joined1 : ∀ W ao cap, StrAt W ao L → Calls Tryz.prog 18 #[.slice ao (j + 1) cap] W fun e w' => e = .returned (.string hd) ∧ w' = W
  joined2 : ∀ W ao cap, StrAt W ao L → Calls Tryz.prog 18 #[.slice ao j cap] W fun e w' => e = .returned (.string bf) ∧ w' = W
  mark0 : ∀ W, Calls Tryz.prog 20 #[.string s] W fun e w' => e = .returned (.bool false) ∧ w' = W
  mark1 : ∀ W, Calls Tryz.prog 20 #[.string hd] W fun e w' => e = .returned (.bool m1) ∧ w' = W
  mark2 : ∀ W, Calls Tryz.prog 20 #[.string bf] W fun e w' => e = .returned (.bool m2) ∧ w' = W
  add : hd.size + t.size ≤ 65536 → ∀ Wq : World, (Op.stringOp .add hd t).run Tryz.prog Wq = .ok (.string (hd ++ t)) Wq
  read1 : m1 = false → hd.size + t.size ≤ 65536 → ∀ W, Below w1.heap.size w1 W → Calls Tryz.prog 13 #[.pointer (some ⟨fb, 0, none⟩), .string (hd ++ t)] W fun e w' => e = .returned (.tuple #[.pointer none, .agg #[.int .i64 2, .int .i64 ((j : Int) + 1), .int .i64 c]]) ∧ Below W.heap.size W w'
  read2 : m2 = false → bf.size ≤ 65536 → ∀ W, Below w1.heap.size w1 W → Calls Tryz.prog 13 #[.pointer (some ⟨fb, 0, none⟩), .string bf] W fun e w' => Below W.heap.size W w' ∧ ∃ p f a b, e = .returned (.tuple #[p, .agg #[.int .i64 f, .int .i64 a, .int .i64 b]]) ∧ (b = 0 ∨ b = 116 ∧ a = (j : Int) + 1)
  small : hd.size ≤ 1000000 ∧ bf.size ≤ 1000000
theorem flt_next {w w3 w4 : World} {a b c : Value} (hB : Below w.heap.size w w3) (h : Below (w3.alloc (.cells #[a, b, c] 29)).heap.size (w3.alloc (.cells #[a, b, c] 29)) w4) : Below w.heap.size w w4 ∧ w4.cell? ⟨w3.heap.size, 0, none⟩ = some a ∧ w4.cell? ⟨w3.heap.size, 1, none⟩ = some b ∧ w4.cell? ⟨w3.heap.size, 2, none⟩ = some c ∧ (∀ k, w4.frozen? ⟨w3.heap.size, k, none⟩ = false) ∧ w3.heap.size < w4.heap.size := by
  have h1 : Below w.heap.size w (w3.alloc (.cells #[a, b, c] 29)) := hB.alloc hB.size _
  have hs := h.size
  simp only [World.size_alloc] at hs
  have hb := h.block w3.heap.size (by simp)
  rw [alloc_new] at hb
  obtain ⟨c0, c1, c2, cz⟩ := fault3 hb
  exact ⟨h1.trans (h.mono h1.size), c0, c1, c2, cz, hs⟩
theorem flt_keep {w w4 w5 : World} {g : Nat} {a b c : Value} {o : Obj} (hB : Below w.heap.size w w4) (c0 : w4.cell? ⟨g, 0, none⟩ = some a) (c1 : w4.cell? ⟨g, 1, none⟩ = some b) (c2 : w4.cell? ⟨g, 2, none⟩ = some c) (cz : ∀ k, w4.frozen? ⟨g, k, none⟩ = false) (hg : g < w4.heap.size) (h : Below (w4.alloc o).heap.size (w4.alloc o) w5) : Below w.heap.size w w5 ∧ w5.cell? ⟨g, 0, none⟩ = some a ∧ w5.cell? ⟨g, 1, none⟩ = some b ∧ w5.cell? ⟨g, 2, none⟩ = some c ∧ (∀ k, w5.frozen? ⟨g, k, none⟩ = false) ∧ g < w5.heap.size := by
  have hk : Below w4.heap.size w4 w5 := ((Below.refl _ _).alloc (Nat.le_refl _) _).trans (h.mono (by simp))
  refine ⟨hB.trans (hk.mono hB.size), (hk.cell (p := ⟨g, 0, none⟩) hg).trans c0, (hk.cell (p := ⟨g, 1, none⟩) hg).trans c1, (hk.cell (p := ⟨g, 2, none⟩) hg).trans c2, fun k => ?_, Nat.lt_of_lt_of_le hg hk.size⟩
  have := hk.block g hg
  rw [← cz k]
  unfold World.frozen?
  simp only [this]
theorem dfirst_h {s t : ByteArray} {F : Fil} (hs : s.size ≤ 65536) {j c : Nat} (hx : dicR F s.data.toList = .error (j + 1, c)) (hk : j + 1 ≤ (Ln.linesOf s.data.toList).length) (hm : Lib.hasPrefix s.data.toList Ln.mark = false) :
    ∃ hd bf m1 m2, (hd.size ≤ 1000000 ∧ bf.size ≤ 1000000) ∧ ∀ w1 fb, DicOk w1 fb F → FirstD w1 fb s t hd bf (Ln.linesOf s.data.toList) j c m1 m2 := by
  have hsl : ¬ 65536 < s.data.toList.length := by simp; omega
  have key := dfirst_law hsl hx
  have hL := Ln.linesOf_len s.data.toList
  have hlen : ∀ k, (joinL ((Ln.linesOf s.data.toList).take k)).length ≤ 1000000 := by
    intro k
    refine Nat.le_trans (joinL_le _ _) ?_
    have h1 : ∀ (l : List Bs), (joinL l).length = (l.map List.length).sum + 2 * l.length := by
      intro l
      induction l with
      | nil => rfl
      | cons a b ih => simp [joinL, ih]; omega
    rw [h1]
    have h2 := lines_sum s.data.toList
    omega
  rcases key with ⟨q, -⟩ | ⟨k1, k2, k3, k4⟩
  · omega
  rw [show j + 1 - 1 = j by omega] at k4
  have hdd : ∀ l : Bs, (Fld.str l).data.toList = l := fun l => by simp [Fld.str]
  refine ⟨Fld.str (joinL ((Ln.linesOf s.data.toList).take (j + 1))), Fld.str (joinL ((Ln.linesOf s.data.toList).take j)), Lib.hasPrefix (joinL ((Ln.linesOf s.data.toList).take (j + 1))) Ln.mark, Lib.hasPrefix (joinL ((Ln.linesOf s.data.toList).take j)) Ln.mark, ⟨by rw [str_size]; exact hlen _, by rw [str_size]; exact hlen _⟩, fun w1 fb hD => ?_⟩
  constructor
  · intro W b
    refine (hD.no b hx).mono ?_
    rintro e w' ⟨rfl, b2⟩
    exact ⟨rfl, b2⟩
  · intro W ao cap h
    exact joined_any ao cap (j + 1) _ W (by simp; omega) (by omega) (hlen _) (h.take _)
  · intro W ao cap h
    exact joined_any ao cap j _ W (by simp; omega) (by omega) (hlen _) (h.take _)
  · intro W
    have := LnR.marked_any s W (by unfold maxLen; omega)
    rwa [hm] at this
  · intro W
    have := LnR.marked_any (Fld.str (joinL ((Ln.linesOf s.data.toList).take (j + 1)))) W (by rw [str_size]; have := hlen (j + 1); unfold maxLen; omega)
    rwa [hdd] at this
  · intro W
    have := LnR.marked_any (Fld.str (joinL ((Ln.linesOf s.data.toList).take j))) W (by rw [str_size]; have := hlen j; unfold maxLen; omega)
    rwa [hdd] at this
  · intro hz Wq
    exact run_string_add_sum _ _ _ (by omega)
  · intro h1 h2 W b
    rw [str_size] at h2
    have e : (Fld.str (joinL ((Ln.linesOf s.data.toList).take (j + 1))) ++ t).data.toList = joinL ((Ln.linesOf s.data.toList).take (j + 1)) ++ t.data.toList := by simp [Fld.str]
    refine (hD.no b (by rw [e]; exact k3 _ (by simp at h2 ⊢; omega) h1)).mono ?_
    rintro e w' ⟨rfl, b2⟩
    exact ⟨rfl, b2⟩
  · intro h1 h2 W b
    rw [str_size] at h2
    cases hq : dicR F (joinL ((Ln.linesOf s.data.toList).take j)) with
    | ok E =>
      refine (hD.yes b (by rw [hdd]; exact hq)).mono ?_
      rintro e w' ⟨wb, rfl, b2⟩
      exact ⟨b2, _, 0, 0, 0, rfl, .inl rfl⟩
    | error e =>
      refine (hD.no b (k := e.1) (c := e.2) (by rw [hdd]; exact hq)).mono ?_
      rintro e2 w' ⟨rfl, b2⟩
      refine ⟨b2, _, _, _, _, rfl, ?_⟩
      have z := k4 (by omega) h1 e hq
      right
      rw [z]
      exact ⟨rfl, rfl⟩
  · rw [str_size, str_size]
    exact ⟨hlen _, hlen _⟩
set_option maxRecDepth 100000 in
set_option maxHeartbeats 4000000 in
theorem dfirst_rest (a s t : ByteArray) (w : World) {F : Fil} (hM : Mx w.heap.size w) (hA : AffOk w a F) (hs : s.size ≤ 65536) (ht : t.size ≤ 140737488355328) {j c : Nat} (hx : dicR F s.data.toList = .error (j + 1, c)) (hc0 : c ≠ 0) (hk : j + 1 ≤ (Ln.linesOf s.data.toList).length) (hm : Lib.hasPrefix s.data.toList Ln.mark = false) : DFirst a s t w := by
  have HA := hide hA
  unfold AffOk at HA
  have HWk := hide (fun W (b : Below w.heap.size w W) => wakes12_any W (hM.up b))
  obtain ⟨hd, bf, m1, m2, hsm, HH0⟩ := dfirst_h (t := t) hs hx hk hm
  have HHX := hide HH0
  have h0 : ((c : Int) == 0) = false := by simp [hc0]
  obtain ⟨hd1, hb1⟩ := hsm
  clear hx hM hm HH0 hc0 hA
  go_enter Tryz.func6, Tryz.ntmps6
  go_wp2_with fail
  refine (unhide HA).mono ?_
  rintro e w1 ⟨fb, rfl, b1, hD⟩
  have B1 := hide b1
  have HD := hide hD
  clear b1 hD
  go_wp2_with fail
  refine (unhide HWk _ (by have h := unhide B1; have h2 := h.size; (repeat (first | exact h | refine Below.drew ?_ | refine Below.alloc ?_ (by first | omega | (simp; done) | (simp; omega)) _ | refine Below.setCell ?_ (by first | omega | (simp; done) | (simp; omega)) _)))).mono ?_
  rintro e w2 ⟨rfl, b2⟩
  have C2 : Hid (Below w1.heap.size w1 w2) := ((Below.refl _ _).alloc (Nat.le_refl _) _).trans (b2.mono (by simp))
  clear b2
  go_wp2_with fail
  refine (LnR.ref_split_short s w2 hs).mono ?_
  rintro e w3 ⟨v, rfl, hO, b3⟩
  obtain ⟨ao, cap, rfl, hcap, hS⟩ := StrAt.of_own hO
  have HS := hide hS
  have C3 := hide (btr (unhide C2) b3)
  clear hO b3 hS
  have hnl : (Ln.linesOf s.data.toList).length ≤ 65536 := Nat.le_trans (Ln.linesOf_len s.data.toList) (by rw [show s.data.toList.length = s.size by simp]; exact hs)
  generalize hnn : (Ln.linesOf s.data.toList).length = n at *
  have HNN := hide hnn
  clear hnn
  go_wp2_with fail
  have HH := hide (unhide HHX w1 fb (unhide HD))
  refine ((unhide HH).read _ (unhide C3)).mono ?_
  rintro e w4 ⟨rfl, b4⟩
  have C4 := hide (btr (unhide C3) b4)
  have HS4 := hide ((unhide HS).below b4)
  clear b4 HS
  have hq1 : ¬ (j : Int) + 1 < 1 := by omega
  have hq2 : ¬ (n : Int) + 1 < (j : Int) + 1 := by omega
  have hq3 : ((j : Int) + 1 == (n : Int) + 1) = false := by simp; omega
  have hq4 : (j : Int) + 1 ≤ (cap : Int) := by omega
  have hway : ¬ ((hd.size : Int) + (t.size : Int) ≤ 65536) ∨ ((hd.size : Int) + (t.size : Int) ≤ 65536 ∧ m1 = true) ∨ ((hd.size : Int) + (t.size : Int) ≤ 65536 ∧ m1 = false) := by
    cases m1 <;> simp <;> omega
  have hway2 : (65536 : Int) < (bf.size : Int) ∨ (¬ (65536 : Int) < (bf.size : Int) ∧ m2 = true) ∨ (¬ (65536 : Int) < (bf.size : Int) ∧ m2 = false) := by
    cases m2 <;> simp <;> omega
  have HW2 := hide hway2
  clear hway2 HHX
  rcases hway with hw1 | ⟨hw1, rfl⟩ | ⟨hw1, rfl⟩
  · skip
    go_wp2_with (first | (go_at_call 20; with_reducible (show Calls _ _ #[.string s] _ _); refine ((unhide HH).mark0 _).mono ?_; rintro e w9 ⟨rfl, hw9⟩; obtain rfl := hw9.symm) | (go_at_call 18; with_reducible (show Calls _ _ #[.slice ao (j + 1) cap] _ _); refine ((unhide HH).joined1 _ _ _ ((unhide HS4).below (by (repeat (first | exact Below.refl _ _ | refine Below.drew ?_ | refine Below.alloc ?_ (by first | (simp; done) | (simp; omega)) _ | refine Below.setCell ?_ (by first | (simp; done) | (simp; omega)) _))))).mono ?_; rintro e w9 ⟨rfl, hw9⟩; obtain rfl := hw9.symm))
    refine ((unhide HH).joined2 _ _ _ ((unhide HS4).below (by (repeat (first | exact Below.refl _ _ | refine Below.drew ?_ | refine Below.alloc ?_ (by first | (simp; done) | (simp; omega)) _ | refine Below.setCell ?_ (by first | (simp; done) | (simp; omega)) _))))).mono ?_
    rintro e w9 ⟨rfl, hw9⟩
    obtain rfl := hw9.symm
    rcases unhide HW2 with hw2 | ⟨hw2, rfl⟩ | ⟨hw2, rfl⟩
    · go_wp2
      go_ret
      exact ⟨rfl, by have h := (unhide B1).trans ((unhide C4).mono (unhide B1).size); have h2 := h.size; (repeat (first | exact h | refine Below.drew ?_ | refine Below.alloc ?_ (by first | omega | (simp; done) | (simp; omega)) _ | refine Below.setCell ?_ (by first | omega | (simp; done) | (simp; omega)) _))⟩
    · go_wp2_with (go_at_call 20; refine ((unhide HH).mark2 _).mono ?_; rintro e w8 ⟨rfl, hw8⟩; obtain rfl := hw8.symm)
      go_ret
      exact ⟨rfl, by have h := (unhide B1).trans ((unhide C4).mono (unhide B1).size); have h2 := h.size; (repeat (first | exact h | refine Below.drew ?_ | refine Below.alloc ?_ (by first | omega | (simp; done) | (simp; omega)) _ | refine Below.setCell ?_ (by first | omega | (simp; done) | (simp; omega)) _))⟩
    · go_wp2_with (first | (go_at_call 20; refine ((unhide HH).mark2 _).mono ?_; rintro e w8 ⟨rfl, hw8⟩; obtain rfl := hw8.symm) | (go_at_call 13; refine ((unhide HH).read2 rfl (by omega) _ (by have h := unhide C4; have h2 := h.size; (repeat (first | exact h | refine Below.drew ?_ | refine Below.alloc ?_ (by first | omega | (simp; done) | (simp; omega)) _ | refine Below.setCell ?_ (by first | omega | (simp; done) | (simp; omega)) _)))).mono ?_; rintro e w6 ⟨b6, p, f, aa, b, rfl, hres⟩; obtain ⟨B6', d0, d1, d2, dz, hz6⟩ := flt_next (unhide C4) b6; have C6 := hide B6'; clear b6 B6'; rcases hres with rfl | ⟨rfl, rfl⟩))
      all_goals
        go_ret
        exact ⟨rfl, by have h := (unhide B1).trans ((unhide C6).mono (unhide B1).size); have h2 := h.size; (repeat (first | exact h | refine Below.drew ?_ | refine Below.alloc ?_ (by first | omega | (simp; done) | (simp; omega)) _ | refine Below.setCell ?_ (by first | omega | (simp; done) | (simp; omega)) _))⟩
  · skip
    go_wp2_with (first | (go_at_call 20; with_reducible (show Calls _ _ #[.string s] _ _); refine ((unhide HH).mark0 _).mono ?_; rintro e w9 ⟨rfl, hw9⟩; obtain rfl := hw9.symm) | (go_at_call 18; with_reducible (show Calls _ _ #[.slice ao (j + 1) cap] _ _); refine ((unhide HH).joined1 _ _ _ ((unhide HS4).below (by (repeat (first | exact Below.refl _ _ | refine Below.drew ?_ | refine Below.alloc ?_ (by first | (simp; done) | (simp; omega)) _ | refine Below.setCell ?_ (by first | (simp; done) | (simp; omega)) _))))).mono ?_; rintro e w9 ⟨rfl, hw9⟩; obtain rfl := hw9.symm) | (go_at_call 20; with_reducible (show Calls _ _ #[.string hd] _ _); refine ((unhide HH).mark1 _).mono ?_; rintro e w9 ⟨rfl, hw9⟩; obtain rfl := hw9.symm))
    refine ((unhide HH).joined2 _ _ _ ((unhide HS4).below (by (repeat (first | exact Below.refl _ _ | refine Below.drew ?_ | refine Below.alloc ?_ (by first | (simp; done) | (simp; omega)) _ | refine Below.setCell ?_ (by first | (simp; done) | (simp; omega)) _))))).mono ?_
    rintro e w9 ⟨rfl, hw9⟩
    obtain rfl := hw9.symm
    rcases unhide HW2 with hw2 | ⟨hw2, rfl⟩ | ⟨hw2, rfl⟩
    · go_wp2
      go_ret
      exact ⟨rfl, by have h := (unhide B1).trans ((unhide C4).mono (unhide B1).size); have h2 := h.size; (repeat (first | exact h | refine Below.drew ?_ | refine Below.alloc ?_ (by first | omega | (simp; done) | (simp; omega)) _ | refine Below.setCell ?_ (by first | omega | (simp; done) | (simp; omega)) _))⟩
    · go_wp2_with (go_at_call 20; refine ((unhide HH).mark2 _).mono ?_; rintro e w8 ⟨rfl, hw8⟩; obtain rfl := hw8.symm)
      go_ret
      exact ⟨rfl, by have h := (unhide B1).trans ((unhide C4).mono (unhide B1).size); have h2 := h.size; (repeat (first | exact h | refine Below.drew ?_ | refine Below.alloc ?_ (by first | omega | (simp; done) | (simp; omega)) _ | refine Below.setCell ?_ (by first | omega | (simp; done) | (simp; omega)) _))⟩
    · go_wp2_with (first | (go_at_call 20; refine ((unhide HH).mark2 _).mono ?_; rintro e w8 ⟨rfl, hw8⟩; obtain rfl := hw8.symm) | (go_at_call 13; refine ((unhide HH).read2 rfl (by omega) _ (by have h := unhide C4; have h2 := h.size; (repeat (first | exact h | refine Below.drew ?_ | refine Below.alloc ?_ (by first | omega | (simp; done) | (simp; omega)) _ | refine Below.setCell ?_ (by first | omega | (simp; done) | (simp; omega)) _)))).mono ?_; rintro e w6 ⟨b6, p, f, aa, b, rfl, hres⟩; obtain ⟨B6', d0, d1, d2, dz, hz6⟩ := flt_next (unhide C4) b6; have C6 := hide B6'; clear b6 B6'; rcases hres with rfl | ⟨rfl, rfl⟩))
      all_goals
        go_ret
        exact ⟨rfl, by have h := (unhide B1).trans ((unhide C6).mono (unhide B1).size); have h2 := h.size; (repeat (first | exact h | refine Below.drew ?_ | refine Below.alloc ?_ (by first | omega | (simp; done) | (simp; omega)) _ | refine Below.setCell ?_ (by first | omega | (simp; done) | (simp; omega)) _))⟩
  · skip
    have hadd := (unhide HH).add (by omega)
    go_wp2_with (first | (go_at_call 20; with_reducible (show Calls _ _ #[.string s] _ _); refine ((unhide HH).mark0 _).mono ?_; rintro e w9 ⟨rfl, hw9⟩; obtain rfl := hw9.symm) | (go_at_call 18; with_reducible (show Calls _ _ #[.slice ao (j + 1) cap] _ _); refine ((unhide HH).joined1 _ _ _ ((unhide HS4).below (by (repeat (first | exact Below.refl _ _ | refine Below.drew ?_ | refine Below.alloc ?_ (by first | (simp; done) | (simp; omega)) _ | refine Below.setCell ?_ (by first | (simp; done) | (simp; omega)) _))))).mono ?_; rintro e w9 ⟨rfl, hw9⟩; obtain rfl := hw9.symm) | (go_at_call 20; with_reducible (show Calls _ _ #[.string hd] _ _); refine ((unhide HH).mark1 _).mono ?_; rintro e w9 ⟨rfl, hw9⟩; obtain rfl := hw9.symm) | (go_at_call 13; with_reducible (show Calls _ _ #[_, .string (hd ++ t)] _ _); refine ((unhide HH).read1 rfl (by omega) _ (by have h := unhide C4; have h2 := h.size; (repeat (first | exact h | refine Below.drew ?_ | refine Below.alloc ?_ (by first | omega | (simp; done) | (simp; omega)) _ | refine Below.setCell ?_ (by first | omega | (simp; done) | (simp; omega)) _)))).mono ?_; rintro e w5 ⟨rfl, b5⟩; obtain ⟨B5', c0, c1, c2, cz, hz5⟩ := flt_next (unhide C4) b5; have C5 := hide B5'; have HS5 := hide ((unhide HS4).below (((Below.refl _ _).alloc (Nat.le_refl _) _).trans (b5.mono (by simp)))); clear b5 B5'))
    refine ((unhide HH).joined2 _ _ _ ((unhide HS5).below (by (repeat (first | exact Below.refl _ _ | refine Below.drew ?_ | refine Below.alloc ?_ (by first | (simp; done) | (simp; omega)) _ | refine Below.setCell ?_ (by first | (simp; done) | (simp; omega)) _))))).mono ?_
    rintro e w9 ⟨rfl, hw9⟩
    obtain rfl := hw9.symm
    rcases unhide HW2 with hw2 | ⟨hw2, rfl⟩ | ⟨hw2, rfl⟩
    · go_wp2
      go_ret
      exact ⟨rfl, by have h := (unhide B1).trans ((unhide C5).mono (unhide B1).size); have h2 := h.size; (repeat (first | exact h | refine Below.drew ?_ | refine Below.alloc ?_ (by first | omega | (simp; done) | (simp; omega)) _ | refine Below.setCell ?_ (by first | omega | (simp; done) | (simp; omega)) _))⟩
    · go_wp2_with (go_at_call 20; refine ((unhide HH).mark2 _).mono ?_; rintro e w8 ⟨rfl, hw8⟩; obtain rfl := hw8.symm)
      go_ret
      exact ⟨rfl, by have h := (unhide B1).trans ((unhide C5).mono (unhide B1).size); have h2 := h.size; (repeat (first | exact h | refine Below.drew ?_ | refine Below.alloc ?_ (by first | omega | (simp; done) | (simp; omega)) _ | refine Below.setCell ?_ (by first | omega | (simp; done) | (simp; omega)) _))⟩
    · go_wp2_with (first | (go_at_call 20; refine ((unhide HH).mark2 _).mono ?_; rintro e w8 ⟨rfl, hw8⟩; obtain rfl := hw8.symm) | (go_at_call 13; refine ((unhide HH).read2 rfl (by omega) _ (by have h := unhide C5; have h2 := h.size; (repeat (first | exact h | refine Below.drew ?_ | refine Below.alloc ?_ (by first | omega | (simp; done) | (simp; omega)) _ | refine Below.setCell ?_ (by first | omega | (simp; done) | (simp; omega)) _)))).mono ?_; rintro e w6 ⟨b6, p, f, aa, b, rfl, hres⟩; obtain ⟨B6', d0, d1, d2, dz, hz6⟩ := flt_keep (unhide C5) c0 c1 c2 cz hz5 b6; have C6 := hide B6'; clear b6 B6'; rcases hres with rfl | ⟨rfl, rfl⟩))
      all_goals
        go_ret
        exact ⟨rfl, by have h := (unhide B1).trans ((unhide C6).mono (unhide B1).size); have h2 := h.size; (repeat (first | exact h | refine Below.drew ?_ | refine Below.alloc ?_ (by first | omega | (simp; done) | (simp; omega)) _ | refine Below.setCell ?_ (by first | omega | (simp; done) | (simp; omega)) _))⟩
theorem dfirst_walk (a s t : ByteArray) (w : World) (ht : t.size ≤ 140737488355328) (hM : Mx w.heap.size w) : DFirst a s t w := by
  cases ha : affR a.data.toList with
  | error er => exact dfirst_nil a s t w hM ha
  | ok F =>
    have hA := affOk hM ha
    by_cases hs : s.size ≤ 65536
    · have hsl : ¬ 65536 < s.data.toList.length := by simp; omega
      cases hx : dicR F s.data.toList with
      | ok E => exact dfirst_ok a s t w hM hA hs hx
      | error e =>
        obtain ⟨k, c⟩ := e
        have h0 : c ≠ 0 := dicR_code hx
        cases hm : Lib.hasPrefix s.data.toList Ln.mark with
        | true => exact dfirst_marked a s t w hM hA hs hx (by simp [h0]) hm
        | false =>
          rcases dfirst_law hsl hx with ⟨hk, hc⟩ | ⟨k1, k2, -⟩
          · subst hc
            exact dfirst_end a s t w hM hA hs hx hk hm
          · obtain ⟨j, rfl⟩ : ∃ j, k = j + 1 := ⟨k - 1, by omega⟩
            exact dfirst_rest a s t w hM hA hs ht hx h0 k2 hm
    · exact dfirst_long a s t w hM hA (by omega)
end Af
end Go.Proofs.YtlajdmjpobckhaaGreatDoor
/- What it is that a list of flags that came in lies in memory, and how big it is; no walk. -/
namespace Go.Proofs.YtlajdmjpobckhaaGreatDoor
open Go.RowKit
namespace ArgF

theorem laidOut : laidOutB Tryz.prog = true := by kernel_rfl
section
variable {H : Type} {enc : TypeId × Value → H} {w : World}
/-- a flag's number as its datum -/
def datF (x : Int) : DataW H := .lit (.int .u16 x)
theorem el_flag (n : Nat) (u : Value) (d : DataW H) (p : List MemPlace) (h : DataW.trod enc Tryz.prog w 0 (fun _ => true) true n 61 [u] = some (d, p)) : ∃ x : Int, u = .int .u16 x ∧ d = datF x ∧ 0 ≤ x ∧ x ≤ 65535 := by
  obtain ⟨s, h1, h2, h3⟩ := DataW.trod_int Tryz.underlying61 h
  simp at h1 h2
  have hb := bounds_u16 h3
  exact ⟨s, h1, h2.1, hb.1, hb.2⟩
/-- a flag with its bounds -/
def Fl : Type := { x : Int // 0 ≤ x ∧ x ≤ 65535 }
theorem open_flags {fuel : Nat} {v : Value} {d : DataW H} {p : List MemPlace} (hf : DataW.trod enc Tryz.prog w 0 (fun _ => true) true fuel 39 [v] = some (d, p)) :
    ∃ L S : List Int, So.FArg w v L ∧ (∀ x ∈ L, 0 ≤ x ∧ x ≤ 65535) ∧ ((d = .nil ∧ L = []) ∨ d = .slice (L.map datF) (S.map datF)) := by
  rcases Go.Deep.open_slice1 Tryz.underlying39 (by kernel_rfl) hf with ⟨hcs, hx⟩ | ⟨x, len', cap', m, n, V, D, Pl, hcs, _, hl, hm, hmm, hx, hV⟩
  · simp at hcs
    subst hcs
    simp only [Prod.mk.injEq] at hx
    exact ⟨[], [], ⟨none, 0, rfl, Nat.le_refl _, Nat.zero_le _, fun _ => rfl, fun h => absurd h (by simp)⟩, fun x hx => (by cases hx), .inl ⟨hx.1, rfl⟩⟩
  · have hv : v = .slice (some x) len' cap' := by simpa using hcs
    subst hv
    have hm2 : m = cap' := by simpa using hmm
    subst hm2
    have hX : ∀ i, i < m → ∃ y : Int, V i = .int .u16 y ∧ D i = datF y ∧ 0 ≤ y ∧ y ≤ 65535 := fun i hi => el_flag n (V i) (D i) (Pl i) (hV i hi).2
    have hss : ∀ j, j ≤ m → ∃ ss : List Int, ss.length = j ∧ ∀ (i : Nat) y, ss[i]? = some y → V i = .int .u16 y ∧ D i = datF y ∧ 0 ≤ y ∧ y ≤ 65535 := by
      intro j
      induction j with
      | zero => intro _; exact ⟨[], rfl, fun i y h => by simp at h⟩
      | succ j ih =>
        intro hj
        obtain ⟨ss, h1, h2⟩ := ih (by omega)
        obtain ⟨y, hy⟩ := hX j (by omega)
        refine ⟨ss ++ [y], by simp [h1], fun i z hz => ?_⟩
        by_cases hi : i < ss.length
        · rw [List.getElem?_append_left hi] at hz
          exact h2 i z hz
        · have : i = j := by
            have := (List.getElem?_eq_some_iff.1 hz).1
            simp at this
            omega
          subst this
          rw [List.getElem?_append_right (by omega)] at hz
          simp [h1] at hz
          subst hz
          exact hy
    obtain ⟨ss, h1, h2⟩ := hss m (Nat.le_refl _)
    refine ⟨ss.take len', ss.drop len', ?_, fun y hy => ?_, .inr ?_⟩
    · have hl2 : (ss.take len').length = len' := by simp; omega
      refine ⟨some x, m, by rw [hl2], by omega, hm, fun h => (by cases h), fun h0 => ?_⟩
      rw [hl2] at h0
      have h00 : w.cell? (x.add 0) = some (.int .u16 ss[0]) := by
        have := (h2 0 ss[0] (List.getElem?_eq_getElem (by omega))).1
        rw [← this]
        exact (hV 0 (by omega)).1
      obtain ⟨b, off, spot⟩ := x
      have hspot : spot = none := by simpa [Addr.add] using World.cell?_spot h00
      subst hspot
      refine ⟨b, off, rfl, World.block_lt_of_cell? w _ h00, fun j y hy => ?_⟩
      rw [List.getElem?_take] at hy
      split at hy
      · rename_i hjl
        have := (hV j (by omega)).1
        rw [(h2 j y hy).1, Go.WideShapes.add_plain] at this
        exact this
      · cases hy
    · obtain ⟨i, hi, e⟩ := List.getElem_of_mem (List.mem_of_mem_take hy)
      exact (h2 i y (by rw [List.getElem?_eq_getElem hi, e])).2.2
    · simp only [Prod.mk.injEq] at hx
      rw [hx.1]
      congr 1
      · apply List.ext_getElem?
        intro i
        by_cases hi : i < len'
        · have hi2 : i < ss.length := by omega
          simp only [List.getElem?_map, List.getElem?_range hi, List.getElem?_take, if_pos hi, List.getElem?_eq_getElem hi2, Option.map_some]
          rw [(h2 i _ (List.getElem?_eq_getElem hi2)).2.1]
        · simp [hi]
          omega
      · apply List.ext_getElem?
        intro i
        by_cases hi : i < m - len'
        · have hi2 : len' + i < ss.length := by omega
          simp only [List.getElem?_map, List.getElem?_range hi, List.getElem?_drop, List.getElem?_eq_getElem hi2, Option.map_some]
          rw [(h2 _ _ (List.getElem?_eq_getElem hi2)).2.1]
        · rw [List.getElem?_eq_none (by rw [List.length_map, List.length_range]; omega), List.getElem?_eq_none (by rw [List.length_map, List.length_drop, h1]; omega)]
/-- how big a list of flags is -/
theorem bulk_flags (L : List Int) : L.length ≤ Rows.uptoBulkAll (H := H) (L.map datF) := by
  induction L with
  | nil => simp
  | cons x t ih =>
    simp only [List.map_cons, Rows.uptoBulkAll, datF, Rows.uptoBulk, List.length_cons]
    omega
theorem bulk_arg {d : DataW H} {L S : List Int} (hd : (d = .nil ∧ L = []) ∨ d = .slice (L.map datF) (S.map datF)) : L.length ≤ Rows.uptoBulk d := by
  rcases hd with ⟨_, rfl⟩ | rfl
  · simp
  · have := bulk_flags (H := H) L
    simp only [Rows.uptoBulk]
    omega
end
end ArgF
end Go.Proofs.YtlajdmjpobckhaaGreatDoor
/- A text that came in is within the form's reach. -/
namespace Go.Proofs.YtlajdmjpobckhaaGreatDoor
open Go.RowKit Go.ChangeShapes Go.WideShapes
namespace ArgX
theorem sized_str {H : Type} {P : Program} {ts : List TypeId} {ds : List (DataW H)} (h : (DataW.weightsEach P ts ds).all (· ≤ reachBytes) = true) {j : Nat} {t : TypeId} {s : ByteArray} (ht : ts[j]? = some t) (hd : ds[j]? = some (.lit (.string s.data.toList))) : s.size ≤ 140737488351232 := by
  have := List.all_eq_true.1 h _ (DataW.weights_mem_each ht hd s.data.toList.length (by simp [DataW.weights]))
  have h2 : s.data.toList.length ≤ reachBytes := by simpa using this
  have h3 : reachBytes = 140737488351232 := by decide
  have h4 : s.data.toList.length = s.size := by simp
  omega
end ArgX
end Go.Proofs.YtlajdmjpobckhaaGreatDoor
/- A world for the witness: the settled one, the listed tables laid as their initialisers lay them. -/
namespace Go.Proofs.YtlajdmjpobckhaaGreatDoor.LaidA
open Go.ChangeShapes Go.WideShapes Go.ChangeAt Go.RowKit

theorem own : ownKnob Tryz.prog.godebug = none := by kernel_rfl
def put (cs : Array Value) : Obj → Obj
  | .cells _ t frozen => .cells cs t frozen
  | o => o
def tabs (W : World) : World := { W with heap := ((W.heap.modify 2 (put #[.int .u8 128, .int .u8 191, .int .u8 160, .int .u8 191, .int .u8 128, .int .u8 159, .int .u8 144, .int .u8 191, .int .u8 128, .int .u8 143, .int .u8 0, .int .u8 0, .int .u8 0, .int .u8 0, .int .u8 0, .int .u8 0, .int .u8 0, .int .u8 0, .int .u8 0, .int .u8 0, .int .u8 0, .int .u8 0, .int .u8 0, .int .u8 0, .int .u8 0, .int .u8 0, .int .u8 0, .int .u8 0, .int .u8 0, .int .u8 0, .int .u8 0, .int .u8 0])).modify 1 (put #[.int .u8 240, .int .u8 240, .int .u8 240, .int .u8 240, .int .u8 240, .int .u8 240, .int .u8 240, .int .u8 240, .int .u8 240, .int .u8 240, .int .u8 240, .int .u8 240, .int .u8 240, .int .u8 240, .int .u8 240, .int .u8 240, .int .u8 240, .int .u8 240, .int .u8 240, .int .u8 240, .int .u8 240, .int .u8 240, .int .u8 240, .int .u8 240, .int .u8 240, .int .u8 240, .int .u8 240, .int .u8 240, .int .u8 240, .int .u8 240, .int .u8 240, .int .u8 240, .int .u8 240, .int .u8 240, .int .u8 240, .int .u8 240, .int .u8 240, .int .u8 240, .int .u8 240, .int .u8 240, .int .u8 240, .int .u8 240, .int .u8 240, .int .u8 240, .int .u8 240, .int .u8 240, .int .u8 240, .int .u8 240, .int .u8 240, .int .u8 240, .int .u8 240, .int .u8 240, .int .u8 240, .int .u8 240, .int .u8 240, .int .u8 240, .int .u8 240, .int .u8 240, .int .u8 240, .int .u8 240, .int .u8 240, .int .u8 240, .int .u8 240, .int .u8 240, .int .u8 240, .int .u8 240, .int .u8 240, .int .u8 240, .int .u8 240, .int .u8 240, .int .u8 240, .int .u8 240, .int .u8 240, .int .u8 240, .int .u8 240, .int .u8 240, .int .u8 240, .int .u8 240, .int .u8 240, .int .u8 240, .int .u8 240, .int .u8 240, .int .u8 240, .int .u8 240, .int .u8 240, .int .u8 240, .int .u8 240, .int .u8 240, .int .u8 240, .int .u8 240, .int .u8 240, .int .u8 240, .int .u8 240, .int .u8 240, .int .u8 240, .int .u8 240, .int .u8 240, .int .u8 240, .int .u8 240, .int .u8 240, .int .u8 240, .int .u8 240, .int .u8 240, .int .u8 240, .int .u8 240, .int .u8 240, .int .u8 240, .int .u8 240, .int .u8 240, .int .u8 240, .int .u8 240, .int .u8 240, .int .u8 240, .int .u8 240, .int .u8 240, .int .u8 240, .int .u8 240, .int .u8 240, .int .u8 240, .int .u8 240, .int .u8 240, .int .u8 240, .int .u8 240, .int .u8 240, .int .u8 240, .int .u8 240, .int .u8 240, .int .u8 240, .int .u8 241, .int .u8 241, .int .u8 241, .int .u8 241, .int .u8 241, .int .u8 241, .int .u8 241, .int .u8 241, .int .u8 241, .int .u8 241, .int .u8 241, .int .u8 241, .int .u8 241, .int .u8 241, .int .u8 241, .int .u8 241, .int .u8 241, .int .u8 241, .int .u8 241, .int .u8 241, .int .u8 241, .int .u8 241, .int .u8 241, .int .u8 241, .int .u8 241, .int .u8 241, .int .u8 241, .int .u8 241, .int .u8 241, .int .u8 241, .int .u8 241, .int .u8 241, .int .u8 241, .int .u8 241, .int .u8 241, .int .u8 241, .int .u8 241, .int .u8 241, .int .u8 241, .int .u8 241, .int .u8 241, .int .u8 241, .int .u8 241, .int .u8 241, .int .u8 241, .int .u8 241, .int .u8 241, .int .u8 241, .int .u8 241, .int .u8 241, .int .u8 241, .int .u8 241, .int .u8 241, .int .u8 241, .int .u8 241, .int .u8 241, .int .u8 241, .int .u8 241, .int .u8 241, .int .u8 241, .int .u8 241, .int .u8 241, .int .u8 241, .int .u8 241, .int .u8 241, .int .u8 241, .int .u8 2, .int .u8 2, .int .u8 2, .int .u8 2, .int .u8 2, .int .u8 2, .int .u8 2, .int .u8 2, .int .u8 2, .int .u8 2, .int .u8 2, .int .u8 2, .int .u8 2, .int .u8 2, .int .u8 2, .int .u8 2, .int .u8 2, .int .u8 2, .int .u8 2, .int .u8 2, .int .u8 2, .int .u8 2, .int .u8 2, .int .u8 2, .int .u8 2, .int .u8 2, .int .u8 2, .int .u8 2, .int .u8 2, .int .u8 2, .int .u8 19, .int .u8 3, .int .u8 3, .int .u8 3, .int .u8 3, .int .u8 3, .int .u8 3, .int .u8 3, .int .u8 3, .int .u8 3, .int .u8 3, .int .u8 3, .int .u8 3, .int .u8 35, .int .u8 3, .int .u8 3, .int .u8 52, .int .u8 4, .int .u8 4, .int .u8 4, .int .u8 68, .int .u8 241, .int .u8 241, .int .u8 241, .int .u8 241, .int .u8 241, .int .u8 241, .int .u8 241, .int .u8 241, .int .u8 241, .int .u8 241, .int .u8 241])) }
end Go.Proofs.YtlajdmjpobckhaaGreatDoor.LaidA
