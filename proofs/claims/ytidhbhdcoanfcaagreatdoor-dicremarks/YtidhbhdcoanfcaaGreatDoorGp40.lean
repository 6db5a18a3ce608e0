import Derived.Test.YtidhbhdcoanfcaaGreatDoorGp38
import Derived.Test.YtidhbhdcoanfcaaGreatDoorGrSpR
set_option maxHeartbeats 8000000
set_option maxRecDepth 100000
namespace Go.Proofs.YtidhbhdcoanfcaaGreatDoor
open Go.RowKit
namespace Mkd
open FldW

theorem marked_any (s : ByteArray) (w : World) (hs : s.size ≤ maxLen) : Calls Tryz.prog 10 #[.string s] w fun e w' => e = .returned (.bool (Lib.hasPrefix s.data.toList Ln.mark)) ∧ w' = w := by
 unfold maxLen at hs
 cases hp : Lib.hasPrefix s.data.toList Ln.mark with
 | true =>
  obtain ⟨h3, h0, h1, h2⟩ := Ln.mark_true s hp
  have g0 : ((s[0].toNat : Int) == 239) = true := Ln.byte_eq _ 239 h0
  have g1 : ((s[1].toNat : Int) == 187) = true := Ln.byte_eq _ 187 h1
  have g2 : ((s[2].toNat : Int) == 191) = true := Ln.byte_eq _ 191 h2
  have h4 : (3 : Int) ≤ (s.size : Int) := by omega
  clear hp h0 h1 h2
  go_enter Tryz.func10, Tryz.ntmps10
  go_wp2
  go_ret
  exact ⟨rfl, rfl⟩
 | false =>
  rcases Ln.mark_false s hp with h3 | ⟨h3, h0 | ⟨h0, h1⟩ | ⟨h0, h1, h2⟩⟩
  ·have h4 : ¬ (3 : Int) ≤ (s.size : Int) := by omega
   clear hp
   go_enter Tryz.func10, Tryz.ntmps10
   go_wp2
   go_ret
   exact ⟨rfl, rfl⟩
  ·have g0 : ((s[0].toNat : Int) == 239) = false := Ln.byte_ne _ 239 h0
   have h4 : (3 : Int) ≤ (s.size : Int) := by omega
   clear hp h0
   go_enter Tryz.func10, Tryz.ntmps10
   go_wp2
   go_ret
   exact ⟨rfl, rfl⟩
  ·have g0 : ((s[0].toNat : Int) == 239) = true := Ln.byte_eq _ 239 h0
   have g1 : ((s[1].toNat : Int) == 187) = false := Ln.byte_ne _ 187 h1
   have h4 : (3 : Int) ≤ (s.size : Int) := by omega
   clear hp h0 h1
   go_enter Tryz.func10, Tryz.ntmps10
   go_wp2
   go_ret
   exact ⟨rfl, rfl⟩
  ·have g0 : ((s[0].toNat : Int) == 239) = true := Ln.byte_eq _ 239 h0
   have g1 : ((s[1].toNat : Int) == 187) = true := Ln.byte_eq _ 187 h1
   have g2 : ((s[2].toNat : Int) == 191) = false := Ln.byte_ne _ 191 h2
   have h4 : (3 : Int) ≤ (s.size : Int) := by omega
   clear hp h0 h1 h2
   go_enter Tryz.func10, Tryz.ntmps10
   go_wp2
   go_ret
   exact ⟨rfl, rfl⟩

end Mkd
namespace Af
open RowB FldW
theorem Mx.up {w W : World} (h : Mx w.heap.size w) (b : Below w.heap.size w W) : Mx W.heap.size W := by
 obtain ⟨h1, h2⟩ := h.low b
 exact ⟨Nat.lt_of_lt_of_le h1 b.size, h2⟩
abbrev dfV (k c : Nat) : Value := .agg #[.int .i64 2, .int .i64 (k : Nat), .int .i64 (c : Nat)]
def DicOk (w1 : World) (fb : Nat) (F : Fil) : Prop := ∀ W, Below w1.heap.size w1 W → ∀ s : ByteArray, Calls Tryz.prog 18 #[.pointer (some ⟨fb, 0, none⟩), .string s] W (DRes W (dicR F s.data.toList))
theorem DicOk.no {w1 W : World} {fb : Nat} {F : Fil} (h : DicOk w1 fb F) (b : Below w1.heap.size w1 W) {s : ByteArray} {k c : Nat} (hx : dicR F s.data.toList = .error (k, c)) : Calls Tryz.prog 18 #[.pointer (some ⟨fb, 0, none⟩), .string s] W fun e w' => e = .returned (.tuple #[.pointer none, dfV k c]) ∧ Below W.heap.size W w' := by
 refine (h W b s).mono ?_
 rintro e w' ⟨q1, q2⟩
 rw [hx] at q2
 exact ⟨q2, q1⟩
theorem DicOk.yes {w1 W : World} {fb : Nat} {F : Fil} (h : DicOk w1 fb F) (b : Below w1.heap.size w1 W) {s : ByteArray} {E : List Ent} (hx : dicR F s.data.toList = .ok E) : Calls Tryz.prog 18 #[.pointer (some ⟨fb, 0, none⟩), .string s] W fun e w' => ∃ wb, e = .returned (.tuple #[.pointer (some ⟨wb, 0, none⟩), .agg #[.int .i64 0, .int .i64 0, .int .i64 0]]) ∧ Below W.heap.size W w' := by
 refine (h W b s).mono ?_
 rintro e w' ⟨q1, q2⟩
 rw [hx] at q2
 obtain ⟨n0, wb, Q, -, q3, -⟩ := q2
 exact ⟨wb, q3, q1⟩
def AffOk (w : World) (a : ByteArray) (F : Fil) : Prop := Calls Tryz.prog 12 #[.string a] w fun e w1 => ∃ fb, e = .returned (.tuple #[.pointer (some ⟨fb, 0, none⟩), .agg #[.int .i64 0, .int .i64 0, .int .i64 0]]) ∧ Below w.heap.size w w1 ∧ DicOk w1 fb F
theorem affOk {w : World} {a : ByteArray} {F : Fil} (hM : Mx w.heap.size w) (h : affR a.data.toList = .ok F) : AffOk w a F := by
 refine (Read_any a w hM).mono ?_
 rintro e w1 ⟨b, q⟩
 rw [h] at q
 obtain ⟨B, P, hB, rfl, hF⟩ := q
 refine ⟨P.fb, rfl, b, fun W bW s => ?_⟩
 have hFB : B ≤ w1.heap.size := Nat.le_of_lt (Nat.lt_of_le_of_lt hF.fbB (lt_some hF.fil))
 have hMB : Mx B W := by
  obtain ⟨m1, m2⟩ := (hM.low b).low (bW.mono b.size)
  exact ⟨Nat.lt_of_lt_of_le m1 hB, m2⟩
 exact dic_of h (hF.below bW) hMB (Nat.le_trans hFB bW.size) s
theorem flt_go {w w3 w4 : World} {a b c : Value} (hB : Below w.heap.size w w3) (h : Below (w3.alloc (.cells #[a, b, c] 31)).heap.size (w3.alloc (.cells #[a, b, c] 31)) w4) : Below w.heap.size w w4 ∧ w4.heap[w3.heap.size]? = some (.cells #[a, b, c] 31 (0, 0)) ∧ Below w3.heap.size w3 w4 := by
 have h1 : Below w3.heap.size w3 (w3.alloc (.cells #[a, b, c] 31)) := (Below.refl _ _).alloc (Nat.le_refl _) _
 have hb := h.block w3.heap.size (by simp)
 rw [alloc_new] at hb
 have h2 := h1.trans (h.mono (by simp))
 exact ⟨btr hB h2, hb, h2⟩
theorem DicOk.yesW {w1 W : World} {fb : Nat} {F : Fil} (h : DicOk w1 fb F) (b : Below w1.heap.size w1 W) {s : ByteArray} {E : List Ent} (hx : dicR F s.data.toList = .ok E) : Calls Tryz.prog 18 #[.pointer (some ⟨fb, 0, none⟩), .string s] W fun e w' => ∃ wb n Q, e = .returned (.tuple #[.pointer (some ⟨wb, 0, none⟩), .agg #[.int .i64 0, .int .i64 0, .int .i64 0]]) ∧ Below W.heap.size W w' ∧ WA n w' wb E E Q := by
 refine (h W b s).mono ?_
 rintro e w' ⟨q1, q2⟩
 rw [hx] at q2
 obtain ⟨n0, wb, Q, -, q3, q4⟩ := q2
 exact ⟨wb, n0, Q, q3, q1, q4⟩
abbrev DRem (a s : ByteArray) (n : Int) (w : World) : Prop := Calls Tryz.prog 6 #[.string a, .string s, .int .i64 n] w fun e w' => e = .returned (.bool true) ∧ Below w.heap.size w w'
def note3 : Bs := [35, 32, 51, 32, 120, 47, 65]
def more3 (L : List Bs) (a : Nat) : List Bs := L.take a ++ [[], note3, [9]] ++ L.drop a
theorem joinL_sum (l : List Bs) : (joinL l).length = (l.map List.length).sum + 2 * l.length := by
 induction l with
 | nil => rfl
 | cons a b ih => simp [joinL, ih]; omega
theorem more3_len (L : List Bs) (a : Nat) : (more3 L a).length = L.length + 3 := by
 unfold more3
 simp
 omega
theorem more3_join (L : List Bs) (a : Nat) : (joinL (more3 L a)).length = (joinL L).length + 14 := by
 have hj : joinL L = joinL (L.take a) ++ joinL (L.drop a) := by rw [← joinL_append, List.take_append_drop]
 unfold more3
 rw [joinL_append, joinL_append, hj]
 simp [joinL, note3]
 omega
theorem drem_long (a s : ByteArray) (n : Int) (w : World) (hM : Mx w.heap.size w) (hs : 65536 < (s.size : Int)) : DRem a s n w := by
 have HA := hide (fun W (b : Below w.heap.size w W) => Read_any a W (hM.up b))
 have HWk := hide (wakes12_any w hM)
 have HS := hide (fun W => LnR.ref_split_long s W hs)
 have h0 : ((10 : Int) != 0) = true := by decide
 clear hM hs
 go_enter Tryz.func6, Tryz.ntmps6
 go_wp2_with fail
 refine (unhide HWk).mono ?_
 rintro e w1 ⟨rfl, b1⟩
 have B1 := hide b1
 clear b1
 go_wp2_with fail
 refine (unhide HS _).mono ?_
 rintro e w2 ⟨rfl, hw⟩
 obtain rfl := hw.symm
 go_wp2_with fail
 refine (unhide HA _ (unhide B1)).mono ?_
 rintro e w3 ⟨b3, q⟩
 obtain ⟨p, f, l, c, rfl⟩ : ∃ p f l c, e = .returned (.tuple #[.pointer p, .agg #[.int .i64 f, .int .i64 l, .int .i64 c]]) := by
  cases hx : affR a.data.toList with
  | error er => rw [hx] at q; exact ⟨_, _, _, _, q⟩
  | ok F => rw [hx] at q; obtain ⟨B, P, -, q, -⟩ := q; exact ⟨_, _, _, _, q⟩
 have B3 := hide (btr (unhide B1) b3)
 clear b3 q
 go_wp2
 go_ret
 exact ⟨rfl, (unhide B3).alloc (unhide B3).size _⟩
theorem drem_nil (a s : ByteArray) (n : Int) (w : World) (hM : Mx w.heap.size w) (hs : s.size ≤ 65536) {er : Er} (hx : affR a.data.toList = .error er) : DRem a s n w := by
 have HA := hide (fun W (b : Below w.heap.size w W) => Read_any a W (hM.up b))
 rw [hx] at HA
 have HWk := hide (wakes12_any w hM)
 have HS := hide (fun W => LnR.ref_split_short s W hs)
 clear hM hs hx
 generalize Ln.linesOf s.data.toList = L at *
 go_enter Tryz.func6, Tryz.ntmps6
 go_wp2_with fail
 refine (unhide HWk).mono ?_
 rintro e w1 ⟨rfl, b1⟩
 have B1 := hide b1
 clear b1
 go_wp2_with fail
 refine (unhide HS _).mono ?_
 rintro e w2 ⟨v, rfl, -, b2⟩
 have B2 := hide (btr (unhide B1) b2)
 clear b2
 go_wp2_with fail
 refine (unhide HA _ (unhide B2)).mono ?_
 rintro e w3 ⟨b3, q⟩
 simp only at q
 subst q
 have B3 := hide (btr (unhide B2) b3)
 clear b3
 go_wp2
 go_ret
 exact ⟨rfl, (unhide B3).alloc (unhide B3).size _⟩
abbrev T3 : Obj := .cells #[.string ⟨#[]⟩, .string ⟨#[35, 32, 51, 32, 120, 47, 65]⟩, .string ⟨#[9]⟩] 9
theorem t3_at (W : World) : StrAt (W.alloc T3) (some ⟨W.heap.size, 0, none⟩) [[], note3, [9]] := fun _ => by
 refine ⟨_, 0, rfl, by simp, fun j x hj => ?_⟩
 have hn := alloc_new W T3
 match j, hj with
 | 0, hj => injection hj with hj; subst hj; show World.cell? _ _ = _; unfold World.cell?; simp only; rw [hn]; rfl
 | 1, hj => injection hj with hj; subst hj; show World.cell? _ _ = _; unfold World.cell?; simp only; rw [hn]; rfl
 | 2, hj => injection hj with hj; subst hj; show World.cell? _ _ = _; unfold World.cell?; simp only; rw [hn]; rfl
 | j + 3, hj => simp at hj
theorem reg8_end {W0 W1 : World} {v3 : Value} {L : List Bs} {k c9 : Nat} {a9 : Option Addr} {g : Nat} (hL : L.length ≤ 70000)
  (h3 : W1.ownsRow W0.heap.size 9 1 v3 (L.take k).length (vals (L.take k))) (b1 : Below W0.heap.size W0 W1) (h : StrAt W1 (some ⟨g, 0, none⟩) [[], note3, [9]]) (hd : StrAt W0 a9 (L.drop k)) (ha : a9.isSome = true ∨ L.drop k = []) (hc : a9 = none → c9 = 0) (ty : TypeId) :
  ∃ v5 W3 v9 W4, (Builtin.append_ #[23, 23] ty #[v3, .slice (some ⟨g, 0, none⟩) 3 3]).run Tryz.prog W1 = .ok v5 W3 ∧ (Builtin.append_ #[23, 23] ty #[v5, .slice a9 (L.drop k).length c9]).run Tryz.prog W3 = .ok v9 W4 ∧ W4.ownsRow W0.heap.size 9 1 v9 (more3 L k).length (vals (more3 L k)) ∧ Below W0.heap.size W0 W4 := by
 have l1 : (L.take k).length ≤ L.length := by simp; omega
 have l2 : (L.drop k).length ≤ L.length := by simp
 obtain ⟨v5, W3, r5, o5, b5⟩ := app_txt h3 b1.size h (.inl rfl) 3 (by simp) (by simp; omega) ty
 have b3 := b1.trans b5
 obtain ⟨v9, W4, r9, o9, b9⟩ := app_txt o5 b3.size (hd.below b3) ha c9 hc (by simp; omega) ty
 exact ⟨v5, W3, v9, W4, r5, r9, o9, b3.trans b9⟩
theorem reg8_a {W0 : World} {L : List Bs} {k c3 c9 : Nat} {a3 a9 : Option Addr} (hL : L.length ≤ 70000) (ht : StrAt W0 a3 (L.take k)) (ha3 : a3.isSome = true ∨ L.take k = []) (hc3 : a3 = none → c3 = 0) (hd : StrAt W0 a9 (L.drop k)) (ha : a9.isSome = true ∨ L.drop k = []) (hc : a9 = none → c9 = 0) (ty : TypeId) :
  ∃ v3 W1 v5 W3 v9 W4, (Builtin.append_ #[23, 23] ty #[.slice none 0 0, .slice a3 (L.take k).length c3]).run Tryz.prog W0 = .ok v3 W1 ∧ (Builtin.append_ #[23, 23] ty #[v3, .slice (some ⟨W1.heap.size, 0, none⟩) 3 3]).run Tryz.prog (W1.alloc T3) = .ok v5 W3 ∧ (Builtin.append_ #[23, 23] ty #[v5, .slice a9 (L.drop k).length c9]).run Tryz.prog W3 = .ok v9 W4 ∧ W4.ownsRow W0.heap.size 9 1 v9 (more3 L k).length (vals (more3 L k)) ∧ Below W0.heap.size W0 W4 := by
 have l1 : (L.take k).length ≤ L.length := by simp; omega
 obtain ⟨v3, W1, r3, o3, b3⟩ := app_txt (L := []) (World.ownsRow_nil W0 W0.heap.size 9 1) (Nat.le_refl _) ht ha3 c3 hc3 (by simp; omega) ty
 rw [List.nil_append] at o3
 obtain ⟨v5, W3, v9, W4, r5, r9, o9, b9⟩ := reg8_end hL (W1 := W1.alloc T3) (o3.alloc _) (b3.alloc b3.size _) (t3_at W1) hd ha hc ty
 exact ⟨v3, W1, v5, W3, v9, W4, r3, r5, r9, o9, b9⟩
theorem reg8_b {W0 : World} {L : List Bs} {k c3 c9 : Nat} {a3 a9 : Option Addr} (hL : L.length ≤ 70000) (ht : StrAt W0 a3 (L.take k)) (ha3 : a3.isSome = true ∨ L.take k = []) (hc3 : a3 = none → c3 = 0) (hd : StrAt W0 a9 (L.drop k)) (ha : a9.isSome = true ∨ L.drop k = []) (hc : a9 = none → c9 = 0) (ty : TypeId) :
  ∃ v3 W1 v5 W3 v9 W4, (Builtin.append_ #[23, 23] ty #[.slice none 0 0, .slice a3 (L.take k).length c3]).run Tryz.prog (W0.alloc T3) = .ok v3 W1 ∧ (Builtin.append_ #[23, 23] ty #[v3, .slice (some ⟨W0.heap.size, 0, none⟩) 3 3]).run Tryz.prog W1 = .ok v5 W3 ∧ (Builtin.append_ #[23, 23] ty #[v5, .slice a9 (L.drop k).length c9]).run Tryz.prog W3 = .ok v9 W4 ∧ W4.ownsRow W0.heap.size 9 1 v9 (more3 L k).length (vals (more3 L k)) ∧ Below W0.heap.size W0 W4 := by
 have l1 : (L.take k).length ≤ L.length := by simp; omega
 have b0 : Below W0.heap.size W0 (W0.alloc T3) := (Below.refl _ _).alloc (Nat.le_refl _) _
 have b0s := b0.size
 obtain ⟨v3, W1, r3, o3, b3⟩ := app_txt (L := []) (World.ownsRow_nil (W0.alloc T3) (W0.alloc T3).heap.size 9 1) (Nat.le_refl _) (ht.below b0) ha3 c3 hc3 (by simp; omega) ty
 rw [List.nil_append] at o3
 obtain ⟨v5, W3, v9, W4, r5, r9, o9, b9⟩ := reg8_end hL (W1 := W1) (own_low o3 b0s) (b0.trans (b3.mono b0s)) ((t3_at W0).below b3) hd ha hc ty
 exact ⟨v3, W1, v5, W3, v9, W4, r3, r5, r9, o9, b9⟩
structure RemD (L : List Bs) (k : Nat) (one two : ByteArray) (m : Bool) (F : Fil) : Prop where
 j1 : ∀ W ao cap, StrAt W ao L → Calls Tryz.prog 23 #[.slice ao L.length cap] W fun e w' => e = .returned (.string one) ∧ w' = W
 j2 : ∀ W ao cap, StrAt W ao (more3 L k) → Calls Tryz.prog 23 #[.slice ao (L.length + 3) cap] W fun e w' => e = .returned (.string two) ∧ w' = W
 mrk : ∀ W, Calls Tryz.prog 10 #[.string one] W fun e w' => e = .returned (.bool m) ∧ w' = W
 rd : m = false → two.size ≤ 65536 → dicR F two.data.toList = mapD (shift3 k) (dicR F one.data.toList)
 bd : m = false → two.size ≤ 65536 → ∀ l c, dicR F one.data.toList = .error (l, c) → l ≤ L.length + 1
 sz : two.size ≤ 1000000
theorem remD {s : ByteArray} (hs : s.size ≤ 65536) {k : Nat} (hk : k ≤ (Ln.linesOf s.data.toList).length) (F : Fil) : ∃ one two m, RemD (Ln.linesOf s.data.toList) k one two m F := by
 have hsl : s.data.toList.length ≤ 65536 := by simp; omega
 have hno := linesOf_no s.data.toList
 have hL := Ln.linesOf_len s.data.toList
 have h2 := lines_sum s.data.toList
 have hz : (joinL (Ln.linesOf s.data.toList)).length ≤ 900000 := by rw [joinL_sum]; omega
 have hll : (Ln.linesOf s.data.toList).length ≤ 70000 := by omega
 clear hL h2 hsl
 generalize Ln.linesOf s.data.toList = L at *
 have hdd : ∀ l : Bs, (Fld.str l).data.toList = l := fun l => by simp [Fld.str]
 have hz2 := more3_join L k
 have hlen := more3_len L k
 have law : Lib.hasPrefix (joinL L) Ln.mark = false → (joinL (more3 L k)).length ≤ 65536 → ¬ 65536 < (joinL L).length ∧ dicR F (joinL (more3 L k)) = mapD (shift3 k) (dicR F (joinL L)) := fun h h4 => by
  have := dremarks_law (F := F) (L := L) (a := k) hk hno (t := [32, 51, 32, 120, 47, 65]) (z := [9]) (by decide) (by decide) (fun _ => by rfl) (by have : (joinL (more3 L k)).length ≤ 65536 := h4; unfold more3 note3 at this; omega) h
  exact this
 refine ⟨Fld.str (joinL L), Fld.str (joinL (more3 L k)), Lib.hasPrefix (joinL L) Ln.mark, ?_, ?_, ?_, ?_, ?_, ?_⟩
 ·intro W ao cap h
  exact joined_any ao cap L.length L W rfl (by omega) (by omega) h
 ·intro W ao cap h
  exact joined_any ao cap (L.length + 3) (more3 L k) W hlen (by omega) (by omega) h
 ·intro W
  have := LnR.marked_any (Fld.str (joinL L)) W (by rw [str_size]; unfold maxLen; omega)
  rwa [hdd] at this
 ·intro h h4
  rw [hdd, hdd]
  rw [str_size] at h4
  exact (law h h4).2
 ·intro h h4 l c hx
  rw [hdd] at hx
  rw [str_size] at h4
  have e1 := (rows_more (L := L) (a := k) hk hno (t := []) (z := [9]) (by decide) (by decide) (fun _ => by rfl) h).1
  rcases dfirst_law (law h h4).1 hx with ⟨q, -⟩ | ⟨-, q, -⟩
  ·rw [e1] at q; omega
  ·rw [e1] at q; omega
 ·rw [str_size]; omega
end Af
end Go.Proofs.YtidhbhdcoanfcaaGreatDoor
