import Derived.Shelf.SlicesE.Index
import Derived.Test.YtidhbhdcoanfcaaGreatDoorGq12
import Derived.Laws.AppendOwnNone
set_option maxHeartbeats 8000000
set_option maxRecDepth 100000
namespace Go.Proofs
open Go.Shelf
end Go.Proofs
namespace Go.Proofs.YtidhbhdcoanfcaaGreatDoor
open Go.Sort Go.RowKit
namespace So

theorem FArg.cases {W : World} {v : Value} {l : List Int} (h : FArg W v l) : (v = .slice none 0 0 ∧ l = []) ∨ ∃ ad c, v = .slice (some ad) l.length c ∧ l.length ≤ c ∧ c ≤ maxLen ∧ ∀ W', Go.RowKit.Below W.heap.size W W' → ∀ j u, (l.map encF)[j]? = some u → W'.cell? (ad.add j) = some u := by
 obtain ⟨ao, cap, rfl, h1, h2, h3, h4⟩ := h
 cases ao with
 | none =>
  have hc := h3 rfl
  have : l = [] := List.eq_nil_of_length_eq_zero (by omega)
  subst this
  left
  exact ⟨by simp [hc], rfl⟩
 | some ad =>
  right
  refine ⟨ad, cap, rfl, h1, h2, fun W' hB j u hu => ?_⟩
  simp only [List.getElem?_map, Option.map_eq_some_iff] at hu
  obtain ⟨x, hx, rfl⟩ := hu
  have hj : j < l.length := (List.getElem?_eq_some_iff.1 hx).1
  obtain ⟨g, off, e, hg, hc⟩ := h4 (by omega)
  cases e
  rw [Go.WideShapes.add_plain]
  exact (hB.cell (p := ⟨g, off + j, none⟩) hg).trans (hc j x hx)

def hasB (l : List Int) (x : Int) : Bool := l.any fun y => decide (x = y)

def encI (x : Int) : Value := .int .i64 x
def IRow (n₀ : Nat) (W : World) (v : Value) (l : List Int) : Prop := W.ownsRow n₀ 3 1 v l.length (l.map encI)
theorem infoI : (Tryz.prog.info? 3).map (fun i => (i.zero, i.size, i.bytes)) = some (some (.int .i64 0), 1, 8) := by kernel_rfl
theorem IRow.nil (n₀ : Nat) (W : World) : IRow n₀ W (.slice none 0 0) [] := ⟨rfl, .inl ⟨rfl, rfl⟩⟩
theorem IRow.low {n₀ n₁ : Nat} {W : World} {v : Value} {l : List Int} (h : IRow n₀ W v l) (k : n₁ ≤ n₀) : IRow n₁ W v l := by
 obtain ⟨h1, h2 | ⟨g, cap, cur, e, hg, r⟩⟩ := h
 ·exact ⟨h1, .inl h2⟩
 ·exact ⟨h1, .inr ⟨g, cap, cur, e, Nat.le_trans k hg, r⟩⟩
theorem IRow.below {n₀ : Nat} {W W' : World} {v : Value} {l : List Int} (h : IRow n₀ W v l) (hB : Go.RowKit.Below W.heap.size W W') : IRow n₀ W' v l := by
 obtain ⟨h1, h2 | ⟨g, cap, cur, e, hg, hh, r⟩⟩ := h
 ·exact ⟨h1, .inl h2⟩
 ·exact ⟨h1, .inr ⟨g, cap, cur, e, hg, by rw [hB.block g (Array.getElem?_eq_some_iff.1 hh).1]; exact hh, r⟩⟩
theorem IRow.form {n₀ : Nat} {W : World} {v : Value} {l : List Int} (h : IRow n₀ W v l) : ∃ ao cap, v = .slice ao l.length cap ∧ l.length ≤ maxLen ∧ ∀ (k : Nat) x, l[k]? = some x → ∃ g, ao = some ⟨g, 0, none⟩ ∧ g < W.heap.size ∧ W.cell? ⟨g, k, none⟩ = some (.int .i64 x) := by
 obtain ⟨_, ⟨rfl, h0⟩ | ⟨g, cap, cur, e, hg, hh, h1, h2, h3, h4⟩⟩ := h
 ·have : l = [] := List.eq_nil_of_length_eq_zero h0
  subst this
  exact ⟨none, 0, rfl, Nat.zero_le _, fun k x hx => by simp at hx⟩
 ·refine ⟨_, cap, e, by omega, fun k x hx => ⟨g, rfl, (Array.getElem?_eq_some_iff.1 hh).1, ?_⟩⟩
  have hk : k < l.length := (List.getElem?_eq_some_iff.1 hx).1
  rw [Nat.mul_one] at h4
  have hv : (cur.toList.take l.length)[k]? = some (encI x) := by rw [h4]; simp [hx]
  rw [List.getElem?_take, if_pos hk] at hv
  simp only [World.cell?, hh]
  simpa [encI] using hv
theorem irow_push {w wr w1 : World} {e : TypeId} {v : Value} {n : Nat} {xs : List Value} {o : Obj} (hown : wr.ownsRow w.heap.size e 1 v n xs) (hB : Go.RowKit.Below w.heap.size w wr) (hg : (wr.alloc o).grownBy w1 v.ownBlock) : Go.RowKit.Below w.heap.size w w1 :=
 (hB.alloc hB.size o).grown hg (by have := hB.size; simp; omega) (fun k e => (hown.lt k e).1)
theorem take_snoc {L : List Int} {k : Nat} {x : Int} (hx : L[k]? = some x) : L.take (k + 1) = L.take k ++ [x] := by
 have hk : k < L.length := (List.getElem?_eq_some_iff.1 hx).1
 rw [List.take_succ_eq_append_getElem hk, (List.getElem?_eq_some_iff.1 hx).2]




def kept (F : List Int) (S : List Int) : List Int := S.filter fun x => !hasB F x
theorem kept_snoc {F S : List Int} {k : Nat} {x : Int} (hx : S[k]? = some x) : kept F (S.take (k + 1)) = kept F (S.take k) ++ (if hasB F x then [] else [x]) := by
 have hk : k < S.length := (List.getElem?_eq_some_iff.1 hx).1
 rw [List.take_succ_eq_append_getElem hk, (List.getElem?_eq_some_iff.1 hx).2]
 unfold kept
 rw [List.filter_append]
 cases h : hasB F x
 ·simp [h]
 ·simp [h]
structure Del (F S : List Int) (i j : Nat) (dk : Array Int) : Prop where
 size : dk.size = S.length
 len : (kept F (S.take j)).length = i
 front : dk.toList.take i = kept F (S.take j)
 rest : ∀ t, j ≤ t → dk[t]! = S[t]!
 ij : i < j
theorem Del.skip {F S : List Int} {i j : Nat} {dk : Array Int} (h : Del F S i j dk) {x : Int} (hx : S[j]? = some x) (hb : hasB F x = true) : Del F S i (j + 1) dk := by
 have e := kept_snoc (F := F) hx
 rw [hb] at e
 simp at e
 exact ⟨h.size, by rw [e]; exact h.len, by rw [e]; exact h.front, fun t ht => h.rest t (by omega), by have := h.ij; omega⟩
theorem Del.keep {F S : List Int} {i j : Nat} {dk : Array Int} (h : Del F S i j dk) {x : Int} (hx : S[j]? = some x) (hb : hasB F x = false) : Del F S (i + 1) (j + 1) (dk.setIfInBounds i x) := by
 have e := kept_snoc (F := F) hx
 rw [hb] at e
 simp at e
 have hj : j < S.length := (List.getElem?_eq_some_iff.1 hx).1
 have hij := h.ij
 have hs := h.size
 refine ⟨by simpa using hs, by rw [e]; simp [h.len], ?_, fun t ht => ?_, by omega⟩
 ·rw [e, ← h.front]
  have hi : i < dk.size := by omega
  rw [List.take_succ_eq_append_getElem (by simpa using hi)]
  congr 1
  ·simp [List.take_set_of_le]
  ·simp
 ·rw [getElem!_set_other dk i t x (by omega)]
  exact h.rest t (by omega)

end So
end Go.Proofs.YtidhbhdcoanfcaaGreatDoor
namespace Go.Proofs.YtidhbhdcoanfcaaGreatDoor
open Go.RowKit
namespace DecW
theorem hide {p : Prop} (h : p) : Hid p := h
theorem unhide {p : Prop} (h : Hid p) : p := h
theorem info_parts {P : Program} {e : TypeId} {z : Value} {s b : Nat} (h : (P.info? e).map (fun i => (i.zero, i.size, i.bytes)) = some (some z, s, b)) : ∃ i, P.info? e = some i ∧ i.zero = some z ∧ i.size = s ∧ i.bytes = b := So.info_parts h
theorem below_push {w wr w1 : World} {e : TypeId} {v : Value} {n : Nat} {xs : List Value} {o : Obj} (hown : wr.ownsRow w.heap.size e 1 v n xs) (hB : Below w.heap.size w wr) (hg : (wr.alloc o).grownBy w1 v.ownBlock) : Below w.heap.size w w1 := So.irow_push hown hB hg

def bytes (l : List UInt8) : List Value := l.map fun b => Value.int .u8 (b.toNat : Int)
theorem bytes_snoc (l : List UInt8) (c : UInt8) : bytes (l ++ [c]) = bytes l ++ [.int .u8 (c.toNat : Int)] := by simp [bytes]
theorem info5 : (Tryz.prog.info? 5).map (fun i => (i.zero, i.size, i.bytes)) = some (some (.int .u8 0), 1, 1) := by kernel_rfl

theorem add_zero_off (g j : Nat) : (⟨g, 0, none⟩ : Addr).add j = ⟨g, j, none⟩ := by
 unfold Addr.add
 split
 ·rename_i h; subst h; rfl
 ·simp
theorem owns_cells {w : World} {B : Nat} {v : Value} {L : List UInt8} (h : w.ownsRow B 5 1 v L.length (bytes L)) (h0 : 0 < L.length) :
  ∃ g cap, v = .slice (some ⟨g, 0, none⟩) L.length cap ∧ g < w.heap.size ∧ ∀ j x, L[j]? = some x → w.cell? ⟨g, j, none⟩ = some (.int .u8 (x.toNat : Int)) := by
 have hc := h
 obtain ⟨hl, ⟨rfl, h1⟩ | ⟨g, cap, cur, rfl, hg, hh, hc1, hm, hsz, htk⟩⟩ := h
 ·omega
 ·refine ⟨g, cap, rfl, (Array.getElem?_eq_some_iff.1 hh).1, fun j x hj => ?_⟩
  have := hc.cells (g := g) rfl j (.int .u8 (x.toNat : Int)) (by simp [bytes, hj])
  rwa [add_zero_off] at this
theorem conv_owns {w : World} {B : Nat} {v : Value} {L : List UInt8} (h : w.ownsRow B 5 1 v L.length (bytes L)) :
  (convert 104 9 v).run Tryz.prog w = .ok (.string ⟨L.toArray⟩) w := by
 by_cases h0 : 0 < L.length
 ·obtain ⟨g, cap, rfl, _, hcell⟩ := owns_cells h h0
  exact run_convert_bytes_back w 104 9 5 ⟨g, 0, none⟩ cap L Tryz.underlying104 Tryz.underlying5 Tryz.underlying9 (fun j hj => by rw [add_zero_off]; exact hcell j _ (List.getElem?_eq_getElem hj))
 ·have : L = [] := List.eq_nil_of_length_eq_zero (by omega)
  subst this
  obtain ⟨hl, ⟨rfl, h1⟩ | ⟨g, cap, cur, rfl, hg, hh, hc1, hm, hsz, htk⟩⟩ := h
  ·exact run_convert_bytes_nil w 104 5 Tryz.underlying104 Tryz.underlying5 0 0 9 Tryz.underlying9
  ·exact run_convert_bytes_back w 104 9 5 ⟨g, 0, none⟩ cap [] Tryz.underlying104 Tryz.underlying5 Tryz.underlying9 (fun j hj => absurd hj (by simp))

theorem dec_zero (w : World) : Calls Tryz.prog 19 #[.int .i64 0] w fun e w' => e = .returned (.string ⟨#[48]⟩) ∧ w' = w := by
 go_enter Tryz.func19, Tryz.ntmps19
 go_wp2
 go_ret
 exact ⟨rfl, rfl⟩
theorem dec_pos (u : Nat) (hu : 0 < u) (hm : (u : Int) ≤ 9223372036854775807) (w : World) : Calls Tryz.prog 19 #[.int .i64 (u : Int)] w fun e w' => e = .returned (.string ⟨(Lib.decDigits u).toArray⟩) ∧ Below w.heap.size w w' := by
 obtain ⟨i0, hi, hz0, hz1, hz2⟩ := info_parts info5
 have hu0 : ((u : Int) == 0) = false := by rw [beq_eq_false_iff_ne]; omega
 go_enter Tryz.func19, Tryz.ntmps19
 go_wp2
 go_loopw [3, 4] (fun v m wr => ∃ (r : Nat) (D : List UInt8), r ≤ u ∧ m = .int .i64 ((r : Int)) ∧ wr.ownsRow w.heap.size 5 1 v D.length (bytes D) ∧ Below w.heap.size w wr ∧ Hid (D ++ Dec.low r = Dec.low u)) (fun _ m _ => (intOf m).natAbs)
 case atStart => exact ⟨u, [], Nat.le_refl _, rfl, World.ownsRow_made w #[] 0 (Nat.le_refl _) (by simp) rfl, (Below.refl _ _).alloc (Nat.le_refl _) _, rfl⟩
 case round =>
  obtain ⟨r, D, hr, rfl, hown, hB, HD⟩ := hrel
  have hlen := Dec.len_of HD.out (by omega)
  by_cases hr0 : 0 < r
  ·have hrb : (((r : Int)) != 0) = true := by rw [bne_iff_ne]; omega
   have HST := hide (Dec.step HD.out hr0)
   have HBY := hide (Dec.byte_of (r % 10) (by omega))
   have hm10 : (0 : Int) ≤ (r : Int) % 10 := by omega
   have hm11 : (r : Int) % 10 ≤ 9 := by omega
   go_wp2_with (at_builtin; refine wpList_append_own _ rfl _ _ 104 rfl w.heap.size 5 i0 (.int .u8 0) 1 1 Tryz.underlying104 hi hz0 hz1 hz2 rfl (by decide) _ _ _ rfl (hown.alloc _) ⟨wr.heap.size, 0, none⟩ 1 1 [.int .u8 (48 + (r : Int) % 10)] rfl rfl (cell_one_new _ _ _) (fun x hx => by simp at hx; subst hx; rfl) (by unfold maxLen; omega) (by omega) (by have := hB.size; simp; omega) ?_; intro v' w1 hown' hgrow hnil; clear hnil)
   have HB1 := hide (below_push hown hB hgrow)
   have HO1 : Hid (w1.ownsRow w.heap.size 5 1 v' (D ++ [UInt8.ofNat (48 + r % 10)]).length (bytes (D ++ [UInt8.ofNat (48 + r % 10)]))) := by
    show w1.ownsRow w.heap.size 5 1 v' (D ++ [UInt8.ofNat (48 + r % 10)]).length (bytes (D ++ [UInt8.ofNat (48 + r % 10)]))
    rw [bytes_snoc, unhide HBY, List.length_append]
    exact hown'
   clear hown hB hgrow hown' HBY
   go_wp2
   go_roundw
   case rel => exact ⟨r / 10, D ++ [UInt8.ofNat (48 + r % 10)], by omega, by go_num, unhide HO1, unhide HB1, unhide HST⟩
   case measure => simp [intOf]; omega
  ·have hr1 : r = 0 := by omega
   subst hr1
   rw [show ((0 : Nat) : Int) = 0 from rfl]
   obtain ⟨w2, rfl⟩ : ∃ w2, w2 = wr := ⟨wr, rfl⟩
   have hD : D = Dec.low u := by have := HD.out; rwa [Dec.low_zero, List.append_nil] at this
   clear HD
   subst hD
   have hL0 : 0 < (Dec.low u).length := by rw [Dec.low_pos hu]; simp
   have HRV := hide (Dec.low_rev hu)
   generalize hL : Dec.low u = L at *
   clear hL
   obtain ⟨g, cap, rfl, hg, hcell⟩ := owns_cells hown hL0
   have HC := hide hcell
   have hB0 := hB.size
   clear hcell hown
   generalize hz : L.length = z at *
   have HZ := hide hz
   clear hz
   go_wp2
   go_loopw [6, 7] (fun v i wr => ∃ k : Nat, k ≤ z ∧ i = .int .i64 ((k : Int) - 1) ∧ wr.ownsRow w2.heap.size 5 1 v ([] ++ (L.drop k).reverse).length (bytes ([] ++ (L.drop k).reverse)) ∧ Below w2.heap.size w2 wr) (fun _ i _ => (intOf i + 1).toNat)
   case atStart => exact ⟨z, Nat.le_refl _, rfl, by rw [show L.drop z = [] from by rw [← unhide HZ]; exact List.drop_length]; exact World.ownsRow_made w2 #[] 0 (Nat.le_refl _) (by simp) rfl, (Below.refl _ _).alloc (Nat.le_refl _) _⟩
   case round =>
    obtain ⟨k, hk, rfl, hownq, hBq⟩ := hrel
    by_cases hk0 : 0 < k
    ·obtain ⟨j, rfl⟩ : ∃ j, k = j + 1 := ⟨k - 1, by omega⟩
     have hjl : j < L.length := by rw [unhide HZ]; omega
     have hcj : wr.cell? ⟨g, j, none⟩ = some (.int .u8 (L[j].toNat : Int)) := (hBq.cell (p := ⟨g, j, none⟩) hg).trans (unhide HC j _ (List.getElem?_eq_getElem hjl))
     have HDR := hide (Dec.drop_rev L j hjl)
     generalize L[j] = x at *
     have hlenq : ([] ++ (L.drop (j + 1)).reverse).length ≤ 20 := by simp; have := unhide HZ; omega
     have e1 : ((j + 1 : Nat) : Int) - 1 = (j : Int) := by omega
     rw [e1]
     have hjz : (j : Int) < (z : Int) := by omega
     clear e1 hjl
     go_wp2_with (at_builtin; refine wpList_append_own _ rfl _ _ 104 rfl w2.heap.size 5 i0 (.int .u8 0) 1 1 Tryz.underlying104 hi hz0 hz1 hz2 rfl (by decide) _ _ _ rfl (hownq.alloc _) ⟨wr.heap.size, 0, none⟩ 1 1 [.int .u8 (x.toNat : Int)] rfl rfl (cell_one_new _ _ _) (fun x hx => by simp at hx; subst hx; rfl) (by unfold maxLen; omega) (by omega) (by have := hBq.size; simp; omega) ?_; intro v' w1 hown' hgrow hnil; clear hnil)
     have HB1 := hide (below_push hownq hBq hgrow)
     have HO1 : Hid (w1.ownsRow w2.heap.size 5 1 v' ([] ++ (L.drop j).reverse).length (bytes ([] ++ (L.drop j).reverse))) := by
      show w1.ownsRow w2.heap.size 5 1 v' ([] ++ (L.drop j).reverse).length (bytes ([] ++ (L.drop j).reverse))
      rw [unhide HDR, ← List.append_assoc, bytes_snoc, List.length_append]
      exact hown'
     clear hownq hBq hgrow hown' hcj hlenq HDR
     go_wp2
     go_roundw
     case rel => exact ⟨j, by omega, by go_num, unhide HO1, unhide HB1⟩
     case measure => simp [intOf]
    ·have hk1 : k = 0 := by omega
     subst hk1
     rw [List.drop_zero, unhide HRV] at hownq
     have hcv := conv_owns hownq
     clear hownq
     go_wp2
     go_ret
     exact ⟨rfl, hB.trans (hBq.mono hB0)⟩
end DecW
end Go.Proofs.YtidhbhdcoanfcaaGreatDoor
