import Derived.Test.YtidhbhdcoanfcaaGreatDoorGq13
set_option maxHeartbeats 8000000
set_option maxRecDepth 100000

namespace Go.Proofs.YtidhbhdcoanfcaaGreatDoor
open Go.Sort Go.RowKit
namespace So

def MaxIs (w : World) : Prop := ∃ m : Int, w.cell? ⟨0, 0, none⟩ = some (.int .i64 m)
theorem split_cells {W : World} {c : Nat} {L : List ByteArray} (h : L.length = c) : ArgS.StrsAt (W.alloc (.cells (L.map Value.string).toArray 9)) (.slice (some ⟨W.heap.size, 0, none⟩) c c) L := by
 subst h
 refine ⟨_, _, rfl, Nat.le_refl _, fun _ => ⟨W.heap.size, 0, rfl, by simp, fun j x hx => ?_⟩⟩
 rw [World.cell?_alloc_at _ _ _ _ rfl]
 simp [hx]
theorem cut3_any (s : ByteArray) (w : World) (hM : MaxIs w) (hs : s.size < 4294967281) :
  Calls Tryz.prog 134 #[.int .i64 3, .string s] w fun e w' => ∃ u, e = .returned u ∧ ArgS.StrsAt w' u (Lib.splitB ⟨#[44]⟩ 0 (Lib.countB s ⟨#[44]⟩) s) ∧ Go.RowKit.Below w.heap.size w w' := by
 obtain ⟨m, hm⟩ := hM
 have HS := hide (Tryz.strings_Split s ⟨#[44]⟩ m w hs hm (by decide))
 have HL := hide (Lib.splitB_all ⟨#[44]⟩ (by decide) 0 _ s rfl)
 clear hm hs
 go_enter Tryz.func134, Tryz.ntmps134
 go_wp2_with (go_at_call 153; refine (unhide HS).mono ?_; rintro e w1 ⟨rfl, hw1⟩; have HW := hide hw1; clear hw1)
 go_ret
 refine ⟨_, rfl, ?_, ?_⟩
 ·rw [unhide HW]
  exact split_cells (unhide HL)
 ·rw [unhide HW]
  exact (Go.RowKit.Below.refl _ w).alloc (Nat.le_refl _) _
open Cut

theorem infoS : (Tryz.prog.info? 9).map (fun i => (i.zero, i.size, i.bytes)) = some (some (.string ByteArray.empty), 1, 16) := by kernel_rfl
def SRow (n₀ : Nat) (W : World) (v : Value) (n : Nat) (P : List ByteArray) : Prop := W.ownsRow n₀ 9 1 v n (P.map Value.string)
theorem SRow.strs {n₀ : Nat} {W : World} {v : Value} {P : List ByteArray} (h : SRow n₀ W v P.length P) : ArgS.StrsAt W v P := by
 obtain ⟨_, ⟨rfl, h0⟩ | ⟨g, cap, cur, e, hg, hh, h1, h2, h3, h4⟩⟩ := h
 ·have : P = [] := List.eq_nil_of_length_eq_zero h0
  subst this
  exact ⟨none, 0, rfl, Nat.le_refl _, fun h => absurd h (by simp)⟩
 ·refine ⟨_, cap, e, h1, fun _ => ⟨g, 0, rfl, (Array.getElem?_eq_some_iff.1 hh).1, fun k x hx => ?_⟩⟩
  have hk : k < P.length := (List.getElem?_eq_some_iff.1 hx).1
  rw [Nat.mul_one] at h4
  have hv : (cur.toList.take P.length)[k]? = some (.string x) := by rw [h4]; simp [hx]
  rw [List.getElem?_take, if_pos hk] at hv
  simp only [World.cell?, hh, Nat.zero_add]
  simpa using hv
theorem srow_snoc {n₀ : Nat} {W : World} {v : Value} {P : List ByteArray} {p : ByteArray} (h : W.ownsRow n₀ 9 1 v (P.length + 1) (P.map Value.string ++ [.string p])) : SRow n₀ W v (P ++ [p]).length (P ++ [p]) := by
 unfold SRow
 simpa using h
theorem pieces_end {P : List ByteArray} {D : List (List UInt8)} {n₀ : Nat} {W : World} {v : Value} (h : SRow n₀ W v P.length P) (e : P.map dl = D) : ArgS.StrsAt W v (D.map mk) := by rw [← undl e]; exact h.strs

theorem cut1_any (s : ByteArray) (w : World) (hs : s.size ≤ 1048576) :
  Calls Tryz.prog 134 #[.int .i64 1, .string s] w fun e w' => ∃ u, e = .returned u ∧ ArgS.StrsAt w' u ((cuts 1 (dl s)).map mk) ∧ Go.RowKit.Below w.heap.size w w' := by
 obtain ⟨i0, hi, hz0, hz1, hz2⟩ := info_parts infoS
 have HSN : Hid (∀ W u (P : List ByteArray) p, W.ownsRow w.heap.size 9 1 u (P.length + 1) (P.map Value.string ++ [.string p]) → SRow w.heap.size W u (P ++ [p]).length (P ++ [p])) := fun W u P p h => srow_snoc h
 have HEND : Hid (∀ W u (P : List ByteArray), SRow w.heap.size W u P.length P → P.map dl = cuts 1 (dl s) → ArgS.StrsAt W u ((cuts 1 (dl s)).map mk)) := fun W u P h e => pieces_end h e
 have HLONG : Hid (∀ (P : List ByteArray) (r : ByteArray), 1 < r.size → P.map dl ++ cuts 1 (dl r) = cuts 1 (dl s) → (P ++ [r.extract 0 1]).map dl ++ cuts 1 (dl (r.extract 1 r.size)) = cuts 1 (dl s)) := fun P r h1 h2 => by
  have e := cuts_long (w := 1) (l := dl r) (by omega) (by rw [dl_len]; exact h1)
  rw [e] at h2
  rw [← h2, List.map_append, List.map_cons, dl_extract, dl_extract, List.map_nil]
  rw [List.take_of_length_le (l := List.drop 1 (dl r)) (by simp [dl_len])]
  simp
 have HSHORT : Hid (∀ (P : List ByteArray) (r : ByteArray), ¬ 1 < r.size → P.map dl ++ cuts 1 (dl r) = cuts 1 (dl s) → (P ++ [r]).map dl = cuts 1 (dl s)) := fun P r h1 h2 => by
  rw [← h2, cuts_short (by rw [dl_len]; omega)]
  simp
 have HSZ : Hid (∀ r : ByteArray, (r.extract 1 r.size).size = r.size - 1) := fun r => by rw [ByteArray.size_extract]; omega
 go_enter Tryz.func134, Tryz.ntmps134
 go_wp2
 go_loopg [1, 6] s.size (fun kk s1 s6 wr => ∃ (r : ByteArray) (P : List ByteArray), s1 = .string r ∧ r.size ≤ kk ∧ P.length + r.size ≤ 1048576 ∧ Hid (SRow w.heap.size wr s6 P.length P) ∧ Hid (P.map dl ++ cuts 1 (dl r) = cuts 1 (dl s)) ∧ Hid (Go.RowKit.Below w.heap.size w wr))
 case atStart => exact ⟨s, [], rfl, Nat.le_refl _, by simpa using hs, World.ownsRow_nil _ _ _ _, by rw [Hid]; simp, Go.RowKit.Below.refl _ _⟩
 case round =>
  obtain ⟨r, P, rfl, hk, hP, HR, HE, HB⟩ := hrel
  by_cases hlt : 1 < r.size
  ·have hltz : (1 : Int) < (r.size : Int) := by omega
   have HE2 := hide (unhide HLONG P r hlt (unhide HE))
   have hsz := unhide HSZ r
   have hwr : 1 ≤ r.size := by omega
   go_wp2_with ((at_builtin; refine wpList_append_own _ rfl _ _ 23 rfl w.heap.size 9 i0 (.string ByteArray.empty) 1 16 Tryz.underlying23 hi hz0 hz1 hz2 rfl (by decide) _ _ _ rfl ((unhide HR).alloc _) ⟨wr.heap.size, 0, none⟩ 1 1 [.string (r.extract 0 1)] rfl rfl (cell_one_new _ _ _) (fun x hx => by simp at hx; subst hx; rfl) (by unfold maxLen; omega) (by omega) (by have := (unhide HB).size; simp; omega) ?_; intro v' w1 hown' hgrow _; have HO1 := hide (unhide HSN _ _ _ _ hown'); have HB1 := hide (irow_push (unhide HR) (unhide HB) hgrow); clear hown' hgrow))
   go_roundg (r.size - 1)
   case rel => exact ⟨r.extract 1 r.size, P ++ [r.extract 0 1], rfl, by omega, by simp; omega, HO1, HE2, HB1⟩
   case measure => omega
  ·have hltz : ¬ (1 : Int) < (r.size : Int) := by omega
   have HE2 := hide (unhide HSHORT P r hlt (unhide HE))
   go_wp2_with ((at_builtin; refine wpList_append_own _ rfl _ _ 23 rfl w.heap.size 9 i0 (.string ByteArray.empty) 1 16 Tryz.underlying23 hi hz0 hz1 hz2 rfl (by decide) _ _ _ rfl ((unhide HR).alloc _) ⟨wr.heap.size, 0, none⟩ 1 1 [.string (r)] rfl rfl (cell_one_new _ _ _) (fun x hx => by simp at hx; subst hx; rfl) (by unfold maxLen; omega) (by omega) (by have := (unhide HB).size; simp; omega) ?_; intro v' w1 hown' hgrow _; have HO1 := hide (unhide HSN _ _ _ _ hown'); have HB1 := hide (irow_push (unhide HR) (unhide HB) hgrow); clear hown' hgrow))
   go_ret
   exact ⟨_, rfl, unhide HEND _ _ _ (unhide HO1) (unhide HE2), unhide HB1⟩

theorem cut2_any (s : ByteArray) (w : World) (hs : s.size ≤ 1048576) :
  Calls Tryz.prog 134 #[.int .i64 2, .string s] w fun e w' => ∃ u, e = .returned u ∧ ArgS.StrsAt w' u ((cuts 2 (dl s)).map mk) ∧ Go.RowKit.Below w.heap.size w w' := by
 obtain ⟨i0, hi, hz0, hz1, hz2⟩ := info_parts infoS
 have HSN : Hid (∀ W u (P : List ByteArray) p, W.ownsRow w.heap.size 9 1 u (P.length + 1) (P.map Value.string ++ [.string p]) → SRow w.heap.size W u (P ++ [p]).length (P ++ [p])) := fun W u P p h => srow_snoc h
 have HEND : Hid (∀ W u (P : List ByteArray), SRow w.heap.size W u P.length P → P.map dl = cuts 2 (dl s) → ArgS.StrsAt W u ((cuts 2 (dl s)).map mk)) := fun W u P h e => pieces_end h e
 have HLONG : Hid (∀ (P : List ByteArray) (r : ByteArray), 2 < r.size → P.map dl ++ cuts 2 (dl r) = cuts 2 (dl s) → (P ++ [r.extract 0 2]).map dl ++ cuts 2 (dl (r.extract 2 r.size)) = cuts 2 (dl s)) := fun P r h1 h2 => by
  have e := cuts_long (w := 2) (l := dl r) (by omega) (by rw [dl_len]; exact h1)
  rw [e] at h2
  rw [← h2, List.map_append, List.map_cons, dl_extract, dl_extract, List.map_nil]
  rw [List.take_of_length_le (l := List.drop 2 (dl r)) (by simp [dl_len])]
  simp
 have HSHORT : Hid (∀ (P : List ByteArray) (r : ByteArray), ¬ 2 < r.size → P.map dl ++ cuts 2 (dl r) = cuts 2 (dl s) → (P ++ [r]).map dl = cuts 2 (dl s)) := fun P r h1 h2 => by
  rw [← h2, cuts_short (by rw [dl_len]; omega)]
  simp
 have HSZ : Hid (∀ r : ByteArray, (r.extract 2 r.size).size = r.size - 2) := fun r => by rw [ByteArray.size_extract]; omega
 go_enter Tryz.func134, Tryz.ntmps134
 go_wp2
 go_loopg [1, 6] s.size (fun kk s1 s6 wr => ∃ (r : ByteArray) (P : List ByteArray), s1 = .string r ∧ r.size ≤ kk ∧ P.length + r.size ≤ 1048576 ∧ Hid (SRow w.heap.size wr s6 P.length P) ∧ Hid (P.map dl ++ cuts 2 (dl r) = cuts 2 (dl s)) ∧ Hid (Go.RowKit.Below w.heap.size w wr))
 case atStart => exact ⟨s, [], rfl, Nat.le_refl _, by simpa using hs, World.ownsRow_nil _ _ _ _, by rw [Hid]; simp, Go.RowKit.Below.refl _ _⟩
 case round =>
  obtain ⟨r, P, rfl, hk, hP, HR, HE, HB⟩ := hrel
  by_cases hlt : 2 < r.size
  ·have hltz : (2 : Int) < (r.size : Int) := by omega
   have HE2 := hide (unhide HLONG P r hlt (unhide HE))
   have hsz := unhide HSZ r
   have hwr : 2 ≤ r.size := by omega
   go_wp2_with ((at_builtin; refine wpList_append_own _ rfl _ _ 23 rfl w.heap.size 9 i0 (.string ByteArray.empty) 1 16 Tryz.underlying23 hi hz0 hz1 hz2 rfl (by decide) _ _ _ rfl ((unhide HR).alloc _) ⟨wr.heap.size, 0, none⟩ 1 1 [.string (r.extract 0 2)] rfl rfl (cell_one_new _ _ _) (fun x hx => by simp at hx; subst hx; rfl) (by unfold maxLen; omega) (by omega) (by have := (unhide HB).size; simp; omega) ?_; intro v' w1 hown' hgrow _; have HO1 := hide (unhide HSN _ _ _ _ hown'); have HB1 := hide (irow_push (unhide HR) (unhide HB) hgrow); clear hown' hgrow))
   go_roundg (r.size - 2)
   case rel => exact ⟨r.extract 2 r.size, P ++ [r.extract 0 2], rfl, by omega, by simp; omega, HO1, HE2, HB1⟩
   case measure => omega
  ·have hltz : ¬ (2 : Int) < (r.size : Int) := by omega
   have HE2 := hide (unhide HSHORT P r hlt (unhide HE))
   go_wp2_with ((at_builtin; refine wpList_append_own _ rfl _ _ 23 rfl w.heap.size 9 i0 (.string ByteArray.empty) 1 16 Tryz.underlying23 hi hz0 hz1 hz2 rfl (by decide) _ _ _ rfl ((unhide HR).alloc _) ⟨wr.heap.size, 0, none⟩ 1 1 [.string (r)] rfl rfl (cell_one_new _ _ _) (fun x hx => by simp at hx; subst hx; rfl) (by unfold maxLen; omega) (by omega) (by have := (unhide HB).size; simp; omega) ?_; intro v' w1 hown' hgrow _; have HO1 := hide (unhide HSN _ _ _ _ hown'); have HB1 := hide (irow_push (unhide HR) (unhide HB) hgrow); clear hown' hgrow))
   go_ret
   exact ⟨_, rfl, unhide HEND _ _ _ (unhide HO1) (unhide HE2), unhide HB1⟩

theorem byte_eq {c : UInt8} (h : c = 44) : ((c.toNat : Int) == 44) = true := by subst h; rfl
theorem byte_ne {c : UInt8} (h : c ≠ 44) : ((c.toNat : Int) == 44) = false := by
 rw [beq_eq_false_iff_ne]
 intro e
 exact h (UInt8.toNat_inj.1 (by show c.toNat = 44; omega))
theorem cut3_C (s : ByteArray) (w : World) (hM : MaxIs w) (hs : s.size ≤ 1048576) :
  Calls Tryz.prog 134 #[.int .i64 3, .string s] w fun e w' => ∃ u, e = .returned u ∧ ArgS.StrsAt w' u ((splitC (dl s)).map mk) ∧ Go.RowKit.Below w.heap.size w w' := by
 have h := cut3_any s w hM (by omega)
 rw [undl (splitB_C s)] at h
 exact h
def pieces (kind : Int) (l : List UInt8) : List (List UInt8) := if kind = 1 then cuts 1 l else if kind = 2 then cuts 2 l else splitC l
theorem cut_any (kind : Int) (s : ByteArray) (w : World) (hk : One.isK kind = true) (hM : MaxIs w) (hs : s.size ≤ 1048576) :
  Calls Tryz.prog 134 #[.int .i64 kind, .string s] w fun e w' => ∃ u, e = .returned u ∧ ArgS.StrsAt w' u ((pieces kind (dl s)).map mk) ∧ Go.RowKit.Below w.heap.size w w' := by
 have h3 : kind = 1 ∨ kind = 2 ∨ kind = 3 := by unfold One.isK at hk; simp at hk; omega
 rcases h3 with rfl | rfl | rfl
 ·exact cut1_any s w hs
 ·exact cut2_any s w hs
 ·exact cut3_C s w hM hs
theorem pieces_mem (kind : Int) (l : List UInt8) : ∀ p ∈ pieces kind l, p.length ≤ l.length := by
 unfold pieces
 split
 ·exact cutL_mem _ _
 ·split
  ·exact cutL_mem _ _
  ·exact splitC_mem _
theorem pieces_count (kind : Int) (l : List UInt8) : (pieces kind l).length ≤ l.length + 1 := by
 unfold pieces
 split
 ·exact cutL_count (by omega) _ _
 ·split
  ·exact cutL_count (by omega) _ _
  ·exact splitC_count _
end So
end Go.Proofs.YtidhbhdcoanfcaaGreatDoor
