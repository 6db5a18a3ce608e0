/- Contract: layer 3's waking call answers true; nothing that was turns. -/
import Derived.Test.YtkefjaifaonlbaaGreatDoorGz07
import Derived.Test.YtkefjaifaonlbaaGreatDoorGz02
import Derived.Test.YtkefjaifaonlbaaGreatDoorGz06
namespace Go.Proofs.YtkefjaifaonlbaaGreatDoor
open Go.Sort Go.RowKit
namespace So

def MaxIs (w : World) : Prop := ∃ m : Int, w.cell? ⟨0, 0, none⟩ = some (.int .i64 m)
theorem split_cells {W : World} {c : Nat} {L : List ByteArray} (h : L.length = c) : ArgS.StrsAt (W.alloc (.cells (L.map Value.string).toArray 9)) (.slice (some ⟨W.heap.size, 0, none⟩) c c) L := by
  subst h
  refine ⟨_, _, rfl, Nat.le_refl _, fun _ => ⟨W.heap.size, 0, rfl, by simp, fun j x hx => ?_⟩⟩
  rw [World.cell?_alloc_at _ _ _ _ rfl]
  simp [hx]
/-- the pieces of a list of numbers -/
theorem cut3_any (s : ByteArray) (w : World) (hM : MaxIs w) (hs : s.size < 4294967281) :
    Calls Tryz.prog 26 #[.int .i64 3, .string s] w fun e w' => ∃ u, e = .returned u ∧ ArgS.StrsAt w' u (Lib.splitB ⟨#[44]⟩ 0 (Lib.countB s ⟨#[44]⟩) s) ∧ Go.RowKit.Below w.heap.size w w' := by
  obtain ⟨m, hm⟩ := hM
  have HS := hide (Tryz.strings_Split s ⟨#[44]⟩ m w hs hm (by decide))
  have HL := hide (Lib.splitB_all ⟨#[44]⟩ (by decide) 0 _ s rfl)
  clear hm hs
  go_enter Tryz.func26, Tryz.ntmps26
  go_wp2_with (go_at_call 36; refine (unhide HS).mono ?_; rintro e w1 ⟨rfl, hw1⟩; have HW := hide hw1; clear hw1)
  go_ret
  refine ⟨_, rfl, ?_, ?_⟩
  · rw [unhide HW]
    exact split_cells (unhide HL)
  · rw [unhide HW]
    exact (Go.RowKit.Below.refl _ w).alloc (Nat.le_refl _) _
def wkS : ByteArray := ⟨#[55, 44, 51, 48, 48, 44, 55]⟩
theorem wk_pieces : Lib.splitB ⟨#[44]⟩ 0 (Lib.countB wkS ⟨#[44]⟩) wkS = [⟨#[55]⟩, ⟨#[51, 48, 48]⟩, ⟨#[55]⟩] := by kernel_rfl
theorem wk_vals : ([⟨#[55]⟩, ⟨#[51, 48, 48]⟩, ⟨#[55]⟩] : List ByteArray).map (fun p => One.val 3 p.data.toList) = [7, 300, 7] := by decide
theorem wk_set {l : List Int} (h : IsSet l [7, 300, 7]) : l = [7, 300] :=
  h.unique ⟨by decide, fun x => by simp; omega⟩
theorem two_row {n₀ : Nat} {W : World} {v : Value} (h : FRow n₀ W v [7, 300]) : ∃ g cap, v = .slice (some ⟨g, 0, none⟩) 2 cap ∧ 2 ≤ cap ∧ W.cell? ⟨g, 0, none⟩ = some (.int .u16 7) ∧ W.cell? ⟨g, 1, none⟩ = some (.int .u16 300) := by
  obtain ⟨g, cap, e, _, _, h1, _, hH⟩ := h.cells
  exact ⟨g, cap, e, h1, (hH 0 (by decide)).1, (hH 1 (by decide)).1⟩
end So
end Go.Proofs.YtkefjaifaonlbaaGreatDoor
/- Contracts: flags.cut and the document's parts: the pieces that should be one flag each. -/
namespace Go.Proofs.YtkefjaifaonlbaaGreatDoor
open Go.Sort Go.RowKit
namespace So
open Cut

theorem infoS : (Tryz.prog.info? 9).map (fun i => (i.zero, i.size, i.bytes)) = some (some (.string ByteArray.empty), 1, 16) := by kernel_rfl
/-- texts in a block of their own, or nil -/
def SRow (n₀ : Nat) (W : World) (v : Value) (n : Nat) (P : List ByteArray) : Prop := W.ownsRow n₀ 9 1 v n (P.map Value.string)
theorem SRow.strs {n₀ : Nat} {W : World} {v : Value} {P : List ByteArray} (h : SRow n₀ W v P.length P) : ArgS.StrsAt W v P := by
  obtain ⟨_, ⟨rfl, h0⟩ | ⟨g, cap, cur, e, hg, hh, h1, h2, h3, h4⟩⟩ := h
  · have : P = [] := List.eq_nil_of_length_eq_zero h0
    subst this
    exact ⟨none, 0, rfl, Nat.le_refl _, fun h => absurd h (by simp)⟩
  · refine ⟨_, cap, e, h1, fun _ => ⟨g, 0, rfl, (Array.getElem?_eq_some_iff.1 hh).1, fun k x hx => ?_⟩⟩
    have hk : k < P.length := (List.getElem?_eq_some_iff.1 hx).1
    rw [Nat.mul_one] at h4
    have hv : (cur.toList.take P.length)[k]? = some (.string x) := by rw [h4]; simp [hx]
    rw [List.getElem?_take, if_pos hk] at hv
    simp only [World.cell?, hh, Nat.zero_add]
    simpa using hv
theorem srow_snoc {n₀ : Nat} {W : World} {v : Value} {P : List ByteArray} {p : ByteArray} (h : W.ownsRow n₀ 9 1 v (P.length + 1) (P.map Value.string ++ [.string p])) : SRow n₀ W v (P ++ [p]).length (P ++ [p]) := by
  unfold SRow
  simpa using h
theorem pieces_end {P : List ByteArray} {D : List (List UInt8)} {n₀ : Nat} {W : World} {v : Value} (h : SRow n₀ W v P.length P) (e : P.map dl = D) : ArgS.StrsAt W v (D.map mk) := by rw [← undl e]; exact h.strs

set_option maxRecDepth 100000 in
set_option maxHeartbeats 8000000 in
theorem cut1_any (s : ByteArray) (w : World) (hs : s.size ≤ 1048576) :
    Calls Tryz.prog 26 #[.int .i64 1, .string s] w fun e w' => ∃ u, e = .returned u ∧ ArgS.StrsAt w' u ((cuts 1 (dl s)).map mk) ∧ Go.RowKit.Below w.heap.size w w' := by
  obtain ⟨i0, hi, hz0, hz1, hz2⟩ := info_parts infoS
  have HSN : Hid (∀ W u (P : List ByteArray) p, W.ownsRow w.heap.size 9 1 u (P.length + 1) (P.map Value.string ++ [.string p]) → SRow w.heap.size W u (P ++ [p]).length (P ++ [p])) := fun W u P p h => srow_snoc h
  have HEND : Hid (∀ W u (P : List ByteArray), SRow w.heap.size W u P.length P → P.map dl = cuts 1 (dl s) → ArgS.StrsAt W u ((cuts 1 (dl s)).map mk)) := fun W u P h e => pieces_end h e
  have HLONG : Hid (∀ (P : List ByteArray) (r : ByteArray), 1 < r.size → P.map dl ++ cuts 1 (dl r) = cuts 1 (dl s) → (P ++ [r.extract 0 1]).map dl ++ cuts 1 (dl (r.extract 1 r.size)) = cuts 1 (dl s)) := fun P r h1 h2 => by
    have e := cuts_long (w := 1) (l := dl r) (by omega) (by rw [dl_len]; exact h1)
    rw [e] at h2
    rw [← h2, List.map_append, List.map_cons, dl_extract, dl_extract, List.map_nil]
    rw [List.take_of_length_le (l := List.drop 1 (dl r)) (by simp [dl_len])]
    simp
  have HSHORT : Hid (∀ (P : List ByteArray) (r : ByteArray), ¬ 1 < r.size → P.map dl ++ cuts 1 (dl r) = cuts 1 (dl s) → (P ++ [r]).map dl = cuts 1 (dl s)) := fun P r h1 h2 => by
    rw [← h2, cuts_short (by rw [dl_len]; omega)]
    simp
  have HSZ : Hid (∀ r : ByteArray, (r.extract 1 r.size).size = r.size - 1) := fun r => by rw [ByteArray.size_extract]; omega
  go_enter Tryz.func26, Tryz.ntmps26
  go_wp2
  go_loopg [1, 6] s.size (fun kk s1 s6 wr => ∃ (r : ByteArray) (P : List ByteArray), s1 = .string r ∧ r.size ≤ kk ∧ P.length + r.size ≤ 1048576 ∧ Hid (SRow w.heap.size wr s6 P.length P) ∧ Hid (P.map dl ++ cuts 1 (dl r) = cuts 1 (dl s)) ∧ Hid (Go.RowKit.Below w.heap.size w wr))
  case atStart => exact ⟨s, [], rfl, Nat.le_refl _, by simpa using hs, World.ownsRow_nil _ _ _ _, by rw [Hid]; simp, Go.RowKit.Below.refl _ _⟩
  case round =>
    obtain ⟨r, P, rfl, hk, hP, HR, HE, HB⟩ := hrel
    by_cases hlt : 1 < r.size
    · have hltz : (1 : Int) < (r.size : Int) := by omega
      have HE2 := hide (unhide HLONG P r hlt (unhide HE))
      have hsz := unhide HSZ r
      have hwr : 1 ≤ r.size := by omega
      go_wp2_with ((at_builtin; refine wpList_append_own _ rfl _ _ 75 rfl w.heap.size 9 i0 (.string ByteArray.empty) 1 16 Tryz.underlying75 hi hz0 hz1 hz2 rfl (by decide) _ _ _ rfl ((unhide HR).alloc _) ⟨wr.heap.size, 0, none⟩ 1 1 [.string (r.extract 0 1)] rfl rfl (cell_one_new _ _ _) (fun x hx => by simp at hx; subst hx; rfl) (by unfold maxLen; omega) (by omega) (by have := (unhide HB).size; simp; omega) ?_; intro v' w1 hown' hgrow _; have HO1 := hide (unhide HSN _ _ _ _ hown'); have HB1 := hide (irow_push (unhide HR) (unhide HB) hgrow); clear hown' hgrow))
      go_roundg (r.size - 1)
      case rel => exact ⟨r.extract 1 r.size, P ++ [r.extract 0 1], rfl, by omega, by simp; omega, HO1, HE2, HB1⟩
      case measure => omega
    · have hltz : ¬ (1 : Int) < (r.size : Int) := by omega
      have HE2 := hide (unhide HSHORT P r hlt (unhide HE))
      go_wp2_with ((at_builtin; refine wpList_append_own _ rfl _ _ 75 rfl w.heap.size 9 i0 (.string ByteArray.empty) 1 16 Tryz.underlying75 hi hz0 hz1 hz2 rfl (by decide) _ _ _ rfl ((unhide HR).alloc _) ⟨wr.heap.size, 0, none⟩ 1 1 [.string (r)] rfl rfl (cell_one_new _ _ _) (fun x hx => by simp at hx; subst hx; rfl) (by unfold maxLen; omega) (by omega) (by have := (unhide HB).size; simp; omega) ?_; intro v' w1 hown' hgrow _; have HO1 := hide (unhide HSN _ _ _ _ hown'); have HB1 := hide (irow_push (unhide HR) (unhide HB) hgrow); clear hown' hgrow))
      go_ret
      exact ⟨_, rfl, unhide HEND _ _ _ (unhide HO1) (unhide HE2), unhide HB1⟩

set_option maxRecDepth 100000 in
set_option maxHeartbeats 8000000 in
theorem cut2_any (s : ByteArray) (w : World) (hs : s.size ≤ 1048576) :
    Calls Tryz.prog 26 #[.int .i64 2, .string s] w fun e w' => ∃ u, e = .returned u ∧ ArgS.StrsAt w' u ((cuts 2 (dl s)).map mk) ∧ Go.RowKit.Below w.heap.size w w' := by
  obtain ⟨i0, hi, hz0, hz1, hz2⟩ := info_parts infoS
  have HSN : Hid (∀ W u (P : List ByteArray) p, W.ownsRow w.heap.size 9 1 u (P.length + 1) (P.map Value.string ++ [.string p]) → SRow w.heap.size W u (P ++ [p]).length (P ++ [p])) := fun W u P p h => srow_snoc h
  have HEND : Hid (∀ W u (P : List ByteArray), SRow w.heap.size W u P.length P → P.map dl = cuts 2 (dl s) → ArgS.StrsAt W u ((cuts 2 (dl s)).map mk)) := fun W u P h e => pieces_end h e
  have HLONG : Hid (∀ (P : List ByteArray) (r : ByteArray), 2 < r.size → P.map dl ++ cuts 2 (dl r) = cuts 2 (dl s) → (P ++ [r.extract 0 2]).map dl ++ cuts 2 (dl (r.extract 2 r.size)) = cuts 2 (dl s)) := fun P r h1 h2 => by
    have e := cuts_long (w := 2) (l := dl r) (by omega) (by rw [dl_len]; exact h1)
    rw [e] at h2
    rw [← h2, List.map_append, List.map_cons, dl_extract, dl_extract, List.map_nil]
    rw [List.take_of_length_le (l := List.drop 2 (dl r)) (by simp [dl_len])]
    simp
  have HSHORT : Hid (∀ (P : List ByteArray) (r : ByteArray), ¬ 2 < r.size → P.map dl ++ cuts 2 (dl r) = cuts 2 (dl s) → (P ++ [r]).map dl = cuts 2 (dl s)) := fun P r h1 h2 => by
    rw [← h2, cuts_short (by rw [dl_len]; omega)]
    simp
  have HSZ : Hid (∀ r : ByteArray, (r.extract 2 r.size).size = r.size - 2) := fun r => by rw [ByteArray.size_extract]; omega
  go_enter Tryz.func26, Tryz.ntmps26
  go_wp2
  go_loopg [1, 6] s.size (fun kk s1 s6 wr => ∃ (r : ByteArray) (P : List ByteArray), s1 = .string r ∧ r.size ≤ kk ∧ P.length + r.size ≤ 1048576 ∧ Hid (SRow w.heap.size wr s6 P.length P) ∧ Hid (P.map dl ++ cuts 2 (dl r) = cuts 2 (dl s)) ∧ Hid (Go.RowKit.Below w.heap.size w wr))
  case atStart => exact ⟨s, [], rfl, Nat.le_refl _, by simpa using hs, World.ownsRow_nil _ _ _ _, by rw [Hid]; simp, Go.RowKit.Below.refl _ _⟩
  case round =>
    obtain ⟨r, P, rfl, hk, hP, HR, HE, HB⟩ := hrel
    by_cases hlt : 2 < r.size
    · have hltz : (2 : Int) < (r.size : Int) := by omega
      have HE2 := hide (unhide HLONG P r hlt (unhide HE))
      have hsz := unhide HSZ r
      have hwr : 2 ≤ r.size := by omega
      go_wp2_with ((at_builtin; refine wpList_append_own _ rfl _ _ 75 rfl w.heap.size 9 i0 (.string ByteArray.empty) 1 16 Tryz.underlying75 hi hz0 hz1 hz2 rfl (by decide) _ _ _ rfl ((unhide HR).alloc _) ⟨wr.heap.size, 0, none⟩ 1 1 [.string (r.extract 0 2)] rfl rfl (cell_one_new _ _ _) (fun x hx => by simp at hx; subst hx; rfl) (by unfold maxLen; omega) (by omega) (by have := (unhide HB).size; simp; omega) ?_; intro v' w1 hown' hgrow _; have HO1 := hide (unhide HSN _ _ _ _ hown'); have HB1 := hide (irow_push (unhide HR) (unhide HB) hgrow); clear hown' hgrow))
      go_roundg (r.size - 2)
      case rel => exact ⟨r.extract 2 r.size, P ++ [r.extract 0 2], rfl, by omega, by simp; omega, HO1, HE2, HB1⟩
      case measure => omega
    · have hltz : ¬ (2 : Int) < (r.size : Int) := by omega
      have HE2 := hide (unhide HSHORT P r hlt (unhide HE))
      go_wp2_with ((at_builtin; refine wpList_append_own _ rfl _ _ 75 rfl w.heap.size 9 i0 (.string ByteArray.empty) 1 16 Tryz.underlying75 hi hz0 hz1 hz2 rfl (by decide) _ _ _ rfl ((unhide HR).alloc _) ⟨wr.heap.size, 0, none⟩ 1 1 [.string (r)] rfl rfl (cell_one_new _ _ _) (fun x hx => by simp at hx; subst hx; rfl) (by unfold maxLen; omega) (by omega) (by have := (unhide HB).size; simp; omega) ?_; intro v' w1 hown' hgrow _; have HO1 := hide (unhide HSN _ _ _ _ hown'); have HB1 := hide (irow_push (unhide HR) (unhide HB) hgrow); clear hown' hgrow))
      go_ret
      exact ⟨_, rfl, unhide HEND _ _ _ (unhide HO1) (unhide HE2), unhide HB1⟩

theorem byte_at (s : ByteArray) (i : Nat) (h : i < s.size) : (dl s)[i]? = some s[i] := by
  obtain ⟨⟨l⟩⟩ := s
  exact List.getElem?_eq_getElem h
theorem byte_eq {c : UInt8} (h : c = 44) : ((c.toNat : Int) == 44) = true := by subst h; rfl
theorem byte_ne {c : UInt8} (h : c ≠ 44) : ((c.toNat : Int) == 44) = false := by
  rw [beq_eq_false_iff_ne]
  intro e
  exact h (UInt8.toNat_inj.1 (by show c.toNat = 44; omega))
theorem cut3_C (s : ByteArray) (w : World) (hM : MaxIs w) (hs : s.size ≤ 1048576) :
    Calls Tryz.prog 26 #[.int .i64 3, .string s] w fun e w' => ∃ u, e = .returned u ∧ ArgS.StrsAt w' u ((splitC (dl s)).map mk) ∧ Go.RowKit.Below w.heap.size w w' := by
  have h := cut3_any s w hM (by omega)
  rw [undl (splitB_C s)] at h
  exact h
/-- the pieces of a text of a kind -/
def pieces (kind : Int) (l : List UInt8) : List (List UInt8) := if kind = 1 then cuts 1 l else if kind = 2 then cuts 2 l else splitC l
theorem cut_any (kind : Int) (s : ByteArray) (w : World) (hk : One.isK kind = true) (hM : MaxIs w) (hs : s.size ≤ 1048576) :
    Calls Tryz.prog 26 #[.int .i64 kind, .string s] w fun e w' => ∃ u, e = .returned u ∧ ArgS.StrsAt w' u ((pieces kind (dl s)).map mk) ∧ Go.RowKit.Below w.heap.size w w' := by
  have h3 : kind = 1 ∨ kind = 2 ∨ kind = 3 := by unfold One.isK at hk; simp at hk; omega
  rcases h3 with rfl | rfl | rfl
  · exact cut1_any s w hs
  · exact cut2_any s w hs
  · exact cut3_C s w hM hs
theorem pieces_mem (kind : Int) (l : List UInt8) : ∀ p ∈ pieces kind l, p.length ≤ l.length := by
  unfold pieces
  split
  · exact cutL_mem _ _
  · split
    · exact cutL_mem _ _
    · exact splitC_mem _
theorem pieces_count (kind : Int) (l : List UInt8) : (pieces kind l).length ≤ l.length + 1 := by
  unfold pieces
  split
  · exact cutL_count (by omega) _ _
  · split
    · exact cutL_count (by omega) _ _
    · exact splitC_count _
end So
end Go.Proofs.YtkefjaifaonlbaaGreatDoor
/- Contracts: the document's Of, With, Without and Equal. -/
namespace Go.Proofs.YtkefjaifaonlbaaGreatDoor
open Go.Sort Go.RowKit
namespace So

/-- n is the least of l above last, or -1 -/
def Nx (last : Int) (l : List Int) (n : Int) : Prop := (n = -1 ∧ ∀ x ∈ l, ¬ last < x) ∨ (n ∈ l ∧ last < n ∧ 0 ≤ n ∧ ∀ x ∈ l, last < x → n ≤ x)
theorem nx_nil (last : Int) : Nx last [] (-1) := .inl ⟨rfl, fun x hx => by cases hx⟩
theorem nx_keep {last n x : Int} {l : List Int} (h : Nx last l n) (hx : ¬ last < x ∨ (¬ n < 0 ∧ ¬ x < n)) : Nx last (l ++ [x]) n := by
  rcases h with ⟨h1, h2⟩ | ⟨h1, h2, h3, h4⟩
  · refine .inl ⟨h1, fun y hy => ?_⟩
    rcases List.mem_append.1 hy with hy | hy
    · exact h2 y hy
    · simp at hy; subst hy
      rcases hx with hx | hx
      · exact hx
      · omega
  · refine .inr ⟨List.mem_append.2 (.inl h1), h2, h3, fun y hy hl => ?_⟩
    rcases List.mem_append.1 hy with hy | hy
    · exact h4 y hy hl
    · simp at hy; subst hy
      rcases hx with hx | hx
      · exact absurd hl hx
      · omega
theorem nx_take {last n x : Int} {l : List Int} (h : Nx last l n) (hx0 : 0 ≤ x) (hx : last < x) (hn : n < 0 ∨ x < n) : Nx last (l ++ [x]) x := by
  refine .inr ⟨by simp, hx, hx0, fun y hy hl => ?_⟩
  rcases List.mem_append.1 hy with hy | hy
  · rcases h with ⟨h1, h2⟩ | ⟨h1, h2, h3, h4⟩
    · exact absurd hl (h2 y hy)
    · have := h4 y hy hl; omega
  · simp at hy; omega
/-- last is what comes ahead of place j -/
def Last (Z : List Int) (j : Nat) (last : Int) : Prop := j ≤ Z.length ∧ (j = 0 → last = -1) ∧ (0 < j → Z[j - 1]? = some last)
theorem last_split {Z : List Int} (hZ : Z.Pairwise (· < ·)) (h0 : ∀ x ∈ Z, 0 ≤ x) {j : Nat} {last : Int} (h : Last Z j last) : ∀ (i : Nat) (x : Int), Z[i]? = some x → (last < x ↔ j ≤ i) := by
  intro i x hx
  obtain ⟨hj, h1, h2⟩ := h
  have hi : i < Z.length := (List.getElem?_eq_some_iff.1 hx).1
  have hix : Z[i] = x := (List.getElem?_eq_some_iff.1 hx).2
  by_cases hz : j = 0
  · have := h1 hz
    have := h0 x (List.mem_of_getElem? hx)
    omega
  · have hl := h2 (by omega)
    have hjl : j - 1 < Z.length := (List.getElem?_eq_some_iff.1 hl).1
    have hlx : Z[j - 1] = last := (List.getElem?_eq_some_iff.1 hl).2
    have hp := List.pairwise_iff_getElem.1 hZ
    constructor
    · intro hlt
      rcases Nat.lt_trichotomy i (j - 1) with h | h | h
      · have := hp i (j - 1) hi hjl h
        omega
      · subst h; omega
      · omega
    · intro hle
      have := hp (j - 1) i hjl hi (by omega)
      omega
theorem nx_end {L : List Int} {j : Nat} {last n : Int} (h0 : ∀ x ∈ L, 0 ≤ x) (hl : Last (setOf L) j last) (h : Nx last L n) : (n = -1 ∧ (setOf L).take j = setOf L) ∨ (0 ≤ n ∧ (setOf L)[j]? = some n ∧ Last (setOf L) (j + 1) n) := by
  have hZ := (setOf_set L).1
  have hs := last_split hZ (fun x hx => h0 x (mem_setOf.1 hx)) hl
  rcases h with ⟨h1, h2⟩ | ⟨h1, h2, h3, h4⟩
  · left
    refine ⟨h1, List.take_of_length_le ?_⟩
    rcases Nat.lt_or_ge j (setOf L).length with hlt | hge
    · have e := List.getElem?_eq_getElem hlt
      have := (hs j _ e).2 (Nat.le_refl _)
      exact absurd this (h2 _ (mem_setOf.1 (List.mem_of_getElem? e)))
    · exact hge
  · right
    obtain ⟨i, hi, hin⟩ := List.getElem_of_mem (mem_setOf.2 h1)
    have e : (setOf L)[i]? = some n := by rw [List.getElem?_eq_getElem hi, hin]
    have hji := (hs i n e).1 h2
    have hij : i = j := by
      rcases Nat.lt_or_ge j i with hlt | hge
      · have hjl : j < (setOf L).length := by omega
        have ej := List.getElem?_eq_getElem hjl
        have h5 := (hs j _ ej).2 (Nat.le_refl _)
        have h6 := h4 _ (mem_setOf.1 (List.mem_of_getElem? ej)) h5
        have h7 := List.pairwise_iff_getElem.1 hZ j i hjl hi hlt
        omega
      · omega
    subst hij
    exact ⟨h3, e, by omega, fun h => by omega, fun _ => by simpa using e⟩
theorem last_zero (Z : List Int) : Last Z 0 (-1) := ⟨Nat.zero_le _, fun _ => rfl, fun h => absurd h (by omega)⟩

end So
end Go.Proofs.YtkefjaifaonlbaaGreatDoor
/- Contracts: the document's Number answers the number and the error of the plain definition, for every text and every int, and turns nothing in memory. -/
namespace Go.Proofs.YtkefjaifaonlbaaGreatDoor
open Go.RowKit
namespace NumW

end NumW
end Go.Proofs.YtkefjaifaonlbaaGreatDoor
/- Contracts: the document's own Value and One: the flag that a text writes; nothing in memory turns. -/
namespace Go.Proofs.YtkefjaifaonlbaaGreatDoor
open Go.RowKit
namespace One

end One
end Go.Proofs.YtkefjaifaonlbaaGreatDoor
