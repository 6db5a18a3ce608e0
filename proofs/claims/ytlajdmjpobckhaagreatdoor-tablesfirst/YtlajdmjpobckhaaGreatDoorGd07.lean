/- Contract: flags.Read, given what flags.cut answers: the set of the flags that the pieces write, or the error. -/
import Derived.Test.YtlajdmjpobckhaaGreatDoorGd06
import Derived.Test.YtlajdmjpobckhaaGreatDoorGd05
import Derived.Test.YtlajdmjpobckhaaGreatDoorGd02
import Derived.Test.YtlajdmjpobckhaaGreatDoorShAll
namespace Go.Proofs.YtlajdmjpobckhaaGreatDoor
open Go.Sort Go.RowKit
namespace So

/-- the error of a list of flags, 0 standing for what is none -/
def readE (V : List Int) : Int := if 0 ∈ V then 31 else if 64 < V.length then 32 else 0
/-- the first k flags lie in the block g -/
def Fill (g n : Nat) (V : List Int) (k : Nat) (W : World) : Prop := ∃ cur, W.heap[g]? = some (.cells cur 61 (0, 0)) ∧ n = cur.size ∧ cur.toList.take k = (V.take k).map encF
theorem set_heap {W : World} {g k : Nat} {cur : Array Value} {t : TypeId} {fr : Nat × Nat} (h : W.heap[g]? = some (.cells cur t fr)) (v : Value) : (W.setCell ⟨g, k, none⟩ v).heap[g]? = some (.cells (cur.setIfInBounds k v) t fr) := by
  rw [setCell_eq]
  show (W.heap.modify g _)[g]? = _
  rw [Array.getElem?_modify, if_pos rfl, h]
  rfl
theorem set_below {W : World} {g k : Nat} (v : Value) : Go.RowKit.Below g W (W.setCell ⟨g, k, none⟩ v) := by
  rw [setCell_eq]
  refine ⟨rfl, rfl, rfl, ?_, fun j hj => ?_⟩
  · show W.heap.size ≤ (W.heap.modify g _).size
    simp
  · show (W.heap.modify g _)[j]? = _
    rw [Array.getElem?_modify, if_neg (by omega)]
theorem Fill.cell {g n k : Nat} {V : List Int} {W : World} (h : Fill g n V k W) (hk : k < n) : (∃ u, W.cell? ⟨g, k, none⟩ = some u) ∧ W.frozen? ⟨g, k, none⟩ = false := by
  obtain ⟨cur, h1, h2, _⟩ := h
  constructor
  · refine ⟨cur[k], ?_⟩
    simp only [World.cell?, h1]
    simp
  · simp [World.frozen?, h1]
theorem Fill.drewN {g n k : Nat} {V : List Int} {W : World} (h : Fill g n V k W) (q : Nat) : Fill g n V k (W.drewN q) := h
theorem Fill.set {g n k : Nat} {V : List Int} {W : World} (h : Fill g n V k W) (hk : k < n) {x : Int} (hx : V[k]? = some x) : Fill g n V (k + 1) (W.setCell ⟨g, k, none⟩ (encF x)) := by
  obtain ⟨cur, h1, h2, h3⟩ := h
  refine ⟨_, set_heap h1 _, by simpa using h2, ?_⟩
  have hkl : k < V.length := (List.getElem?_eq_some_iff.1 hx).1
  have hkx : V[k] = x := (List.getElem?_eq_some_iff.1 hx).2
  rw [List.take_succ_eq_append_getElem hkl, hkx, List.map_append, ← h3]
  have hks : k < cur.size := by omega
  rw [List.take_succ_eq_append_getElem (by simpa using hks)]
  congr 1
  · simp [List.take_set_of_le]
  · simp
theorem Fill.row {g n : Nat} {V : List Int} {W : World} (h : Fill g n V n W) (hn : V.length = n) (hm : n ≤ maxLen) : FRow g W (.slice (some ⟨g, 0, none⟩) n n) V := by
  obtain ⟨cur, h1, h2, h3⟩ := h
  exact ⟨g, n, cur, by rw [hn], Nat.le_refl _, h1, by omega, hm, h2, by rw [hn, h3, ← hn, List.take_length]⟩

set_option maxRecDepth 100000 in
set_option maxHeartbeats 8000000 in
theorem read_with (kind : Int) (s : ByteArray) (P : List ByteArray) (w : World) (hk : One.isK kind = true) (hn : P.length ≤ 1099511627776) (hz : ∀ p ∈ P, p.size ≤ maxLen)
    (hcut : Calls Tryz.prog 130 #[.int .i64 kind, .string s] w fun e w' => ∃ u, e = .returned u ∧ ArgS.StrsAt w' u P ∧ Go.RowKit.Below w.heap.size w w') :
    Calls Tryz.prog 101 #[.int .i64 kind, .string s] w fun e w' => ∃ u, e = .returned (.tuple #[u, .int .i64 (readE (P.map fun p => One.val kind p.data.toList))]) ∧ Go.RowKit.Below w.heap.size w w' ∧
      (readE (P.map fun p => One.val kind p.data.toList) = 0 → ∃ l, IsSet l (P.map fun p => One.val kind p.data.toList) ∧ FRow w.heap.size w' u l) ∧ (readE (P.map fun p => One.val kind p.data.toList) ≠ 0 → u = .slice none 0 0) := by
  obtain ⟨i0, hi, hz0, hz1, hz2⟩ := info_parts infoF
  obtain ⟨V, hV⟩ : ∃ V, V = P.map fun p => One.val kind p.data.toList := ⟨_, rfl⟩
  have hVl : V.length = P.length := by rw [hV]; simp
  have HO : Hid (∀ (k : Nat) p x W, P[k]? = some p → V[k]? = some x → Calls Tryz.prog 126 #[.int .i64 kind, .string p] W fun e w' => e = .returned (.tuple #[.int .u16 x, .int .i64 (if x = 0 then 31 else 0)]) ∧ ∃ n, w' = W.drewN n) := fun k p x W hp hx => by
    refine (One.one_any kind p W (hz p (List.mem_of_getElem? hp))).mono ?_
    rintro e w' ⟨rfl, h⟩
    have ex : x = One.val kind p.data.toList := by
      rw [hV] at hx
      simp [hp] at hx
      exact hx.symm
    rw [One.oneF, One.oneE, if_pos hk, if_pos hk, ex]
    exact ⟨rfl, h⟩
  have HKK := hide (fun W => One.kind_any kind W)
  rw [hk] at HKK
  rw [← hV]
  have HC := hide hcut
  clear hV hcut hk hz
  generalize hnn : P.length = n at *
  have HN := hide hnn
  have HVL := hide hVl
  clear hnn hVl
  have hnz : (n : Int) ≤ 1099511627776 := by omega
  go_enter Tryz.func101, Tryz.ntmps101
  go_wp2_with (first
    | (go_at_call 129; refine (unhide HKK _).mono ?_; rintro e w0 ⟨rfl, hw0⟩; obtain rfl := hw0.symm)
    | (go_at_call 130; refine (unhide HC).mono ?_; rintro e w1 ⟨u, rfl, hP, hB1⟩; obtain ⟨ao, cap, rfl, hcp, hcell⟩ := hP.form; rw [unhide HN] at hcp ⊢; have HCE := hide hcell; obtain ⟨w2, hrun, hown, hgrow⟩ := run_make_full (P := Tryz.prog) w1 w1.heap.size 39 61 i0 (.int .u16 0) 1 Tryz.underlying39 hi hz0 hz1 .i64 .i64 n (by rw [hz2]; omega) (by unfold maxLen; omega) (Nat.le_refl _); have HOW := hide hown; have HGR := hide hgrow; have HB1 := hide hB1; clear hP hcell hown hgrow hB1))
  have HF0 : Hid (Fill w1.heap.size n V 0 w2) := by
    obtain ⟨_, ⟨e0, _⟩ | ⟨g, cap1, cur, e1, hg, hh, hc1, hm1, hs1, _⟩⟩ := unhide HOW
    · cases e0
    · injection e1 with e1 _ e3
      injection e1 with e1
      injection e1 with e1 _ _
      rw [← e1] at hh
      exact ⟨cur, hh, by omega, by simp⟩
  have HB2 : Hid (Go.RowKit.Below w1.heap.size w1 w2) := (Go.RowKit.Below.refl _ w1).grown (unhide HGR) (Nat.le_refl _) (fun k e => by cases e)
  clear HOW HGR hrun hi hz0 hz1 hz2
  have hnm : n ≤ maxLen := by unfold maxLen; omega
  obtain ⟨G, hG⟩ : ∃ G, G = w1.heap.size := ⟨_, rfl⟩
  have HGG := hide hG
  have HGE : Hid (w.heap.size ≤ G) := by rw [Hid, hG]; exact (unhide HB1).size
  have HNV : Hid (∀ (k : Nat) x, V[k]? = some x → (∀ y ∈ V.take k, y ≠ 0) → x ≠ 0 → ∀ y ∈ V.take (k + 1), y ≠ 0) := fun k x hx h h2 y hy => by
    have hkl : k < V.length := (List.getElem?_eq_some_iff.1 hx).1
    rw [List.take_succ_eq_append_getElem hkl, (List.getElem?_eq_some_iff.1 hx).2] at hy
    rcases List.mem_append.1 hy with hy | hy
    · exact h y hy
    · simp at hy; subst hy; exact h2
  have HBAD : Hid (∀ k : Nat, V[k]? = some 0 → readE V = 31) := fun k hx => by rw [readE, if_pos (List.mem_of_getElem? hx)]
  rw [← hG] at HF0 HB2 ⊢
  clear hG
  go_loopw [23] (fun vi wr => ∃ k : Nat, vi = .int .i64 k ∧ k ≤ n ∧ Hid (Fill G n V k wr) ∧ Hid (Go.RowKit.Below G w1 wr) ∧ Hid (∀ y ∈ V.take k, y ≠ 0)) (fun vi _ => n - (intOf vi).toNat)
  case atStart => exact ⟨0, rfl, Nat.zero_le _, HF0, HB2, hide (fun y hy => by simp at hy)⟩
  case round =>
    obtain ⟨k, rfl, hk, HF, HB, HNZ⟩ := hrel
    by_cases hlt : k < n
    · have hltz : (k : Int) < (n : Int) := by omega
      obtain ⟨p, hp⟩ : ∃ p, P[k]? = some p := ⟨_, List.getElem?_eq_getElem (by rw [unhide HN]; exact hlt)⟩
      obtain ⟨gp, op, rfl, hgp, hcp2⟩ := unhide HCE k p hp
      have hcw : wr.cell? ⟨gp, op + k, none⟩ = some (.string p) := ((unhide HB).cell (p := ⟨gp, op + k, none⟩) (by show gp < G; rw [unhide HGG]; exact hgp)).trans hcp2
      obtain ⟨⟨u0, hcu⟩, hfu⟩ := (unhide HF).cell hlt
      obtain ⟨x, hx⟩ : ∃ x, V[k]? = some x := ⟨_, List.getElem?_eq_getElem (by rw [unhide HVL]; exact hlt)⟩
      have HOK := hide (fun W => unhide HO k p x W hp hx)
      have HX := hide hx
      clear hp hcp2 hgp hx
      by_cases hx0 : x = 0
      · subst hx0
        rw [if_pos rfl] at HOK
        have HR : Hid (readE V = 31) := unhide HBAD k (unhide HX)
        go_wp2_with (go_at_call 126; refine (unhide HOK _).mono ?_; rintro e w3 ⟨rfl, n3, hw3⟩; obtain rfl := hw3.symm)
        have HBF : Hid (Go.RowKit.Below w.heap.size w (wr.drewN n3)) := (unhide HB1).trans (below_drewN ((unhide HB).mono (unhide HGE)) n3)
        go_ret2
        rw [unhide HR]
        exact ⟨_, rfl, unhide HBF, fun h => (by cases h), fun _ => rfl⟩
      · rw [if_neg hx0] at HOK
        have HNZ2 := hide (unhide HNV k x (unhide HX) (unhide HNZ) hx0)
        clear hx0
        go_wp2_with (go_at_call 126; refine (unhide HOK _).mono ?_; rintro e w3 ⟨rfl, n3, hw3⟩; obtain rfl := hw3.symm)
        go_roundw
        case rel => exact ⟨k + 1, by go_num, by omega, hide (((unhide HF).drewN n3).set hlt (unhide HX)), hide ((below_drewN (unhide HB) n3).trans (set_below _)), HNZ2⟩
        case measure => simp [intOf]; omega
    · obtain rfl : k = n := by omega
      have hltz : ¬ (k : Int) < (k : Int) := by omega
      have HROW := hide ((unhide HF).row (unhide HVL) hnm)
      have hno : 0 ∉ V := fun h => unhide HNZ 0 (by rw [← unhide HVL, List.take_length]; exact h) rfl
      have HBW : Hid (Go.RowKit.Below w.heap.size w wr) := (unhide HB1).trans ((unhide HB).mono (unhide HGE))
      by_cases h64 : 64 < k
      · have h64z : (64 : Int) < (k : Int) := by omega
        have HR : Hid (readE V = 32) := by rw [Hid, readE, if_neg hno, if_pos (by rw [unhide HVL]; exact h64)]
        clear hno
        go_wp2
        go_ret2
        rw [unhide HR]
        exact ⟨_, rfl, unhide HBW, fun h => (by cases h), fun _ => rfl⟩
      · have h64z : ¬ (64 : Int) < (k : Int) := by omega
        have HR : Hid (readE V = 0) := by rw [Hid, readE, if_neg hno, if_neg (by rw [unhide HVL]; exact h64)]
        have HOF := hide (of_any _ V wr (unhide HROW).arg (by rw [unhide HVL]; omega))
        clear hno
        go_wp2_with (go_at_call 131; refine (unhide HOF).mono ?_; rintro e w4 ⟨u4, l, rfl, h4, hF4, hB4⟩; have H4 := hide h4; have HF4 := hide hF4; have HB4 := hide hB4; clear h4 hF4 hB4)
        go_ret2
        rw [unhide HR]
        exact ⟨u4, rfl, (unhide HBW).trans ((unhide HB4).mono (unhide HBW).size), fun _ => ⟨l, unhide H4, (unhide HF4).low (unhide HBW).size⟩, fun h => absurd rfl h⟩
end So
end Go.Proofs.YtlajdmjpobckhaaGreatDoor
/- The shelf. -/
/- Contract: layer 3's waking call answers true; nothing that was turns. -/
namespace Go.Proofs.YtlajdmjpobckhaaGreatDoor
open Go.Sort Go.RowKit
namespace So

def MaxIs (w : World) : Prop := ∃ m : Int, w.cell? ⟨0, 0, none⟩ = some (.int .i64 m)
theorem split_cells {W : World} {c : Nat} {L : List ByteArray} (h : L.length = c) : ArgS.StrsAt (W.alloc (.cells (L.map Value.string).toArray 9)) (.slice (some ⟨W.heap.size, 0, none⟩) c c) L := by
  subst h
  refine ⟨_, _, rfl, Nat.le_refl _, fun _ => ⟨W.heap.size, 0, rfl, by simp, fun j x hx => ?_⟩⟩
  rw [World.cell?_alloc_at _ _ _ _ rfl]
  simp [hx]
/-- the pieces of a list of numbers -/
theorem cut3_any (s : ByteArray) (w : World) (hM : MaxIs w) (hs : s.size < 4294967281) :
    Calls Tryz.prog 130 #[.int .i64 3, .string s] w fun e w' => ∃ u, e = .returned u ∧ ArgS.StrsAt w' u (Lib.splitB ⟨#[44]⟩ 0 (Lib.countB s ⟨#[44]⟩) s) ∧ Go.RowKit.Below w.heap.size w w' := by
  obtain ⟨m, hm⟩ := hM
  have HS := hide (Tryz.strings_Split s ⟨#[44]⟩ m w hs hm (by decide))
  have HL := hide (Lib.splitB_all ⟨#[44]⟩ (by decide) 0 _ s rfl)
  clear hm hs
  go_enter Tryz.func130, Tryz.ntmps130
  go_wp2_with (go_at_call 149; refine (unhide HS).mono ?_; rintro e w1 ⟨rfl, hw1⟩; have HW := hide hw1; clear hw1)
  go_ret
  refine ⟨_, rfl, ?_, ?_⟩
  · rw [unhide HW]
    exact split_cells (unhide HL)
  · rw [unhide HW]
    exact (Go.RowKit.Below.refl _ w).alloc (Nat.le_refl _) _
def wkS : ByteArray := ⟨#[55, 44, 51, 48, 48, 44, 55]⟩
theorem wk_pieces : Lib.splitB ⟨#[44]⟩ 0 (Lib.countB wkS ⟨#[44]⟩) wkS = [⟨#[55]⟩, ⟨#[51, 48, 48]⟩, ⟨#[55]⟩] := by kernel_rfl
theorem wk_vals : ([⟨#[55]⟩, ⟨#[51, 48, 48]⟩, ⟨#[55]⟩] : List ByteArray).map (fun p => One.val 3 p.data.toList) = [7, 300, 7] := by decide
theorem wk_set {l : List Int} (h : IsSet l [7, 300, 7]) : l = [7, 300] :=
  h.unique ⟨by decide, fun x => by simp; omega⟩
theorem two_row {n₀ : Nat} {W : World} {v : Value} (h : FRow n₀ W v [7, 300]) : ∃ g cap, v = .slice (some ⟨g, 0, none⟩) 2 cap ∧ 2 ≤ cap ∧ W.cell? ⟨g, 0, none⟩ = some (.int .u16 7) ∧ W.cell? ⟨g, 1, none⟩ = some (.int .u16 300) := by
  obtain ⟨g, cap, e, _, _, h1, _, hH⟩ := h.cells
  exact ⟨g, cap, e, h1, (hH 0 (by decide)).1, (hH 1 (by decide)).1⟩
end So
end Go.Proofs.YtlajdmjpobckhaaGreatDoor
/- Contracts: flags.cut and the document's parts: the pieces that should be one flag each. -/
namespace Go.Proofs.YtlajdmjpobckhaaGreatDoor
open Go.Sort Go.RowKit
namespace So
open Cut

theorem infoS : (Tryz.prog.info? 9).map (fun i => (i.zero, i.size, i.bytes)) = some (some (.string ByteArray.empty), 1, 16) := by kernel_rfl
/-- texts in a block of their own, or nil -/
def SRow (n₀ : Nat) (W : World) (v : Value) (n : Nat) (P : List ByteArray) : Prop := W.ownsRow n₀ 9 1 v n (P.map Value.string)
theorem SRow.strs {n₀ : Nat} {W : World} {v : Value} {P : List ByteArray} (h : SRow n₀ W v P.length P) : ArgS.StrsAt W v P := by
  obtain ⟨_, ⟨rfl, h0⟩ | ⟨g, cap, cur, e, hg, hh, h1, h2, h3, h4⟩⟩ := h
  · have : P = [] := List.eq_nil_of_length_eq_zero h0
    subst this
    exact ⟨none, 0, rfl, Nat.le_refl _, fun h => absurd h (by simp)⟩
  · refine ⟨_, cap, e, h1, fun _ => ⟨g, 0, rfl, (Array.getElem?_eq_some_iff.1 hh).1, fun k x hx => ?_⟩⟩
    have hk : k < P.length := (List.getElem?_eq_some_iff.1 hx).1
    rw [Nat.mul_one] at h4
    have hv : (cur.toList.take P.length)[k]? = some (.string x) := by rw [h4]; simp [hx]
    rw [List.getElem?_take, if_pos hk] at hv
    simp only [World.cell?, hh, Nat.zero_add]
    simpa using hv
theorem srow_snoc {n₀ : Nat} {W : World} {v : Value} {P : List ByteArray} {p : ByteArray} (h : W.ownsRow n₀ 9 1 v (P.length + 1) (P.map Value.string ++ [.string p])) : SRow n₀ W v (P ++ [p]).length (P ++ [p]) := by
  unfold SRow
  simpa using h
theorem pieces_end {P : List ByteArray} {D : List (List UInt8)} {n₀ : Nat} {W : World} {v : Value} (h : SRow n₀ W v P.length P) (e : P.map dl = D) : ArgS.StrsAt W v (D.map mk) := by rw [← undl e]; exact h.strs

set_option maxRecDepth 100000 in
set_option maxHeartbeats 8000000 in
theorem cut1_any (s : ByteArray) (w : World) (hs : s.size ≤ 1048576) :
    Calls Tryz.prog 130 #[.int .i64 1, .string s] w fun e w' => ∃ u, e = .returned u ∧ ArgS.StrsAt w' u ((cuts 1 (dl s)).map mk) ∧ Go.RowKit.Below w.heap.size w w' := by
  obtain ⟨i0, hi, hz0, hz1, hz2⟩ := info_parts infoS
  have HSN : Hid (∀ W u (P : List ByteArray) p, W.ownsRow w.heap.size 9 1 u (P.length + 1) (P.map Value.string ++ [.string p]) → SRow w.heap.size W u (P ++ [p]).length (P ++ [p])) := fun W u P p h => srow_snoc h
  have HEND : Hid (∀ W u (P : List ByteArray), SRow w.heap.size W u P.length P → P.map dl = cuts 1 (dl s) → ArgS.StrsAt W u ((cuts 1 (dl s)).map mk)) := fun W u P h e => pieces_end h e
  have HLONG : Hid (∀ (P : List ByteArray) (r : ByteArray), 1 < r.size → P.map dl ++ cuts 1 (dl r) = cuts 1 (dl s) → (P ++ [r.extract 0 1]).map dl ++ cuts 1 (dl (r.extract 1 r.size)) = cuts 1 (dl s)) := fun P r h1 h2 => by
    have e := cuts_long (w := 1) (l := dl r) (by omega) (by rw [dl_len]; exact h1)
    rw [e] at h2
    rw [← h2, List.map_append, List.map_cons, dl_extract, dl_extract, List.map_nil]
    rw [List.take_of_length_le (l := List.drop 1 (dl r)) (by simp [dl_len])]
    simp
  have HSHORT : Hid (∀ (P : List ByteArray) (r : ByteArray), ¬ 1 < r.size → P.map dl ++ cuts 1 (dl r) = cuts 1 (dl s) → (P ++ [r]).map dl = cuts 1 (dl s)) := fun P r h1 h2 => by
    rw [← h2, cuts_short (by rw [dl_len]; omega)]
    simp
  have HSZ : Hid (∀ r : ByteArray, (r.extract 1 r.size).size = r.size - 1) := fun r => by rw [ByteArray.size_extract]; omega
  go_enter Tryz.func130, Tryz.ntmps130
  go_wp2
  go_loopg [1, 6] s.size (fun kk s1 s6 wr => ∃ (r : ByteArray) (P : List ByteArray), s1 = .string r ∧ r.size ≤ kk ∧ P.length + r.size ≤ 1048576 ∧ Hid (SRow w.heap.size wr s6 P.length P) ∧ Hid (P.map dl ++ cuts 1 (dl r) = cuts 1 (dl s)) ∧ Hid (Go.RowKit.Below w.heap.size w wr))
  case atStart => exact ⟨s, [], rfl, Nat.le_refl _, by simpa using hs, World.ownsRow_nil _ _ _ _, by rw [Hid]; simp, Go.RowKit.Below.refl _ _⟩
  case round =>
    obtain ⟨r, P, rfl, hk, hP, HR, HE, HB⟩ := hrel
    by_cases hlt : 1 < r.size
    · have hltz : (1 : Int) < (r.size : Int) := by omega
      have HE2 := hide (unhide HLONG P r hlt (unhide HE))
      have hsz := unhide HSZ r
      have hwr : 1 ≤ r.size := by omega
      go_wp2_with ((at_builtin; refine wpList_append_own _ rfl _ _ 22 rfl w.heap.size 9 i0 (.string ByteArray.empty) 1 16 Tryz.underlying22 hi hz0 hz1 hz2 rfl (by decide) _ _ _ rfl ((unhide HR).alloc _) ⟨wr.heap.size, 0, none⟩ 1 1 [.string (r.extract 0 1)] rfl rfl (cell_one_new _ _ _) (fun x hx => by simp at hx; subst hx; rfl) (by unfold maxLen; omega) (by omega) (by have := (unhide HB).size; simp; omega) ?_; intro v' w1 hown' hgrow _; have HO1 := hide (unhide HSN _ _ _ _ hown'); have HB1 := hide (irow_push (unhide HR) (unhide HB) hgrow); clear hown' hgrow))
      go_roundg (r.size - 1)
      case rel => exact ⟨r.extract 1 r.size, P ++ [r.extract 0 1], rfl, by omega, by simp; omega, HO1, HE2, HB1⟩
      case measure => omega
    · have hltz : ¬ (1 : Int) < (r.size : Int) := by omega
      have HE2 := hide (unhide HSHORT P r hlt (unhide HE))
      go_wp2_with ((at_builtin; refine wpList_append_own _ rfl _ _ 22 rfl w.heap.size 9 i0 (.string ByteArray.empty) 1 16 Tryz.underlying22 hi hz0 hz1 hz2 rfl (by decide) _ _ _ rfl ((unhide HR).alloc _) ⟨wr.heap.size, 0, none⟩ 1 1 [.string (r)] rfl rfl (cell_one_new _ _ _) (fun x hx => by simp at hx; subst hx; rfl) (by unfold maxLen; omega) (by omega) (by have := (unhide HB).size; simp; omega) ?_; intro v' w1 hown' hgrow _; have HO1 := hide (unhide HSN _ _ _ _ hown'); have HB1 := hide (irow_push (unhide HR) (unhide HB) hgrow); clear hown' hgrow))
      go_ret
      exact ⟨_, rfl, unhide HEND _ _ _ (unhide HO1) (unhide HE2), unhide HB1⟩

set_option maxRecDepth 100000 in
set_option maxHeartbeats 8000000 in
theorem cut2_any (s : ByteArray) (w : World) (hs : s.size ≤ 1048576) :
    Calls Tryz.prog 130 #[.int .i64 2, .string s] w fun e w' => ∃ u, e = .returned u ∧ ArgS.StrsAt w' u ((cuts 2 (dl s)).map mk) ∧ Go.RowKit.Below w.heap.size w w' := by
  obtain ⟨i0, hi, hz0, hz1, hz2⟩ := info_parts infoS
  have HSN : Hid (∀ W u (P : List ByteArray) p, W.ownsRow w.heap.size 9 1 u (P.length + 1) (P.map Value.string ++ [.string p]) → SRow w.heap.size W u (P ++ [p]).length (P ++ [p])) := fun W u P p h => srow_snoc h
  have HEND : Hid (∀ W u (P : List ByteArray), SRow w.heap.size W u P.length P → P.map dl = cuts 2 (dl s) → ArgS.StrsAt W u ((cuts 2 (dl s)).map mk)) := fun W u P h e => pieces_end h e
  have HLONG : Hid (∀ (P : List ByteArray) (r : ByteArray), 2 < r.size → P.map dl ++ cuts 2 (dl r) = cuts 2 (dl s) → (P ++ [r.extract 0 2]).map dl ++ cuts 2 (dl (r.extract 2 r.size)) = cuts 2 (dl s)) := fun P r h1 h2 => by
    have e := cuts_long (w := 2) (l := dl r) (by omega) (by rw [dl_len]; exact h1)
    rw [e] at h2
    rw [← h2, List.map_append, List.map_cons, dl_extract, dl_extract, List.map_nil]
    rw [List.take_of_length_le (l := List.drop 2 (dl r)) (by simp [dl_len])]
    simp
  have HSHORT : Hid (∀ (P : List ByteArray) (r : ByteArray), ¬ 2 < r.size → P.map dl ++ cuts 2 (dl r) = cuts 2 (dl s) → (P ++ [r]).map dl = cuts 2 (dl s)) := fun P r h1 h2 => by
    rw [← h2, cuts_short (by rw [dl_len]; omega)]
    simp
  have HSZ : Hid (∀ r : ByteArray, (r.extract 2 r.size).size = r.size - 2) := fun r => by rw [ByteArray.size_extract]; omega
  go_enter Tryz.func130, Tryz.ntmps130
  go_wp2
  go_loopg [1, 6] s.size (fun kk s1 s6 wr => ∃ (r : ByteArray) (P : List ByteArray), s1 = .string r ∧ r.size ≤ kk ∧ P.length + r.size ≤ 1048576 ∧ Hid (SRow w.heap.size wr s6 P.length P) ∧ Hid (P.map dl ++ cuts 2 (dl r) = cuts 2 (dl s)) ∧ Hid (Go.RowKit.Below w.heap.size w wr))
  case atStart => exact ⟨s, [], rfl, Nat.le_refl _, by simpa using hs, World.ownsRow_nil _ _ _ _, by rw [Hid]; simp, Go.RowKit.Below.refl _ _⟩
  case round =>
    obtain ⟨r, P, rfl, hk, hP, HR, HE, HB⟩ := hrel
    by_cases hlt : 2 < r.size
    · have hltz : (2 : Int) < (r.size : Int) := by omega
      have HE2 := hide (unhide HLONG P r hlt (unhide HE))
      have hsz := unhide HSZ r
      have hwr : 2 ≤ r.size := by omega
      go_wp2_with ((at_builtin; refine wpList_append_own _ rfl _ _ 22 rfl w.heap.size 9 i0 (.string ByteArray.empty) 1 16 Tryz.underlying22 hi hz0 hz1 hz2 rfl (by decide) _ _ _ rfl ((unhide HR).alloc _) ⟨wr.heap.size, 0, none⟩ 1 1 [.string (r.extract 0 2)] rfl rfl (cell_one_new _ _ _) (fun x hx => by simp at hx; subst hx; rfl) (by unfold maxLen; omega) (by omega) (by have := (unhide HB).size; simp; omega) ?_; intro v' w1 hown' hgrow _; have HO1 := hide (unhide HSN _ _ _ _ hown'); have HB1 := hide (irow_push (unhide HR) (unhide HB) hgrow); clear hown' hgrow))
      go_roundg (r.size - 2)
      case rel => exact ⟨r.extract 2 r.size, P ++ [r.extract 0 2], rfl, by omega, by simp; omega, HO1, HE2, HB1⟩
      case measure => omega
    · have hltz : ¬ (2 : Int) < (r.size : Int) := by omega
      have HE2 := hide (unhide HSHORT P r hlt (unhide HE))
      go_wp2_with ((at_builtin; refine wpList_append_own _ rfl _ _ 22 rfl w.heap.size 9 i0 (.string ByteArray.empty) 1 16 Tryz.underlying22 hi hz0 hz1 hz2 rfl (by decide) _ _ _ rfl ((unhide HR).alloc _) ⟨wr.heap.size, 0, none⟩ 1 1 [.string (r)] rfl rfl (cell_one_new _ _ _) (fun x hx => by simp at hx; subst hx; rfl) (by unfold maxLen; omega) (by omega) (by have := (unhide HB).size; simp; omega) ?_; intro v' w1 hown' hgrow _; have HO1 := hide (unhide HSN _ _ _ _ hown'); have HB1 := hide (irow_push (unhide HR) (unhide HB) hgrow); clear hown' hgrow))
      go_ret
      exact ⟨_, rfl, unhide HEND _ _ _ (unhide HO1) (unhide HE2), unhide HB1⟩

theorem byte_at (s : ByteArray) (i : Nat) (h : i < s.size) : (dl s)[i]? = some s[i] := by
  obtain ⟨⟨l⟩⟩ := s
  exact List.getElem?_eq_getElem h
theorem byte_eq {c : UInt8} (h : c = 44) : ((c.toNat : Int) == 44) = true := by subst h; rfl
theorem byte_ne {c : UInt8} (h : c ≠ 44) : ((c.toNat : Int) == 44) = false := by
  rw [beq_eq_false_iff_ne]
  intro e
  exact h (UInt8.toNat_inj.1 (by show c.toNat = 44; omega))
theorem cut3_C (s : ByteArray) (w : World) (hM : MaxIs w) (hs : s.size ≤ 1048576) :
    Calls Tryz.prog 130 #[.int .i64 3, .string s] w fun e w' => ∃ u, e = .returned u ∧ ArgS.StrsAt w' u ((splitC (dl s)).map mk) ∧ Go.RowKit.Below w.heap.size w w' := by
  have h := cut3_any s w hM (by omega)
  rw [undl (splitB_C s)] at h
  exact h
/-- the pieces of a text of a kind -/
def pieces (kind : Int) (l : List UInt8) : List (List UInt8) := if kind = 1 then cuts 1 l else if kind = 2 then cuts 2 l else splitC l
theorem cut_any (kind : Int) (s : ByteArray) (w : World) (hk : One.isK kind = true) (hM : MaxIs w) (hs : s.size ≤ 1048576) :
    Calls Tryz.prog 130 #[.int .i64 kind, .string s] w fun e w' => ∃ u, e = .returned u ∧ ArgS.StrsAt w' u ((pieces kind (dl s)).map mk) ∧ Go.RowKit.Below w.heap.size w w' := by
  have h3 : kind = 1 ∨ kind = 2 ∨ kind = 3 := by unfold One.isK at hk; simp at hk; omega
  rcases h3 with rfl | rfl | rfl
  · exact cut1_any s w hs
  · exact cut2_any s w hs
  · exact cut3_C s w hM hs
theorem pieces_mem (kind : Int) (l : List UInt8) : ∀ p ∈ pieces kind l, p.length ≤ l.length := by
  unfold pieces
  split
  · exact cutL_mem _ _
  · split
    · exact cutL_mem _ _
    · exact splitC_mem _
theorem pieces_count (kind : Int) (l : List UInt8) : (pieces kind l).length ≤ l.length + 1 := by
  unfold pieces
  split
  · exact cutL_count (by omega) _ _
  · split
    · exact cutL_count (by omega) _ _
    · exact splitC_count _
end So
end Go.Proofs.YtlajdmjpobckhaaGreatDoor
/- Contracts: the document's Of, With, Without and Equal. -/
namespace Go.Proofs.YtlajdmjpobckhaaGreatDoor
open Go.Sort Go.RowKit
namespace So

/-- n is the least of l above last, or -1 -/
def Nx (last : Int) (l : List Int) (n : Int) : Prop := (n = -1 ∧ ∀ x ∈ l, ¬ last < x) ∨ (n ∈ l ∧ last < n ∧ 0 ≤ n ∧ ∀ x ∈ l, last < x → n ≤ x)
theorem nx_nil (last : Int) : Nx last [] (-1) := .inl ⟨rfl, fun x hx => by cases hx⟩
theorem nx_keep {last n x : Int} {l : List Int} (h : Nx last l n) (hx : ¬ last < x ∨ (¬ n < 0 ∧ ¬ x < n)) : Nx last (l ++ [x]) n := by
  rcases h with ⟨h1, h2⟩ | ⟨h1, h2, h3, h4⟩
  · refine .inl ⟨h1, fun y hy => ?_⟩
    rcases List.mem_append.1 hy with hy | hy
    · exact h2 y hy
    · simp at hy; subst hy
      rcases hx with hx | hx
      · exact hx
      · omega
  · refine .inr ⟨List.mem_append.2 (.inl h1), h2, h3, fun y hy hl => ?_⟩
    rcases List.mem_append.1 hy with hy | hy
    · exact h4 y hy hl
    · simp at hy; subst hy
      rcases hx with hx | hx
      · exact absurd hl hx
      · omega
theorem nx_take {last n x : Int} {l : List Int} (h : Nx last l n) (hx0 : 0 ≤ x) (hx : last < x) (hn : n < 0 ∨ x < n) : Nx last (l ++ [x]) x := by
  refine .inr ⟨by simp, hx, hx0, fun y hy hl => ?_⟩
  rcases List.mem_append.1 hy with hy | hy
  · rcases h with ⟨h1, h2⟩ | ⟨h1, h2, h3, h4⟩
    · exact absurd hl (h2 y hy)
    · have := h4 y hy hl; omega
  · simp at hy; omega
/-- last is what comes ahead of place j -/
def Last (Z : List Int) (j : Nat) (last : Int) : Prop := j ≤ Z.length ∧ (j = 0 → last = -1) ∧ (0 < j → Z[j - 1]? = some last)
theorem last_split {Z : List Int} (hZ : Z.Pairwise (· < ·)) (h0 : ∀ x ∈ Z, 0 ≤ x) {j : Nat} {last : Int} (h : Last Z j last) : ∀ (i : Nat) (x : Int), Z[i]? = some x → (last < x ↔ j ≤ i) := by
  intro i x hx
  obtain ⟨hj, h1, h2⟩ := h
  have hi : i < Z.length := (List.getElem?_eq_some_iff.1 hx).1
  have hix : Z[i] = x := (List.getElem?_eq_some_iff.1 hx).2
  by_cases hz : j = 0
  · have := h1 hz
    have := h0 x (List.mem_of_getElem? hx)
    omega
  · have hl := h2 (by omega)
    have hjl : j - 1 < Z.length := (List.getElem?_eq_some_iff.1 hl).1
    have hlx : Z[j - 1] = last := (List.getElem?_eq_some_iff.1 hl).2
    have hp := List.pairwise_iff_getElem.1 hZ
    constructor
    · intro hlt
      rcases Nat.lt_trichotomy i (j - 1) with h | h | h
      · have := hp i (j - 1) hi hjl h
        omega
      · subst h; omega
      · omega
    · intro hle
      have := hp (j - 1) i hjl hi (by omega)
      omega
theorem nx_end {L : List Int} {j : Nat} {last n : Int} (h0 : ∀ x ∈ L, 0 ≤ x) (hl : Last (setOf L) j last) (h : Nx last L n) : (n = -1 ∧ (setOf L).take j = setOf L) ∨ (0 ≤ n ∧ (setOf L)[j]? = some n ∧ Last (setOf L) (j + 1) n) := by
  have hZ := (setOf_set L).1
  have hs := last_split hZ (fun x hx => h0 x (mem_setOf.1 hx)) hl
  rcases h with ⟨h1, h2⟩ | ⟨h1, h2, h3, h4⟩
  · left
    refine ⟨h1, List.take_of_length_le ?_⟩
    rcases Nat.lt_or_ge j (setOf L).length with hlt | hge
    · have e := List.getElem?_eq_getElem hlt
      have := (hs j _ e).2 (Nat.le_refl _)
      exact absurd this (h2 _ (mem_setOf.1 (List.mem_of_getElem? e)))
    · exact hge
  · right
    obtain ⟨i, hi, hin⟩ := List.getElem_of_mem (mem_setOf.2 h1)
    have e : (setOf L)[i]? = some n := by rw [List.getElem?_eq_getElem hi, hin]
    have hji := (hs i n e).1 h2
    have hij : i = j := by
      rcases Nat.lt_or_ge j i with hlt | hge
      · have hjl : j < (setOf L).length := by omega
        have ej := List.getElem?_eq_getElem hjl
        have h5 := (hs j _ ej).2 (Nat.le_refl _)
        have h6 := h4 _ (mem_setOf.1 (List.mem_of_getElem? ej)) h5
        have h7 := List.pairwise_iff_getElem.1 hZ j i hjl hi hlt
        omega
      · omega
    subst hij
    exact ⟨h3, e, by omega, fun h => by omega, fun _ => by simpa using e⟩
theorem last_zero (Z : List Int) : Last Z 0 (-1) := ⟨Nat.zero_le _, fun _ => rfl, fun h => absurd h (by omega)⟩

end So
end Go.Proofs.YtlajdmjpobckhaaGreatDoor
/- Contracts: the document's Number answers the number and the error of the plain definition, for every text and every int, and turns nothing in memory. -/
namespace Go.Proofs.YtlajdmjpobckhaaGreatDoor
open Go.RowKit
namespace NumW

end NumW
end Go.Proofs.YtlajdmjpobckhaaGreatDoor
