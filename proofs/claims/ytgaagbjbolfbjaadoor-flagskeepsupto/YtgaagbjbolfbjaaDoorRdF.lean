/- Contract: flags.Read, given what flags.cut answers: the set of the flags that the pieces write, or the error. -/
import Derived.Test.YtgaagbjbolfbjaaDoorOneW
import Derived.Test.YtgaagbjbolfbjaaDoorSoO
import Derived.Test.YtgaagbjbolfbjaaDoorArgS
namespace Go.Proofs.YtgaagbjbolfbjaaDoor
open Go.Sort Go.RowKit
namespace So

/-- the error of a list of flags, 0 standing for what is none -/
def readE (V : List Int) : Int := if 0 ∈ V then 31 else if 64 < V.length then 32 else 0
/-- the first k flags lie in the block g -/
def Fill (g n : Nat) (V : List Int) (k : Nat) (W : World) : Prop := ∃ cur, W.heap[g]? = some (.cells cur 25 (0, 0)) ∧ n = cur.size ∧ cur.toList.take k = (V.take k).map encF
theorem set_heap {W : World} {g k : Nat} {cur : Array Value} {t : TypeId} {fr : Nat × Nat} (h : W.heap[g]? = some (.cells cur t fr)) (v : Value) : (W.setCell ⟨g, k, none⟩ v).heap[g]? = some (.cells (cur.setIfInBounds k v) t fr) := by
  rw [setCell_eq]
  show (W.heap.modify g _)[g]? = _
  rw [Array.getElem?_modify, if_pos rfl, h]
  rfl
theorem set_below {W : World} {g k : Nat} (v : Value) : Go.RowKit.Below g W (W.setCell ⟨g, k, none⟩ v) := by
  rw [setCell_eq]
  refine ⟨rfl, rfl, rfl, ?_, fun j hj => ?_⟩
  · show W.heap.size ≤ (W.heap.modify g _).size
    simp
  · show (W.heap.modify g _)[j]? = _
    rw [Array.getElem?_modify, if_neg (by omega)]
theorem Fill.cell {g n k : Nat} {V : List Int} {W : World} (h : Fill g n V k W) (hk : k < n) : (∃ u, W.cell? ⟨g, k, none⟩ = some u) ∧ W.frozen? ⟨g, k, none⟩ = false := by
  obtain ⟨cur, h1, h2, _⟩ := h
  constructor
  · refine ⟨cur[k], ?_⟩
    simp only [World.cell?, h1]
    simp
  · simp [World.frozen?, h1]
theorem Fill.drewN {g n k : Nat} {V : List Int} {W : World} (h : Fill g n V k W) (q : Nat) : Fill g n V k (W.drewN q) := h
theorem Fill.set {g n k : Nat} {V : List Int} {W : World} (h : Fill g n V k W) (hk : k < n) {x : Int} (hx : V[k]? = some x) : Fill g n V (k + 1) (W.setCell ⟨g, k, none⟩ (encF x)) := by
  obtain ⟨cur, h1, h2, h3⟩ := h
  refine ⟨_, set_heap h1 _, by simpa using h2, ?_⟩
  have hkl : k < V.length := (List.getElem?_eq_some_iff.1 hx).1
  have hkx : V[k] = x := (List.getElem?_eq_some_iff.1 hx).2
  rw [List.take_succ_eq_append_getElem hkl, hkx, List.map_append, ← h3]
  have hks : k < cur.size := by omega
  rw [List.take_succ_eq_append_getElem (by simpa using hks)]
  congr 1
  · simp [List.take_set_of_le]
  · simp
theorem Fill.row {g n : Nat} {V : List Int} {W : World} (h : Fill g n V n W) (hn : V.length = n) (hm : n ≤ maxLen) : FRow g W (.slice (some ⟨g, 0, none⟩) n n) V := by
  obtain ⟨cur, h1, h2, h3⟩ := h
  exact ⟨g, n, cur, by rw [hn], Nat.le_refl _, h1, by omega, hm, h2, by rw [hn, h3, ← hn, List.take_length]⟩

set_option maxRecDepth 100000 in
set_option maxHeartbeats 8000000 in
theorem read_with (kind : Int) (s : ByteArray) (P : List ByteArray) (w : World) (hk : One.isK kind = true) (hn : P.length ≤ 1099511627776) (hz : ∀ p ∈ P, p.size ≤ maxLen)
    (hcut : Calls Tryd.prog 25 #[.int .i64 kind, .string s] w fun e w' => ∃ u, e = .returned u ∧ ArgS.StrsAt w' u P ∧ Go.RowKit.Below w.heap.size w w') :
    Calls Tryd.prog 19 #[.int .i64 kind, .string s] w fun e w' => ∃ u, e = .returned (.tuple #[u, .int .i64 (readE (P.map fun p => One.val kind p.data.toList))]) ∧ Go.RowKit.Below w.heap.size w w' ∧
      (readE (P.map fun p => One.val kind p.data.toList) = 0 → ∃ l, IsSet l (P.map fun p => One.val kind p.data.toList) ∧ FRow w.heap.size w' u l) ∧ (readE (P.map fun p => One.val kind p.data.toList) ≠ 0 → u = .slice none 0 0) := by
  obtain ⟨i0, hi, hz0, hz1, hz2⟩ := info_parts infoF
  obtain ⟨V, hV⟩ : ∃ V, V = P.map fun p => One.val kind p.data.toList := ⟨_, rfl⟩
  have hVl : V.length = P.length := by rw [hV]; simp
  have HO : Hid (∀ (k : Nat) p x W, P[k]? = some p → V[k]? = some x → Calls Tryd.prog 26 #[.int .i64 kind, .string p] W fun e w' => e = .returned (.tuple #[.int .u16 x, .int .i64 (if x = 0 then 31 else 0)]) ∧ ∃ n, w' = W.drewN n) := fun k p x W hp hx => by
    refine (One.one_any kind p W (hz p (List.mem_of_getElem? hp))).mono ?_
    rintro e w' ⟨rfl, h⟩
    have ex : x = One.val kind p.data.toList := by
      rw [hV] at hx
      simp [hp] at hx
      exact hx.symm
    rw [One.oneF, One.oneE, if_pos hk, if_pos hk, ex]
    exact ⟨rfl, h⟩
  have HKK := hide (fun W => One.kind_any kind W)
  rw [hk] at HKK
  rw [← hV]
  have HC := hide hcut
  clear hV hcut hk hz
  generalize hnn : P.length = n at *
  have HN := hide hnn
  have HVL := hide hVl
  clear hnn hVl
  have hnz : (n : Int) ≤ 1099511627776 := by omega
  go_enter Tryd.func19, Tryd.ntmps19
  go_wp2_with (first
    | (go_at_call 24; refine (unhide HKK _).mono ?_; rintro e w0 ⟨rfl, hw0⟩; obtain rfl := hw0.symm)
    | (go_at_call 25; refine (unhide HC).mono ?_; rintro e w1 ⟨u, rfl, hP, hB1⟩; obtain ⟨ao, cap, rfl, hcp, hcell⟩ := hP.form; rw [unhide HN] at hcp ⊢; have HCE := hide hcell; obtain ⟨w2, hrun, hown, hgrow⟩ := run_make_full (P := Tryd.prog) w1 w1.heap.size 22 25 i0 (.int .u16 0) 1 Tryd.underlying22 hi hz0 hz1 .i64 .i64 n (by rw [hz2]; omega) (by unfold maxLen; omega) (Nat.le_refl _); have HOW := hide hown; have HGR := hide hgrow; have HB1 := hide hB1; clear hP hcell hown hgrow hB1))
  have HF0 : Hid (Fill w1.heap.size n V 0 w2) := by
    obtain ⟨_, ⟨e0, _⟩ | ⟨g, cap1, cur, e1, hg, hh, hc1, hm1, hs1, _⟩⟩ := unhide HOW
    · cases e0
    · injection e1 with e1 _ e3
      injection e1 with e1
      injection e1 with e1 _ _
      rw [← e1] at hh
      exact ⟨cur, hh, by omega, by simp⟩
  have HB2 : Hid (Go.RowKit.Below w1.heap.size w1 w2) := (Go.RowKit.Below.refl _ w1).grown (unhide HGR) (Nat.le_refl _) (fun k e => by cases e)
  clear HOW HGR hrun hi hz0 hz1 hz2
  have hnm : n ≤ maxLen := by unfold maxLen; omega
  obtain ⟨G, hG⟩ : ∃ G, G = w1.heap.size := ⟨_, rfl⟩
  have HGG := hide hG
  have HGE : Hid (w.heap.size ≤ G) := by rw [Hid, hG]; exact (unhide HB1).size
  have HNV : Hid (∀ (k : Nat) x, V[k]? = some x → (∀ y ∈ V.take k, y ≠ 0) → x ≠ 0 → ∀ y ∈ V.take (k + 1), y ≠ 0) := fun k x hx h h2 y hy => by
    have hkl : k < V.length := (List.getElem?_eq_some_iff.1 hx).1
    rw [List.take_succ_eq_append_getElem hkl, (List.getElem?_eq_some_iff.1 hx).2] at hy
    rcases List.mem_append.1 hy with hy | hy
    · exact h y hy
    · simp at hy; subst hy; exact h2
  have HBAD : Hid (∀ k : Nat, V[k]? = some 0 → readE V = 31) := fun k hx => by rw [readE, if_pos (List.mem_of_getElem? hx)]
  rw [← hG] at HF0 HB2 ⊢
  clear hG
  go_loopw [23] (fun vi wr => ∃ k : Nat, vi = .int .i64 k ∧ k ≤ n ∧ Hid (Fill G n V k wr) ∧ Hid (Go.RowKit.Below G w1 wr) ∧ Hid (∀ y ∈ V.take k, y ≠ 0)) (fun vi _ => n - (intOf vi).toNat)
  case atStart => exact ⟨0, rfl, Nat.zero_le _, HF0, HB2, hide (fun y hy => by simp at hy)⟩
  case round =>
    obtain ⟨k, rfl, hk, HF, HB, HNZ⟩ := hrel
    by_cases hlt : k < n
    · have hltz : (k : Int) < (n : Int) := by omega
      obtain ⟨p, hp⟩ : ∃ p, P[k]? = some p := ⟨_, List.getElem?_eq_getElem (by rw [unhide HN]; exact hlt)⟩
      obtain ⟨gp, op, rfl, hgp, hcp2⟩ := unhide HCE k p hp
      have hcw : wr.cell? ⟨gp, op + k, none⟩ = some (.string p) := ((unhide HB).cell (p := ⟨gp, op + k, none⟩) (by show gp < G; rw [unhide HGG]; exact hgp)).trans hcp2
      obtain ⟨⟨u0, hcu⟩, hfu⟩ := (unhide HF).cell hlt
      obtain ⟨x, hx⟩ : ∃ x, V[k]? = some x := ⟨_, List.getElem?_eq_getElem (by rw [unhide HVL]; exact hlt)⟩
      have HOK := hide (fun W => unhide HO k p x W hp hx)
      have HX := hide hx
      clear hp hcp2 hgp hx
      by_cases hx0 : x = 0
      · subst hx0
        rw [if_pos rfl] at HOK
        have HR : Hid (readE V = 31) := unhide HBAD k (unhide HX)
        go_wp2_with (go_at_call 26; refine (unhide HOK _).mono ?_; rintro e w3 ⟨rfl, n3, hw3⟩; obtain rfl := hw3.symm)
        have HBF : Hid (Go.RowKit.Below w.heap.size w (wr.drewN n3)) := (unhide HB1).trans (below_drewN ((unhide HB).mono (unhide HGE)) n3)
        go_ret2
        rw [unhide HR]
        exact ⟨_, rfl, unhide HBF, fun h => (by cases h), fun _ => rfl⟩
      · rw [if_neg hx0] at HOK
        have HNZ2 := hide (unhide HNV k x (unhide HX) (unhide HNZ) hx0)
        clear hx0
        go_wp2_with (go_at_call 26; refine (unhide HOK _).mono ?_; rintro e w3 ⟨rfl, n3, hw3⟩; obtain rfl := hw3.symm)
        go_roundw
        case rel => exact ⟨k + 1, by go_num, by omega, hide (((unhide HF).drewN n3).set hlt (unhide HX)), hide ((below_drewN (unhide HB) n3).trans (set_below _)), HNZ2⟩
        case measure => simp [intOf]; omega
    · obtain rfl : k = n := by omega
      have hltz : ¬ (k : Int) < (k : Int) := by omega
      have HROW := hide ((unhide HF).row (unhide HVL) hnm)
      have hno : 0 ∉ V := fun h => unhide HNZ 0 (by rw [← unhide HVL, List.take_length]; exact h) rfl
      have HBW : Hid (Go.RowKit.Below w.heap.size w wr) := (unhide HB1).trans ((unhide HB).mono (unhide HGE))
      by_cases h64 : 64 < k
      · have h64z : (64 : Int) < (k : Int) := by omega
        have HR : Hid (readE V = 32) := by rw [Hid, readE, if_neg hno, if_pos (by rw [unhide HVL]; exact h64)]
        clear hno
        go_wp2
        go_ret2
        rw [unhide HR]
        exact ⟨_, rfl, unhide HBW, fun h => (by cases h), fun _ => rfl⟩
      · have h64z : ¬ (64 : Int) < (k : Int) := by omega
        have HR : Hid (readE V = 0) := by rw [Hid, readE, if_neg hno, if_neg (by rw [unhide HVL]; exact h64)]
        have HOF := hide (of_any _ V wr (unhide HROW).arg (by rw [unhide HVL]; omega))
        clear hno
        go_wp2_with (go_at_call 7; refine (unhide HOF).mono ?_; rintro e w4 ⟨u4, l, rfl, h4, hF4, hB4⟩; have H4 := hide h4; have HF4 := hide hF4; have HB4 := hide hB4; clear h4 hF4 hB4)
        go_ret2
        rw [unhide HR]
        exact ⟨u4, rfl, (unhide HBW).trans ((unhide HB4).mono (unhide HBW).size), fun _ => ⟨l, unhide H4, (unhide HF4).low (unhide HBW).size⟩, fun h => absurd rfl h⟩
end So
end Go.Proofs.YtgaagbjbolfbjaaDoor
