/- Layer 9: rows of texts of one's own: one more behind, sorted, without repeats. -/
import Derived.Sort.OwnSorted
import Derived.RangeFuncBox
import Derived.Test.YtbapnoafjcipjaaGreatDoorShT
import Derived.Test.YtbapnoafjcipjaaGreatDoorGa
import Derived.Test.YtbapnoafjcipjaaGreatDoorZb
namespace Go.Proofs.YtbapnoafjcipjaaGreatDoor
open Go.RowKit Go.Shelf
namespace Rs
open Go.Sort
open Sm (Tx ofS ofB txB)
theorem append_blk {P : Program} (W : World) (t ty e : TypeId) (i : TypeInfo) (z : Value) (size bytes : Nat) (ht : P.underlying t = some (.slice e)) (hi : P.info? e = some i) (hz : i.zero = some z)
    (hsize : i.size = size) (hby : i.bytes = bytes) (hzs : z.cells.size = size) (hsz : 0 < size)
    (v : Value) (n : Nat) (xs : List Value) (hown : W.ownsRow 0 e size v n xs)
    (a : Addr) (m c : Nat) (news : List Value) (hl : news.length = m * size) (hnews : ∀ j u, news[j]? = some u → W.cell? (a.add j) = some u) (h1 : ∀ u ∈ news, u.oneCell' = true)
    (h63 : n + m ≤ maxLen) (hbytes : (n + m) * bytes ≤ 140737488355328) :
    ∃ v' W', (Builtin.append_ #[t, t] ty #[v, .slice (some a) m c]).run P W = .ok v' W' ∧ W'.ownsRow 0 e size v' (n + m) (xs ++ news) ∧ W.grownBy W' v.ownBlock ∧ (v'.ownBlock = v.ownBlock ∨ v'.ownBlock = some W.heap.size) := by
  obtain ⟨v', W', hr, h2, h3, h4⟩ := run_append_own (P := P) W 0 t ty e i z size bytes ht hi hz hsize hby hzs hsz v n xs hown a m c news hl hnews h1 h63 hbytes (Nat.zero_le _)
  refine ⟨v', W', hr, h2, h3, ?_⟩
  subst hsize hby
  rcases hown.2 with ⟨rfl, rfl⟩ | ⟨g, cap, cur, rfl, hbg, hg, hnc, hcm, hcs, htake⟩
  · by_cases hm : m = 0
    · left
      have := h4.2 ⟨rfl, hm⟩
      rw [this]
    · right
      have q := run_append_nil (P := P) W t ty e i z ht hi hz a m c news hl hnews (by omega) (by unfold maxLen at h63; omega) (by have hb := hbytes; simp only [Nat.zero_add] at hb; omega)
      rw [hr] at q
      injection q with q _
      rw [q]; rfl
  · by_cases hroom : n + m ≤ cap
    · left
      have hfit : n * i.size + news.length ≤ cur.size := by rw [hl, hcs, ← Nat.add_mul]; exact Nat.mul_le_mul_right _ hroom
      have q := run_append_room (P := P) W t ty e i ht hi g n cap cur hg a m c news hl hnews h1 hroom hfit
      rw [hr] at q
      injection q with q _
      rw [q]; rfl
    · right
      have q := run_append_grow (P := P) W t ty e i z ht hi hz ⟨g, 0, none⟩ n cap xs hown.1 (hown.cells (g := g) rfl) a m c news hl hnews (by omega) (by unfold maxLen at h63; omega) (growslice_fits (by unfold maxLen at h63; omega) hbytes)
      rw [hr] at q
      injection q with q _
      rw [q]; rfl

theorem own_lt {W : World} {B : Nat} {e : TypeId} {size n : Nat} {v : Value} {xs : List Value} (h : W.ownsRow B e size v n xs) {g : Nat} (hg : v.ownBlock = some g) : B ≤ g ∧ g < W.heap.size := h.lt g hg
abbrev txs (A : List Tx) : List Value := A.map .string
theorem info9 : (Tryz.prog.info? 9).map (fun i => (i.zero, i.size, i.bytes)) = some (some (.string ⟨#[]⟩), 1, 16) := by kernel_rfl
def Own (W : World) (v : Value) (A : List Tx) : Prop := W.ownsRow 0 9 1 v A.length (txs A)
theorem Own.slice {W : World} {v : Value} {A : List Tx} (h : Own W v A) : ∃ a c, v = .slice a A.length c := by
  rcases h.2 with ⟨e1, e2⟩ | ⟨g, cap, cur, e1, _⟩
  · exact ⟨none, 0, by rw [e1, e2]⟩
  · exact ⟨_, _, e1⟩
theorem Own.kept {W W' : World} {v : Value} {A : List Tx} (h : Own W v A) (hb : ∀ g, v.ownBlock = some g → W'.heap[g]? = W.heap[g]?) : Own W' v A := own_kept h hb
theorem Own.below {W W' : World} {v : Value} {A : List Tx} (h : Own W v A) (hb : Below W.heap.size W W') : Own W' v A := h.kept fun g hg => hb.block g (own_lt h hg).2
theorem own_cell {w : World} {g N c : Nat} {L : List Tx} (h : Own w (.slice (some ⟨g, 0, none⟩) N c) L) (hN : L.length = N) {j : Nat} {x : Tx} (hj : L[j]? = some x) : w.cell? ⟨g, j, none⟩ = some (.string x) := by
  subst hN
  have hl := (List.getElem?_eq_some_iff.1 hj).1
  rw [World.ownsRow.cellAt h j (by omega)]
  simp [txs, hj]
theorem push_tx {W : World} {v : Value} {A : List Tx} (x : Tx) (hown : Own W v A) (hz : A.length + 1 ≤ 8796093022208) (t ty : TypeId) (ht : Tryz.prog.underlying t = some (.slice 9)) :
    ∃ g c W', (Builtin.append_ #[t, t] ty #[v, .slice (some ⟨W.heap.size, 0, none⟩) 1 1]).run Tryz.prog (W.alloc (.cells #[.string x] 9)) = .ok (.slice (some ⟨g, 0, none⟩) (A.length + 1) c) W' ∧ Own W' (.slice (some ⟨g, 0, none⟩) (A.length + 1) c) (A ++ [x]) ∧ Chg (fun b => v.ownBlock = some b) W W' ∧ Up (fun b => v.ownBlock = some b) W W' g ∧ (∀ b, b < W.heap.size → v.ownBlock ≠ some b → b ≠ g) := by
  obtain ⟨i, hi, hz'⟩ := Option.map_eq_some_iff.1 info9
  simp only [Prod.mk.injEq] at hz'
  obtain ⟨hz0, hz1, hz2⟩ := hz'
  have hown1 : Own (W.alloc (.cells #[.string x] 9)) v A := hown.below ((Below.refl _ W).alloc (Nat.le_refl _) _)
  obtain ⟨v', W', hrun, ho, hg, hb⟩ := append_blk (P := Tryz.prog) (W.alloc (.cells #[.string x] 9)) t ty 9 i _ 1 16 ht hi hz0 hz1 hz2 rfl (by decide) v A.length (txs A) hown1 ⟨W.heap.size, 0, none⟩ 1 1 [.string x] rfl (cell_one_new _ _ _) (by simp [Value.oneCell']) (by unfold maxLen; omega) (by omega)
  obtain ⟨g, c, rfl⟩ := ownsRow_succ ho
  have hc : Chg (fun b => v.ownBlock = some b) W W' := ((Chg.refl _ W).alloc _).grown hg fun k hk => .inl hk
  have hlt := (own_lt ho (g := g) rfl).2
  have hgw : v.ownBlock = some g ∨ W.heap.size ≤ g := by
    rcases hb with e | e
    · exact .inl e.symm
    · have e : g = (W.alloc (.cells #[.string x] 9)).heap.size := by simpa [Value.ownBlock] using e
      rw [World.size_alloc] at e
      exact .inr (by omega)
  refine ⟨g, c, W', hrun, ?_, hc, ?_, fun b hb hn e => ?_⟩
  · unfold Own txs
    rw [List.length_append, List.map_append]
    exact ho
  · rcases hgw with e | e
    · exact .inl e
    · exact .inr ⟨e, hlt⟩
  · subst e
    rcases hgw with e | e
    · exact hn e
    · omega

def CRow (w : World) (v : Value) (R : List Tx) (G : Nat → Prop) : Prop :=
  ∃ ao c, v = .slice ao R.length c ∧ R.length ≤ c ∧ (0 < R.length → ∃ g off, ao = some ⟨g, off, none⟩ ∧ G g ∧ g < w.heap.size ∧ ∀ (j : Nat) x, R[j]? = some x → w.cell? ⟨g, off + j, none⟩ = some (.string x))
theorem CRow.slice {w : World} {v : Value} {R : List Tx} {G : Nat → Prop} (h : CRow w v R G) : ∃ a c, v = .slice a R.length c := by
  obtain ⟨ao, c, e, _⟩ := h
  exact ⟨ao, c, e⟩
theorem CRow.kept {w w' : World} {v : Value} {R : List Tx} {G : Nat → Prop} (h : CRow w v R G) (hG : ∀ g, G g → w'.heap[g]? = w.heap[g]?) : CRow w' v R G := by
  obtain ⟨ao, c, e, hc, hat⟩ := h
  refine ⟨ao, c, e, hc, fun h0 => ?_⟩
  obtain ⟨g, off, e1, e2, e3, e4⟩ := hat h0
  refine ⟨g, off, e1, e2, ?_, fun j x hj => (World.cell?_of_block (w := w) (hG g e2)).trans (e4 j x hj)⟩
  rcases Nat.lt_or_ge g w'.heap.size with h | h
  · exact h
  · have h1 := hG g e2
    rw [Array.getElem?_eq_none h, Array.getElem?_eq_getElem e3] at h1
    cases h1
theorem CRow.below {w w' : World} {v : Value} {R : List Tx} {G : Nat → Prop} (h : CRow w v R G) (hb : Below w.heap.size w w') : CRow w' v R G := by
  obtain ⟨ao, c, e, hc, hat⟩ := h
  refine ⟨ao, c, e, hc, fun h0 => ?_⟩
  obtain ⟨g, off, e1, e2, e3, e4⟩ := hat h0
  exact ⟨g, off, e1, e2, Nat.lt_of_lt_of_le e3 hb.size, fun j x hj => (hb.cell (p := ⟨g, off + j, none⟩) e3).trans (e4 j x hj)⟩
theorem Own.crow {W : World} {v : Value} {A : List Tx} (h : Own W v A) : CRow W v A (fun g => v.ownBlock = some g) := by
  rcases h.2 with ⟨e1, e2⟩ | ⟨g, cap, cur, e1, hbs, hb, h1, h2, h3, h4⟩
  · exact ⟨none, 0, by rw [e1, e2], by omega, fun h => by omega⟩
  · subst e1
    refine ⟨_, _, rfl, h1, fun h0 => ⟨g, 0, rfl, rfl, (Array.getElem?_eq_some_iff.1 hb).1, fun j x hj => ?_⟩⟩
    rw [Nat.zero_add]
    exact own_cell h rfl hj
abbrev bys (A : List Tx) : List (List UInt8) := A.map fun z => z.data.toList
theorem enc_bys (A : List Tx) : (bys A).map encStr = txs A := by
  simp only [bys, txs, List.map_map]
  refine List.map_congr_left fun a _ => ?_
  simp [encStr]
theorem enc_txB (l : List UInt8) : encStr l = .string (txB l) := rfl
def srt (A : List Tx) : List Tx := ((bys A).mergeSort fun x y => decide (x ≤ y)).map txB
theorem srt_len (A : List Tx) : (srt A).length = A.length := by simp [srt, bys]
theorem bys_srt (A : List Tx) : bys (srt A) = (bys A).mergeSort fun x y => decide (x ≤ y) := by
  simp only [srt, bys, List.map_map]
  rw [show (fun z : Tx => z.data.toList) ∘ txB = id from funext fun l => by simp [txB], List.map_id]
theorem compact_srt (A : List Tx) : (Lib.compact (bys (srt A))).map txB = ofS A := by rw [bys_srt]; rfl

theorem sort_tx {w : World} {v : Value} {A : List Tx} (h : Own w v A) (hz : A.length ≤ 8796093022208) :
    Calls Tryz.prog 47 #[v] w fun e w' => e = .returned (.tuple #[]) ∧ Own w' v (srt A) ∧ Chg (fun b => v.ownBlock = some b) w w' := by
  rcases Nat.eq_zero_or_pos A.length with h0 | h0
  · have hA := List.eq_nil_of_length_eq_zero h0
    subst hA
    obtain ⟨a, c, rfl⟩ := h.slice
    refine (Tryz.slices_Sort_string_none _ _ w).mono ?_
    rintro e w' ⟨rfl, rfl⟩
    exact ⟨rfl, by rw [show srt [] = [] by simp [srt, bys]]; exact h, Chg.refl _ _⟩
  · rcases h.2 with ⟨e1, e2⟩ | ⟨g, cap, cur, rfl, hbs, hb, h1, h2, h3, h4⟩
    · omega
    · rw [Nat.mul_one] at h4
      have hl : (bys A).length = A.length := by simp [bys]
      have q := Tryz.slices_Sort_string g 0 cap (bys A) w (holds_of_block hb (by rw [hl, enc_bys]; exact h4)) ((Array.getElem?_eq_some_iff.1 hb).1) (by omega)
      rw [hl] at q
      refine q.mono ?_
      rintro e w' ⟨rfl, n, os, rfl⟩
      have hl2 : ((bys A).mergeSort fun x y => decide (x ≤ y)).length = (bys A).length := by simp
      have ho := ownsRow_sorted (base := 0) (n := n) (os := os) hl2 (Nat.zero_le g) hb (by omega) h2 h3
      refine ⟨rfl, ?_, (Chg.refl _ w).grown (grownBy_sorted _) fun k hk => .inl (by rw [← hk]; rfl)⟩
      have e3 : ((bys A).mergeSort fun x y => decide (x ≤ y)).map encStr = txs (srt A) := by rw [← bys_srt, enc_bys]
      rw [e3, hl, ← srt_len A] at ho
      unfold Own
      have e4 : (srt A).length = A.length := srt_len A
      rw [e4] at ho ⊢
      exact ho

theorem compact_tx {w : World} {v : Value} {A : List Tx} (h : Own w v A) (hz : A.length ≤ 8796093022208) :
    Calls Tryz.prog 48 #[v] w fun e w' => ∃ v', e = .returned v' ∧ CRow w' v' ((Lib.compact (bys A)).map txB) (fun g => v.ownBlock = some g) ∧ Chg (fun b => v.ownBlock = some b) w w' ∧ ∃ T : List Tx, ((Lib.compact (bys A)).map txB ++ T).length = A.length ∧ Own w' v ((Lib.compact (bys A)).map txB ++ T) ∧ (0 < A.length → ∃ a c, v = .slice a A.length c ∧ v' = .slice a ((Lib.compact (bys A)).map txB).length c) := by
  rcases Nat.eq_zero_or_pos A.length with h0 | h0
  · have hA := List.eq_nil_of_length_eq_zero h0
    subst hA
    obtain ⟨a, c, rfl⟩ := h.slice
    refine (Tryz.slices_Compact_string_empty _ _ w).mono ?_
    rintro e w' ⟨rfl, rfl⟩
    exact ⟨_, rfl, h.crow, Chg.refl _ _, [], rfl, h, fun h => absurd h (by simp)⟩
  · rcases h.2 with ⟨e1, e2⟩ | ⟨g, cap, cur, rfl, hbs, hb, h1, h2, h3, h4⟩
    · omega
    · rw [Nat.mul_one] at h4
      have hl : (bys A).length = A.length := by simp [bys]
      have q := Tryz.slices_Compact_string g 0 cap (bys A) w (holds_of_block hb (by rw [hl, enc_bys]; exact h4)) (by omega) (by omega)
      rw [hl] at q
      refine q.mono ?_
      rintro e w' ⟨rfl, n, rfl⟩
      have eg : ∀ W : World, grow W #[] = W := fun W => by simp [grow]
      have hh := heap_sorted (n := n) (os := #[]) (Lib.compact (bys A) ++ List.replicate (A.length - (Lib.compact (bys A)).length) []).toArray hb
      have hgr := grownBy_sorted (w := w) (g := g) (n := n) (os := #[]) (Lib.compact (bys A) ++ List.replicate (A.length - (Lib.compact (bys A)).length) []).toArray
      rw [eg] at hh hgr
      have hcl : (Lib.compact (bys A)).length ≤ A.length := by
        have := List.length_filter_le (Lib.keeps (bys A).toArray) (List.range (bys A).length)
        rw [List.length_range, hl] at this
        simpa [Lib.compact, Lib.compactUpTo, hl] using this
      have hcg : Chg (fun b => (Value.slice (some ⟨g, 0, none⟩) A.length cap).ownBlock = some b) w _ := (Chg.refl _ w).grown hgr fun k hk => .inl (by rw [← hk]; rfl)
      have hts : (Lib.compact (bys A) ++ List.replicate (A.length - (Lib.compact (bys A)).length) []).length = (bys A).length := by rw [List.length_append, List.length_replicate, hl]; omega
      have how := ownsRow_sorted (base := 0) (n := n) (os := #[]) (ss := bys A) hts (Nat.zero_le g) hb (by omega) h2 h3
      rw [eg] at how
      have how2 : ∀ W : World, W.ownsRow 0 9 1 (.slice (some ⟨g, 0, none⟩) (bys A).length cap) (bys A).length ((Lib.compact (bys A) ++ List.replicate (A.length - (Lib.compact (bys A)).length) []).map encStr) → Own W (.slice (some ⟨g, 0, none⟩) A.length cap) ((Lib.compact (bys A) ++ List.replicate (A.length - (Lib.compact (bys A)).length) []).map txB) := fun W how => by
        unfold Own
        have e5 : (Lib.compact (bys A) ++ List.replicate (A.length - (Lib.compact (bys A)).length) []).map encStr = txs ((Lib.compact (bys A) ++ List.replicate (A.length - (Lib.compact (bys A)).length) []).map txB) := by
          simp only [txs, List.map_map]
          rfl
        rw [e5, hl] at how
        rw [List.length_map, hts, hl]
        exact how
      refine ⟨_, rfl, ⟨_, _, by rw [List.length_map], by rw [List.length_map]; omega, fun hp => ⟨g, 0, rfl, rfl, Nat.lt_of_lt_of_le (Array.getElem?_eq_some_iff.1 hb).1 hcg.size, fun j x hj => ?_⟩⟩, hcg, (List.replicate (A.length - (Lib.compact (bys A)).length) []).map txB, by rw [← List.map_append, List.length_map, hts, hl], by rw [← List.map_append]; exact how2 _ how, fun _ => ⟨_, _, rfl, by rw [List.length_map]⟩⟩
      have hjl := (List.getElem?_eq_some_iff.1 hj).1
      have hjl' : j < (Lib.compact (bys A)).length := by simpa using hjl
      have hcu : j < cur.size := by omega
      rw [List.getElem?_map, List.getElem?_eq_getElem hjl'] at hj
      simp only [Option.map_some, Option.some.injEq] at hj
      simp only [World.cell?, hh, Nat.zero_add]
      have hj3 : j < (Lib.compact (bys A)).length + (A.length - (Lib.compact (bys A)).length) := by omega
      simp [putCells, hcu, hj3, List.getElem_append_left, hjl']
      exact hj

end Rs
end Go.Proofs.YtbapnoafjcipjaaGreatDoor
