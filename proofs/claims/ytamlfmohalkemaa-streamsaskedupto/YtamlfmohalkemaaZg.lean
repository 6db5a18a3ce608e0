/- Layer 8: Of: the stream of a list of texts. -/
import Derived.Sort.OwnSorted
import Derived.Laws.EntriesVeiled
import Derived.Test.YtamlfmohalkemaaShT
import Derived.Test.YtamlfmohalkemaaZf
namespace Go.Proofs.Ytamlfmohalkemaa
open Go.RowKit Go.Shelf
namespace Sm
open Go.Sort

abbrev bys (A : List Tx) : List (List UInt8) := A.map fun z => z.data.toList
theorem enc_bys (A : List Tx) : (bys A).map encStr = txs A := by
  simp only [bys, txs, List.map_map]
  refine List.map_congr_left fun a _ => ?_
  simp [encStr]
theorem enc_txB (l : List UInt8) : encStr l = .string (txB l) := rfl
theorem getD_tx {L : List Tx} {j : Nat} (h : j < L.length) : L[j]? = some (L.getD j ByteArray.empty) := by
  rw [List.getElem?_eq_getElem h]
  simp [List.getD, List.getElem?_eq_getElem h]

theorem clone_tx {w : World} {v : Value} {A : List Tx} {B : Nat} (h : RowAt w v A B) (hz : A.length ≤ 8796093022208) :
    Calls Try.prog 24 #[v] w fun e w' => ∃ v', e = .returned v' ∧ Own w' v' A ∧ (∀ g, v'.ownBlock = some g → w.heap.size ≤ g) ∧ Below w.heap.size w w' := by
  obtain ⟨ao, c, rfl, hat⟩ := h
  rcases ao with _ | ⟨g, off, sp⟩
  · have hA : A = [] := by
      rcases Nat.eq_zero_or_pos A.length with h | h
      · exact List.eq_nil_of_length_eq_zero h
      · obtain ⟨g, off, e, _⟩ := hat h; cases e
    subst hA
    refine (Try.slices_Clone_string_nil _ _ w).mono ?_
    rintro e w' ⟨rfl, rfl⟩
    exact ⟨_, rfl, World.ownsRow_nil _ _ _ _, (fun g hg => by cases hg), Below.refl _ _⟩
  · rcases Nat.eq_zero_or_pos A.length with h | h
    · have hA := List.eq_nil_of_length_eq_zero h
      subst hA
      refine (Try.slices_Clone_string_zero _ _ w).mono ?_
      rintro e w' ⟨v', rfl, ho, _, hb⟩
      exact ⟨_, rfl, ⟨ho.1, ho.2.imp id fun ⟨g, cap, cur, a, _, b⟩ => ⟨g, cap, cur, a, Nat.zero_le _, b⟩⟩, fun g hg => (ho.lt g hg).1, hb⟩
    · obtain ⟨g', off', e, hg, hc⟩ := hat h
      injection e with e
      injection e with e1 e2 e3
      subst e1 e2 e3
      refine (Try.slices_Clone_string g off A.length c A w (Nat.le_refl _) (by omega) (fun j hj => hc j _ (getD_tx hj))).mono ?_
      rintro e w' ⟨v', rfl, ho, _, hb⟩
      rw [List.take_length] at ho
      exact ⟨_, rfl, ⟨ho.1, ho.2.imp id fun ⟨g, cap, cur, a, _, b⟩ => ⟨g, cap, cur, a, Nat.zero_le _, b⟩⟩, fun g hg => (ho.lt g hg).1, hb⟩

/-- the sorted list -/
def srt (A : List Tx) : List Tx := ((bys A).mergeSort fun x y => decide (x ≤ y)).map txB
theorem srt_len (A : List Tx) : (srt A).length = A.length := by simp [srt, bys]
theorem bys_srt (A : List Tx) : bys (srt A) = (bys A).mergeSort fun x y => decide (x ≤ y) := by
  simp only [srt, bys, List.map_map]
  rw [show (fun z : Tx => z.data.toList) ∘ txB = id from funext fun l => by simp [txB], List.map_id]
theorem compact_srt (A : List Tx) : (Lib.compact (bys (srt A))).map txB = ofS A := by rw [bys_srt]; rfl

theorem sort_tx {w : World} {v : Value} {A : List Tx} (h : Own w v A) (hz : A.length ≤ 8796093022208) :
    Calls Try.prog 25 #[v] w fun e w' => e = .returned (.tuple #[]) ∧ Own w' v (srt A) ∧ Chg (fun b => v.ownBlock = some b) w w' := by
  rcases Nat.eq_zero_or_pos A.length with h0 | h0
  · have hA := List.eq_nil_of_length_eq_zero h0
    subst hA
    obtain ⟨a, c, rfl⟩ := h.slice
    refine (Try.slices_Sort_string_none _ _ w).mono ?_
    rintro e w' ⟨rfl, rfl⟩
    exact ⟨rfl, by rw [show srt [] = [] by simp [srt, bys]]; exact h, Chg.refl _ _⟩
  · rcases h.2 with ⟨e1, e2⟩ | ⟨g, cap, cur, rfl, hbs, hb, h1, h2, h3, h4⟩
    · omega
    · rw [Nat.mul_one] at h4
      have hl : (bys A).length = A.length := by simp [bys]
      have q := Try.slices_Sort_string g 0 cap (bys A) w (holds_of_block hb (by rw [hl, enc_bys]; exact h4)) ((Array.getElem?_eq_some_iff.1 hb).1) (by omega)
      rw [hl] at q
      refine q.mono ?_
      rintro e w' ⟨rfl, n, os, rfl⟩
      have hl2 : ((bys A).mergeSort fun x y => decide (x ≤ y)).length = (bys A).length := by simp
      have ho := ownsRow_sorted (base := 0) (n := n) (os := os) hl2 (Nat.zero_le g) hb (by omega) h2 h3
      refine ⟨rfl, ?_, (Chg.refl _ w).grown (grownBy_sorted _) fun k hk => .inl (by rw [← hk]; rfl)⟩
      have e3 : ((bys A).mergeSort fun x y => decide (x ≤ y)).map encStr = txs (srt A) := by rw [← bys_srt, enc_bys]
      rw [e3, hl, ← srt_len A] at ho
      unfold Own
      have e4 : (srt A).length = A.length := srt_len A
      rw [e4] at ho ⊢
      exact ho

theorem compact_tx {w : World} {v : Value} {A : List Tx} (h : Own w v A) (hz : A.length ≤ 8796093022208) :
    Calls Try.prog 26 #[v] w fun e w' => ∃ v', e = .returned v' ∧ CRow w' v' ((Lib.compact (bys A)).map txB) (fun g => v.ownBlock = some g) ∧ Chg (fun b => v.ownBlock = some b) w w' := by
  rcases Nat.eq_zero_or_pos A.length with h0 | h0
  · have hA := List.eq_nil_of_length_eq_zero h0
    subst hA
    obtain ⟨a, c, rfl⟩ := h.slice
    refine (Try.slices_Compact_string_empty _ _ w).mono ?_
    rintro e w' ⟨rfl, rfl⟩
    exact ⟨_, rfl, h.crow, Chg.refl _ _⟩
  · rcases h.2 with ⟨e1, e2⟩ | ⟨g, cap, cur, rfl, hbs, hb, h1, h2, h3, h4⟩
    · omega
    · rw [Nat.mul_one] at h4
      have hl : (bys A).length = A.length := by simp [bys]
      have q := Try.slices_Compact_string g 0 cap (bys A) w (holds_of_block hb (by rw [hl, enc_bys]; exact h4)) (by omega) (by omega)
      rw [hl] at q
      refine q.mono ?_
      rintro e w' ⟨rfl, n, rfl⟩
      have eg : ∀ W : World, grow W #[] = W := fun W => by simp [grow]
      have hh := heap_sorted (n := n) (os := #[]) (Lib.compact (bys A) ++ List.replicate (A.length - (Lib.compact (bys A)).length) []).toArray hb
      have hgr := grownBy_sorted (w := w) (g := g) (n := n) (os := #[]) (Lib.compact (bys A) ++ List.replicate (A.length - (Lib.compact (bys A)).length) []).toArray
      rw [eg] at hh hgr
      have hcl : (Lib.compact (bys A)).length ≤ A.length := by
        have := List.length_filter_le (Lib.keeps (bys A).toArray) (List.range (bys A).length)
        rw [List.length_range, hl] at this
        simpa [Lib.compact, Lib.compactUpTo, hl] using this
      have hcg : Chg (fun b => (Value.slice (some ⟨g, 0, none⟩) A.length cap).ownBlock = some b) w _ := (Chg.refl _ w).grown hgr fun k hk => .inl (by rw [← hk]; rfl)
      refine ⟨_, rfl, ⟨_, _, by rw [List.length_map], by rw [List.length_map]; omega, fun hp => ⟨g, 0, rfl, rfl, Nat.lt_of_lt_of_le (Array.getElem?_eq_some_iff.1 hb).1 hcg.size, fun j x hj => ?_⟩⟩, hcg⟩
      have hjl := (List.getElem?_eq_some_iff.1 hj).1
      have hjl' : j < (Lib.compact (bys A)).length := by simpa using hjl
      have hcu : j < cur.size := by omega
      rw [List.getElem?_map, List.getElem?_eq_getElem hjl'] at hj
      simp only [Option.map_some, Option.some.injEq] at hj
      simp only [World.cell?, hh, Nat.zero_add]
      have hj3 : j < (Lib.compact (bys A)).length + (A.length - (Lib.compact (bys A)).length) := by omega
      simp [putCells, hcu, hj3, List.getElem_append_left, hjl']
      exact hj

theorem results_stream {fn : Func} {p : Tmp} (h : fn.results = #[.cell p 27]) {tmps : Array Value} {w : World} {g : Nat} {v : Value} (hp : tmps.getD p undef = .pointer (some ⟨g, 0, none⟩)) (hc : Boxed w g 27 v) :
    (results fn tmps).run Try.prog w = .ok (.agg #[v]) w :=
  results_cell_row h tmps w g _ #[v] (0, 0) _ hp hc Try.underlying27 rfl (by kernel_rfl)
set_option maxRecDepth 100000 in
set_option maxHeartbeats 1000000 in
theorem of_new {w : World} {v : Value} {A : List Tx} (h : RowAt w v A w.heap.size) (hz : A.length ≤ 8796093022208) :
    Calls Try.prog 8 #[v] w fun e w' => ∃ gf lb, e = .returned (.agg #[.func (.func gf) #[] lb]) ∧ (∀ W', w'.heap.size ≤ W'.heap.size → (∀ b, w.heap.size ≤ b → b < w'.heap.size → W'.heap[b]? = w'.heap[b]?) → Walks Try.prog gf lb (ofS A) W'.heap.size W') ∧ Below w.heap.size w w' := by
  have h' := h
  obtain ⟨ao, c, rfl, -⟩ := h'
  have H := hide h
  clear h
  go_enter Try.func8, Try.ntmps8
  go_wp2_with fail
  refine (clone_tx (B := w.heap.size) (A := A) ((unhide H).below ((Below.refl _ w).alloc (Nat.le_refl _) _)) hz).mono ?_
  rintro e w1 ⟨v1, rfl, ho1, hn1, hb1⟩
  obtain ⟨a1, c1, rfl⟩ := ho1.slice
  have b0 : Below w.heap.size w w1 := ((Below.refl _ w).alloc (Nat.le_refl _) (.cells #[.nilFunc] 27)).trans (hb1.mono (by simp))
  have bx0 : Boxed w1 w.heap.size 27 .nilFunc := (hb1.block _ (by simp)).trans (Boxed.new w _ _)
  have hs1 : w.heap.size + 1 ≤ w1.heap.size := by have := hb1.size; simpa using this
  have hn1' : ∀ g, (Value.slice a1 A.length c1).ownBlock = some g → w.heap.size + 1 ≤ g := fun g hg => by have := hn1 g hg; simpa using this
  have HO := hide (⟨ho1, hn1', b0, bx0⟩ : _ ∧ _ ∧ _ ∧ _)
  clear ho1 hn1 hb1 b0 bx0 hn1'
  go_wp2_with fail
  obtain ⟨ho1, hn1, b0, bx0⟩ := unhide HO
  have hbx := Boxed.new w1 24 (.slice a1 A.length c1)
  have hown := ho1.below ((Below.refl _ w1).alloc (Nat.le_refl _) (.cells #[.slice a1 A.length c1] 24))
  refine (sort_tx hown hz).mono ?_
  rintro e w2 ⟨rfl, ho2, hc2⟩
  have ng : ∀ g, (Value.slice a1 A.length c1).ownBlock = some g → g < w1.heap.size := fun g hg => (own_lt ho1 hg).2
  have bx2 : Boxed w2 w1.heap.size 24 (.slice a1 A.length c1) := (hc2.block _ (by simp) (fun e => by have := ng _ e; omega)).trans hbx
  have bx3 : Boxed w2 w.heap.size 27 .nilFunc := (hc2.block _ (by simp; omega) (fun e => by have := hn1 _ e; omega)).trans (bx0.alloc _)
  have b2 : Below w.heap.size w w2 := (b0.alloc (by omega) _).trans (hc2.below (by simp; omega) (fun b hb => by have := hn1 b hb; omega))
  have s2 : w1.heap.size + 1 ≤ w2.heap.size := by have := hc2.size; simpa using this
  have HO2 := hide (⟨ho2, hn1, ng, b2, bx2, bx3⟩ : _ ∧ _ ∧ _ ∧ _ ∧ _ ∧ _)
  have hcl := bx2.cell
  clear HO ho1 hn1 b0 bx0 hbx hown ho2 hc2 ng bx2 bx3 b2
  go_wp2_with fail
  obtain ⟨ho2, hn1, ng, b2, bx2, bx3⟩ := unhide HO2
  refine (compact_tx ho2 (by rw [srt_len]; exact hz)).mono ?_
  rintro e w3 ⟨v3, rfl, hr3, hc3⟩
  rw [compact_srt] at hr3
  have bx4 : Boxed w3 w1.heap.size 24 (.slice a1 A.length c1) := (hc3.block _ bx2.lt (fun e => by have := ng _ e; omega)).trans bx2
  have bx5 : Boxed w3 w.heap.size 27 .nilFunc := (hc3.block _ bx3.lt (fun e => by have := hn1 _ e; omega)).trans bx3
  have b3 : Below w.heap.size w w3 := b2.trans (hc3.below b2.size (fun b hb => by have := hn1 b hb; omega))
  have s3 : w1.heap.size + 1 ≤ w3.heap.size := Nat.le_trans s2 hc3.size
  have hr := hr3
  obtain ⟨a3, c3, rfl⟩ := hr3.slice
  obtain ⟨W, hW⟩ : ∃ W, W = (w3.setCell ⟨w1.heap.size, 0, none⟩ (.slice a3 (ofS A).length c3)).setCell ⟨w.heap.size, 0, none⟩ (.func (.func 27) #[] #[.pointer (some ⟨w1.heap.size, 0, none⟩)]) := ⟨_, rfl⟩
  have q1 := bx4.set (.slice a3 (ofS A).length c3)
  have q2 := bx5.other (B' := w1.heap.size) (by omega) (.slice a3 (ofS A).length c3)
  have q3 := q2.set (.func (.func 27) #[] #[.pointer (some ⟨w1.heap.size, 0, none⟩)])
  have q4 := q1.other (B' := w.heap.size) (by omega) (.func (.func 27) #[] #[.pointer (some ⟨w1.heap.size, 0, none⟩)])
  have sW : W.heap.size = w3.heap.size := by rw [hW]; simp [World.setCell]
  have hfin : ∀ W', W.heap.size ≤ W'.heap.size → (∀ b, w.heap.size ≤ b → b < W.heap.size → W'.heap[b]? = W.heap[b]?) → Walks Try.prog 27 #[.pointer (some ⟨w1.heap.size, 0, none⟩)] (ofS A) W'.heap.size W' := fun W' hs' hk' => by
    have q5 : Boxed W w1.heap.size 24 (.slice a3 (ofS A).length c3) := by rw [hW]; exact q4
    have q6 : Boxed W' w1.heap.size 24 (.slice a3 (ofS A).length c3) := (hk' _ (by omega) q5.lt).trans q5
    refine of1_walks (v := .slice a3 (ofS A).length c3) (by omega) q6.cell ?_ (Nat.le_trans (ofS_len A) hz)
    obtain ⟨ao', c', e, _, hat⟩ := hr
    refine ⟨ao', c', e, fun h0 => ?_⟩
    obtain ⟨g, off, e1, e2, e3, e4⟩ := hat h0
    have hgl := ng g e2
    have hgn := hn1 g e2
    refine ⟨g, off, e1, by omega, fun j x hj => ?_⟩
    rw [World.cell?_of_block (w := W) (hk' g (by omega) (by omega)), hW, World.cell?_of_block (w := w3) (((Below.heap_setCell _ _ _ _ (by show g ≠ w.heap.size; omega))).trans (Below.heap_setCell _ _ _ _ (by show g ≠ w1.heap.size; omega)))]
    exact e4 j x hj
  have hbel : Below w.heap.size w W := by
    rw [hW]
    exact (b3.setCell (p := ⟨w1.heap.size, 0, none⟩) (by show w.heap.size ≤ w1.heap.size; omega) _).setCell (p := ⟨w.heap.size, 0, none⟩) (Nat.le_refl _) _
  have HF := hide (⟨hfin, hbel, by rw [hW]; exact q3⟩ : _ ∧ _ ∧ Boxed W w.heap.size 27 (.func (.func 27) #[] #[.pointer (some ⟨w1.heap.size, 0, none⟩)]))
  have k1 := bx4.cell
  have k2 := bx4.frozen
  have k3 := bx5.cell
  have k4 := bx5.frozen
  have k8 := q2.cell
  have k9 := q2.frozen
  have k6 : ¬ w.heap.size = w1.heap.size := by omega
  have k7 : ¬ w1.heap.size = w.heap.size := by omega
  clear hfin hbel q1 q2 q3 q4 bx4 bx5 b3 hr hr3 hc3 ho2 hn1 ng b2 bx2 bx3 HO2
  go_wp2
  rw [← hW]
  refine bodyPost_ret (results_stream rfl (g := w.heap.size) rfl (unhide HF).2.2) rfl ?_
  exact ⟨_, _, rfl, (unhide HF).1, (unhide HF).2.1⟩
theorem of_any {w : World} {v : Value} {A : List Tx} (h : RowAt w v A w.heap.size) (hz : A.length ≤ 8796093022208) :
    Calls Try.prog 8 #[v] w fun e w' => ∃ gf lb, e = .returned (.agg #[.func (.func gf) #[] lb]) ∧ Walks Try.prog gf lb (ofS A) w'.heap.size w' ∧ Below w.heap.size w w' := by
  refine (of_new h hz).mono ?_
  rintro e w' ⟨gf, lb, rfl, h1, h2⟩
  exact ⟨gf, lb, rfl, h1 w' (Nat.le_refl _) fun _ _ _ => rfl, h2⟩
end Sm
end Go.Proofs.Ytamlfmohalkemaa
