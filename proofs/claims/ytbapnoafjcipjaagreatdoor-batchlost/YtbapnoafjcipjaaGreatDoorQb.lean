/- Layer 9: the document's Of (layer 8's). -/
import Derived.Test.YtbapnoafjcipjaaGreatDoorQa
namespace Go.Proofs.YtbapnoafjcipjaaGreatDoor
open Go.RowKit Go.Shelf
namespace Rs
open Sm (Tx ofS lt lt_def lt_tr lt_tri rs_nil rs_cons rs_snoc rs_ext ofS_rs ofS_mem ofS_len)
namespace Kz

theorem ofS_nil : ofS [] = [] := rs_ext (ofS_rs _) rs_nil fun x => by rw [ofS_mem]
theorem ofS_one (x : Tx) : ofS [x] = [x] := rs_ext (ofS_rs _) (by simp [Sm.Rs]) fun z => by rw [ofS_mem]
theorem ofS_halves (A C : List Tx) : ofS (ofS A ++ ofS C) = ofS (A ++ C) := rs_ext (ofS_rs _) (ofS_rs _) fun z => by rw [ofS_mem, ofS_mem, List.mem_append, List.mem_append, ofS_mem, ofS_mem]
theorem own_one (w : World) (x : Tx) : Own (w.alloc (.cells #[.string x] 9)) (.slice (some ⟨w.heap.size, 0, none⟩) 1 1) [x] :=
  ⟨by simp [txs], .inr ⟨w.heap.size, 1, #[.string x], rfl, Nat.zero_le _, World.alloc_heap_new w _, Nat.le_refl _, by unfold maxLen; omega, rfl, rfl⟩⟩

set_option maxRecDepth 100000 in
set_option maxHeartbeats 2000000 in
theorem rof_any : ∀ (m : Nat) (w : World) (v : Value) (A : List Tx), A.length ≤ m → CRow w v A (fun _ => True) → A.length ≤ 8796093022208 →
    Calls Tryz.prog 52 #[v] w fun e w' => ∃ a c, e = .returned (.slice a (ofS A).length c) ∧ Own w' (.slice a (ofS A).length c) (ofS A) ∧ (∀ g, (Value.slice a (ofS A).length c).ownBlock = some g → w.heap.size ≤ g) ∧ Below w.heap.size w w' := by
  intro m
  induction m with
  | zero =>
    intro w v A hm h hz
    have hA := List.eq_nil_of_length_eq_zero (Nat.le_zero.1 hm)
    subst hA
    obtain ⟨a, c, rfl⟩ := h.slice
    rw [ofS_nil]
    clear h hm hz
    simp only [List.length_nil]
    go_enter Tryz.func52, Tryz.ntmps52
    go_wp2
    go_ret
    exact ⟨none, 0, rfl, World.ownsRow_nil _ _ _ _, (fun g hg => by cases hg), Below.refl _ _⟩
  | succ m ih =>
    intro w v A hm h hz
    obtain ⟨a, c, rfl⟩ := h.slice
    by_cases h0 : A.length = 0
    · have hA := List.eq_nil_of_length_eq_zero h0
      subst hA
      rw [ofS_nil]
      clear h hm hz ih h0
      simp only [List.length_nil]
      go_enter Tryz.func52, Tryz.ntmps52
      go_wp2
      go_ret
      exact ⟨none, 0, rfl, World.ownsRow_nil _ _ _ _, (fun g hg => by cases hg), Below.refl _ _⟩
    · by_cases h1 : A.length = 1
      · obtain ⟨x, rfl⟩ := List.length_eq_one_iff.1 h1
        rw [ofS_one]
        obtain ⟨ao, c', e, hc, hat⟩ := h
        obtain ⟨g, off, rfl, _, hg, hcell⟩ := hat (by simp)
        injection e with e1 e2 e3
        subst e1 e3
        have k1 : w.cell? ⟨g, off, none⟩ = some (.string x) := hcell 0 x rfl
        have HF := hide (own_one w x)
        clear hm hz ih h0 h1 hat hcell hc e2
        simp only [List.length_singleton]
        go_enter Tryz.func52, Tryz.ntmps52
        go_wp2
        go_ret
        exact ⟨some ⟨w.heap.size, 0, none⟩, 1, rfl, unhide HF, fun g' hg' => by have e : w.heap.size = g' := by injection hg'
                                                                                omega, by (repeat (first | exact Below.refl _ _ | refine Below.drew ?_ | refine Below.alloc ?_ (by first | (simp; done) | (simp; omega)) _ | refine Below.setCell ?_ (by first | (simp; done) | (simp; omega)) _))⟩
      · have hn2 : 2 ≤ A.length := by omega
        have hcc : A.length ≤ c := by obtain ⟨ao', c', e, hc, hat⟩ := h; injection e with e1 e2 e3; omega
        obtain ⟨g, off, rfl, hg⟩ : ∃ g off, a = some ⟨g, off, none⟩ ∧ g < w.heap.size := by
          obtain ⟨ao', c', e, hc, hat⟩ := h
          injection e with e1 e2 e3
          obtain ⟨g, off, e4, _, e5, _⟩ := hat (by omega)
          exact ⟨g, off, by rw [e1, e4], e5⟩
        have H1 := hide (ih w (.slice (some ⟨g, off, none⟩) (A.length / 2) c) (A.take (A.length / 2)) (by simp; omega) (h.front (by omega)) (by simp; omega))
        have H2 := hide (fun W (hW : Below w.heap.size w W) => ih W (.slice (some ⟨g, off + A.length / 2, none⟩) (A.length - A.length / 2) (c - A.length / 2)) (A.drop (A.length / 2)) (by simp; omega) ((h.rest (by omega)).below hW) (by simp; omega))
        have HL : Hid (ofS (ofS (A.take (A.length / 2)) ++ ofS (A.drop (A.length / 2))) = ofS A) := by
          have := ofS_halves (A.take (A.length / 2)) (A.drop (A.length / 2))
          rw [List.take_append_drop] at this
          exact this
        have HRS := hide (⟨ofS_rs (A.take (A.length / 2)), ofS_rs (A.drop (A.length / 2))⟩ : _ ∧ _)
        have hl1 := ofS_len (A.take (A.length / 2))
        have hl2 := ofS_len (A.drop (A.length / 2))
        have hls : (ofS (A.take (A.length / 2))).length + (ofS (A.drop (A.length / 2))).length ≤ 8796093022208 := by
          simp only [List.length_take, List.length_drop] at hl1 hl2
          omega
        have hdv : ((A.length : Int)).tdiv 2 = ((A.length / 2 : Nat) : Int) := rfl
        have hh : A.length / 2 ≤ A.length := by omega
        have hh2 : ¬ c = A.length / 2 := by omega
        clear ih h hl1 hl2 hm
        generalize A.length / 2 = hf at *
        generalize ofS (A.take hf) = P1 at *
        generalize ofS (A.drop hf) = P2 at *
        go_enter Tryz.func52, Tryz.ntmps52
        go_wp2_with fail
        refine (unhide H1).mono ?_
        rintro e w1 ⟨a1, c1, rfl, ho1, hn1, hb1⟩
        have HF1 := hide (⟨ho1, hb1⟩ : _ ∧ _)
        clear ho1 hn1 hb1 H1
        go_wp2_with fail
        obtain ⟨ho1, hb1⟩ := unhide HF1
        refine (unhide H2 w1 hb1).mono ?_
        rintro e w2 ⟨a2, c2, rfl, ho2, hn2, hb2⟩
        have s1 := hb1.size
        have HF2 := hide (⟨ho1.below hb2, ho2, hb1.trans (hb2.mono s1)⟩ : _ ∧ _ ∧ _)
        clear HF1 ho1 hb1 ho2 hn2 hb2 H2
        go_wp2_with fail
        obtain ⟨ho1, ho2, hb2⟩ := unhide HF2
        have s2 := hb2.size
        refine (merge_any (own_row ho1) (own_row ho2) (unhide HRS).1 (unhide HRS).2 hls).mono ?_
        rintro e w3 ⟨a3, c3, rfl, ho3, hn3, hb3⟩
        rw [unhide HL] at ho3 hn3 ⊢
        have HF3 := hide (⟨ho3, fun g hg => Nat.le_trans s2 (hn3 g hg), hb2.trans (hb3.mono s2)⟩ : Own w3 (.slice a3 (ofS A).length c3) (ofS A) ∧ (∀ g, (Value.slice a3 (ofS A).length c3).ownBlock = some g → w.heap.size ≤ g) ∧ Below w.heap.size w w3)
        clear HF2 ho1 ho2 hb2 ho3 hn3 hb3
        go_wp2
        go_ret
        exact ⟨a3, c3, rfl, unhide HF3⟩
theorem rof {w : World} {v : Value} {A : List Tx} {G : Nat → Prop} (h : CRow w v A G) (hz : A.length ≤ 8796093022208) :
    Calls Tryz.prog 52 #[v] w fun e w' => ∃ a c, e = .returned (.slice a (ofS A).length c) ∧ Own w' (.slice a (ofS A).length c) (ofS A) ∧ (∀ g, (Value.slice a (ofS A).length c).ownBlock = some g → w.heap.size ≤ g) ∧ Below w.heap.size w w' :=
  rof_any A.length w v A (Nat.le_refl _) h.any hz
end Kz
end Rs
end Go.Proofs.YtbapnoafjcipjaaGreatDoor
