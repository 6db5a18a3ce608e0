/- Layer 8: a cursor: what is left of a list that is cut off from its beginning; begin, from. -/
import Derived.WalkSpells
import Derived.WalkLawsBesides
import Derived.Test.YtamlfmohalkemaaZj
namespace Go.Proofs.Ytamlfmohalkemaa
open Go.RowKit Go.Shelf
namespace Sm

set_option maxRecDepth 100000 in
theorem begin_any {sv : Value} {L : List Tx} {B : Nat} {w₀ w : World} (h : Gives Try.prog sv L B w₀) (hb : Below B w₀ w) (hB : B ≤ w.heap.size) (hz : L.length ≤ 8796093022208) :
    Calls Try.prog 42 #[.agg #[sv]] w fun e w' => ∃ sl, e = .returned sl ∧ Own w' sl L ∧ (∀ g, sl.ownBlock = some g → w.heap.size + 1 ≤ g) ∧ Below w.heap.size w w' := by
  have H := hide h
  have HB := hide hb
  clear h hb
  go_enter Try.func42, Try.ntmps42
  go_wp2_with fail
  have b0 : Below w.heap.size w (w.alloc (.cells #[sv] 27)) := (Below.refl _ w).alloc (Nat.le_refl _) _
  refine (list_any (unhide H) ((unhide HB).trans (b0.mono hB)) (by simp; omega) hz 9223372036854775807).mono ?_
  rintro e w1 ⟨sl, rfl, ho, hn, hb1⟩
  rw [List.take_of_length_le (by show L.length ≤ (9223372036854775807 : Int).toNat; omega)] at ho
  have HF := hide (⟨ho, fun g hg => by have := hn g hg; simpa using this, b0.trans (hb1.mono (by simp))⟩ : Own w1 sl L ∧ (∀ g, sl.ownBlock = some g → w.heap.size + 1 ≤ g) ∧ Below w.heap.size w w1)
  obtain ⟨a, c, rfl⟩ := ho.slice
  clear b0 ho hn hb1
  go_wp2
  go_ret
  exact ⟨.slice a L.length c, rfl, unhide HF⟩

/-- what is left from y on -/
def drp (y : Tx) (R : List Tx) : List Tx := R.dropWhile fun x => lt x y
theorem drp_cons (y x : Tx) (R : List Tx) : drp y (x :: R) = if lt x y then drp y R else x :: R := by
  unfold drp
  rw [List.dropWhile_cons]
def sliceLen : Value → Nat
  | .slice _ n _ => n
  | _ => 0
set_option maxRecDepth 100000 in
set_option maxHeartbeats 2000000 in
theorem from_cur {w : World} {v : Value} {R : List Tx} {G : Nat → Prop} (y : Tx) (h : CRow w v R G) (hz : R.length ≤ 8796093022208) :
    Calls Try.prog 48 #[v, .string y] w fun e w' => ∃ a c, e = .returned (.slice a (drp y R).length c) ∧ CRow w (.slice a (drp y R).length c) (drp y R) G ∧ w' = w := by
  obtain ⟨a0, c0, rfl⟩ := h.slice
  have H := hide h
  clear h
  go_enter Try.func48, Try.ntmps48
  go_wp2
  go_loopw [0] (fun s wr => ∃ (a : Option Addr) (c : Nat) (Q : List Tx), s = .slice a Q.length c ∧ Hid (CRow w (.slice a Q.length c) Q G) ∧ Hid (drp y R = drp y Q) ∧ Q.length ≤ 8796093022208 ∧ wr = w) (fun s _ => sliceLen s)
  case atStart => exact ⟨a0, c0, R, rfl, H, rfl, hz, rfl⟩
  case round =>
    obtain ⟨a, c, Q, rfl, HQ, HD, hq, rfl⟩ := hrel
    rcases Q with _ | ⟨x, Q⟩
    · have HF : Hid (∃ a' c', Value.slice a 0 c = .slice a' (drp y R).length c' ∧ CRow wr (.slice a' (drp y R).length c') (drp y R) G) := by
        rw [unhide HD]
        exact ⟨a, c, rfl, unhide HQ⟩
      clear HQ HD H
      simp only [List.length_nil] at *
      go_wp2
      go_ret
      obtain ⟨a', c', e, hc⟩ := unhide HF
      exact ⟨a', c', by rw [← e]; rfl, hc, rfl⟩
    · obtain ⟨ao', c', e, hcc, hat⟩ := unhide HQ
      obtain ⟨g, off, rfl, hg1, hg2, hcell⟩ := hat (by simp)
      injection e with e1 e2 e3
      subst e1 e3
      have hx : wr.cell? ⟨g, off, none⟩ = some (.string x) := hcell 0 x rfl
      have hq' : Q.length + 1 ≤ 8796093022208 := by simpa using hq
      have hcc' : Q.length + 1 ≤ c := by simpa using hcc
      have e1 := lt_def x y
      have HC := hide (fun (ao : Option Addr) (ha : 0 < Q.length → ao = some ⟨g, off + 1, none⟩) => CRow.cut (by simp) hcc (unhide HQ) ha)
      clear hcell hat e2 hcc hq
      cases hlt : lt x y with
      | false =>
        have HF : Hid (∃ a' c', Value.slice (some ⟨g, off, none⟩) (Q.length + 1) c = .slice a' (drp y R).length c' ∧ CRow wr (.slice a' (drp y R).length c') (drp y R) G) := by
          rw [unhide HD, drp_cons, hlt]
          exact ⟨_, c, rfl, unhide HQ⟩
        rw [hlt] at e1
        clear HQ HD H HC hlt
        simp only [List.length_cons] at *
        go_wp2
        go_ret
        obtain ⟨a', c', e, hc⟩ := unhide HF
        exact ⟨a', c', by rw [← e]; rfl, hc, rfl⟩
      | true =>
        have HD2 : Hid (drp y R = drp y Q) := by
          have := unhide HD
          rw [drp_cons, hlt] at this
          exact this
        rw [hlt] at e1
        clear HQ HD H hlt
        simp only [List.length_cons] at *
        have hl1 : (1 : Int) ≤ (Q.length : Int) + 1 := by omega
        by_cases hc1 : c = 1
        · subst hc1
          go_wp2
          have hQ : Q = [] := List.eq_nil_of_length_eq_zero (by omega)
          subst hQ
          exact ⟨⟨some ⟨g, off, none⟩, 0, [], rfl, unhide HC _ (fun h => by simp at h), HD2, by simp, trivial⟩, by simp [sliceLen]⟩
        · go_wp2
          exact ⟨⟨some ⟨g, off + 1, none⟩, c - 1, Q, rfl, unhide HC _ (fun _ => rfl), HD2, by omega, trivial⟩, by simp [sliceLen]⟩
end Sm
end Go.Proofs.Ytamlfmohalkemaa
