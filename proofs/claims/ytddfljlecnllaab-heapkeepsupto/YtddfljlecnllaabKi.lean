/- Layer 7: the laws' alike; both heaps beside each other. -/
import Derived.Test.YtddfljlecnllaabKh
namespace Go.Proofs.Ytddfljlecnllaab
open Go.RowKit
namespace Hp
set_option maxRecDepth 100000 in
set_option maxHeartbeats 2000000 in
theorem alike_true {w : World} {v1 v2 : Value} {S : List It} {F1 F2 : Nat → Prop} (h1 : Its w v1 S F1) (h2 : Its w v2 S F2) (hz : S.length ≤ 1099511627776) :
    Calls Try.prog 15 #[v1, v2] w fun e w' => e = .returned (.bool true) ∧ Below w.heap.size w w' := by
  obtain ⟨a1, c1, rfl, h1⟩ := h1
  obtain ⟨a2, c2, rfl, h2⟩ := h2
  have H1 := hide h1
  have H2 := hide h2
  obtain ⟨n, hn⟩ : ∃ n, S.length = n := ⟨_, rfl⟩
  have HN := hide hn
  rw [hn] at hz ⊢
  clear h1 h2 hn
  go_enter Try.func15, Try.ntmps15
  go_wp2
  go_loopw [13] (fun s13 wr => ∃ (k : Nat), s13 = .int .i64 k ∧ k ≤ n ∧ Hid (Below w.heap.size w wr)) (fun s13 _ => n - (intOf s13).toNat)
  case atStart => exact ⟨0, rfl, Nat.zero_le _, Below.refl _ _⟩
  case round =>
    obtain ⟨k, rfl, hk, HB⟩ := hrel
    by_cases hlt : k < n
    · have hltz : (k : Int) < (n : Int) := by omega
      have hk0 : 0 ≤ (k : Int) := by omega
      obtain ⟨x, hx⟩ : ∃ x, S[k]? = some x := ⟨_, List.getElem?_eq_getElem (by rw [unhide HN]; exact hlt)⟩
      obtain ⟨g1, o1, rfl, hg1, -, hc1⟩ := unhide H1 (by rw [unhide HN]; omega)
      obtain ⟨g2, o2, rfl, hg2, -, hc2⟩ := unhide H2 (by rw [unhide HN]; omega)
      have x0 := ((unhide HB).cell (p := ⟨g1, o1 + k * 2, none⟩) hg1).trans (hc1 k x hx).1
      have x1 := ((unhide HB).cell (p := ⟨g1, o1 + k * 2 + 1, none⟩) hg1).trans (hc1 k x hx).2
      have y0 := ((unhide HB).cell (p := ⟨g2, o2 + k * 2, none⟩) hg2).trans (hc2 k x hx).1
      have y1 := ((unhide HB).cell (p := ⟨g2, o2 + k * 2 + 1, none⟩) hg2).trans (hc2 k x hx).2
      have hs := (unhide HB).size
      have l1 : g1 < wr.heap.size := by omega
      have l2 : g2 < wr.heap.size := by omega
      have HLK := hide (like_any x x)
      rw [show decide (x = x) = true by simp] at HLK
      clear hc1 hc2 hx
      go_wp2
      go_region_held3 (fun w' => w'.cell? ⟨g1, o1 + k * 2, none⟩ = some (.int .i64 x.1) ∧ w'.cell? ⟨g1, o1 + k * 2 + 1, none⟩ = some (.int .i64 x.2) ∧ w'.cell? ⟨g2, o2 + k * 2, none⟩ = some (.int .i64 x.1) ∧ w'.cell? ⟨g2, o2 + k * 2 + 1, none⟩ = some (.int .i64 x.2))
        (first | exact ⟨x0, x1, y0, y1⟩ | exact s3)
        (first | (go_at_call 20; refine (unhide HLK _).mono ?_; rintro e w3 ⟨rfl, hb3⟩; have s3 := (⟨(hb3.cell (p := ⟨g1, o1 + k * 2, none⟩) l1).trans x0, (hb3.cell (p := ⟨g1, o1 + k * 2 + 1, none⟩) l1).trans x1, (hb3.cell (p := ⟨g2, o2 + k * 2, none⟩) l2).trans y0, (hb3.cell (p := ⟨g2, o2 + k * 2 + 1, none⟩) l2).trans y1⟩ : _ ∧ _ ∧ _ ∧ _); have HB3 : Hid (Below w.heap.size w w3) := (unhide HB).trans (((Below.refl _ _).drew.trans hb3).mono (unhide HB).size); clear hb3))
      clear s3
      go_wp2
      exact ⟨⟨k + 1, by go_num, by omega, HB3⟩, by simp [intOf]; omega⟩
    · obtain rfl : k = n := by omega
      have hltz : ¬ (k : Int) < (k : Int) := by omega
      go_wp2
      go_ret
      exact ⟨rfl, unhide HB⟩
/-- the less of a heap of items by their keys -/
abbrev lessI : Value := .func (.func 26) #[] #[]
/-- a heap and the document's heap with the same items, apart from each other -/
structure Two (w : World) (hb rb : Nat) (I : List It) (p : Nat) (F A B : Nat → Prop) : Prop where
  h : HAt w hb lessI rise_ I p A
  r : RAt w rb I B
  ap : ∀ b, A b → ¬ B b
  inF : ∀ b, A b ∨ B b → F b
  lt : ∀ b, F b → b < w.heap.size
def Duo (w : World) (hb rb : Nat) (I : List It) (p : Nat) (F : Nat → Prop) : Prop := ∃ A B, Two w hb rb I p F A B
def DuoRes (F : Nat → Prop) (w : World) (hb rb : Nat) (I : List It) (p : Nat) (w' : World) : Prop := Duo w' hb rb I p (Up F w w') ∧ Chg F w w'
theorem Duo.kept {w w' : World} {hb rb : Nat} {I : List It} {p : Nat} {F G : Nat → Prop} (h : Duo w hb rb I p F) (hk : ∀ b, F b → w'.heap[b]? = w.heap[b]?) (hG : ∀ b, F b → G b) (hl : ∀ b, G b → b < w'.heap.size) : Duo w' hb rb I p G := by
  obtain ⟨A, B, h⟩ := h
  exact ⟨A, B, h.h.kept (fun b hb => hk b (h.inF b (.inl hb))) (fun _ x => x) (fun b hb => hl b (hG b (h.inF b (.inl hb)))), h.r.kept (fun b hb => hk b (h.inF b (.inr hb))) (fun _ x => x) (fun b hb => hl b (hG b (h.inF b (.inr hb)))), h.ap, fun b hb => hG b (h.inF b hb), hl⟩
theorem Duo.lt {w : World} {hb rb : Nat} {I : List It} {p : Nat} {F : Nat → Prop} (h : Duo w hb rb I p F) : ∀ b, F b → b < w.heap.size := by
  obtain ⟨A, B, h⟩ := h; exact h.lt
/-- the document's heap behind a call of the other -/
theorem Two.ref {w W1 w2 W3 : World} {hb rb : Nat} {I I' : List It} {p p' : Nat} {F A B : Nat → Prop} (h : Two w hb rb I p F A B) (b1 : Below w.heap.size w W1) (r2 : Res A W1 hb lessI rise_ I' p' w2) (b3 : Below w2.heap.size w2 W3) : RAt W3 rb I B := by
  have s1 := b1.size
  have s2 := r2.2.size
  have s3 := b3.size
  refine h.r.kept (fun b hb => ?_) (fun _ x => x) (fun b hb => by have := h.lt b (h.inF b (.inr hb)); omega)
  have hl := h.lt b (h.inF b (.inr hb))
  rw [b3.block b (by omega), r2.2.block b (by omega) (fun e => h.ap b e hb), b1.block b hl]
theorem Two.fin {w W1 w2 W3 w4 w5 : World} {hb rb : Nat} {I I' : List It} {p p' : Nat} {F A B : Nat → Prop} (h : Two w hb rb I p F A B) (b1 : Below w.heap.size w W1) (r2 : Res A W1 hb lessI rise_ I' p' w2) (b3 : Below w2.heap.size w2 W3) (r4 : RRes B W3 rb I' w4) (b5 : Below w4.heap.size w4 w5) : DuoRes F w hb rb I' p' w5 := by
  have s1 := b1.size
  have s2 := r2.2.size
  have s3 := b3.size
  have s4 := r4.2.size
  have s5 := b5.size
  have hA : ∀ b, A b → b < w.heap.size := fun b hb => h.lt b (h.inF b (.inl hb))
  have hB : ∀ b, B b → b < w.heap.size := fun b hb => h.lt b (h.inF b (.inr hb))
  have c4 : Chg F w w4 := by
    have c1 : Chg F w W1 := Chg.of_below b1
    have c2 : Chg F w w2 := c1.then (r2.2.mono fun b hb => h.inF b (.inl hb))
    have c3 : Chg F w W3 := c2.then (Chg.of_below b3)
    exact c3.then (r4.2.mono fun b hb => h.inF b (.inr hb))
  refine ⟨⟨Up A W1 w2, Up B W3 w4, ⟨r2.1.kept (fun b hb => ?_) (fun _ x => x) (fun b hb => by have := r2.1.lt b hb; omega), r4.1.below b5, fun b hb hb' => ?_, fun b hb => ?_, fun b hb => ?_⟩⟩, c4.then (Chg.of_below b5)⟩
  · have hl := r2.1.lt b hb
    rw [b5.block b (by omega), r4.2.block b (by omega) (fun e => ?_), b3.block b hl]
    rcases hb with hb | hb
    · exact h.ap b hb e
    · have := hB b e; omega
  · rcases hb with hb | hb
    · rcases hb' with hb' | hb'
      · exact h.ap b hb hb'
      · have := hA b hb; omega
    · rcases hb' with hb' | hb'
      · have := hB b hb'; omega
      · omega
  · rcases hb with (hb | hb) | (hb | hb)
    · exact .inl (h.inF b (.inl hb))
    · exact .inr ⟨by omega, by omega⟩
    · exact .inl (h.inF b (.inr hb))
    · exact .inr ⟨by omega, by omega⟩
  · rcases hb with hb | hb
    · have := h.lt b hb; omega
    · exact hb.2
end Hp
end Go.Proofs.Ytddfljlecnllaab
