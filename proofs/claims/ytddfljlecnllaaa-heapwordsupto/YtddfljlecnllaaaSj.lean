/- Layer 7, a heap of texts: New, Words. -/
import Derived.Test.YtddfljlecnllaaaSi
namespace Go.Proofs.Ytddfljlecnllaaa
open Go.RowKit
namespace Hpt
open Hp
set_option maxRecDepth 100000 in
theorem new_any {fv : Value} {lt : It → It → Bool} (L : LessV fv lt) {w : World} {v : Value} {X : List It} (hx : Its w v X (fun b => w.heap.size ≤ b)) (hz : X.length ≤ 1099511627775) :
    Calls Try.prog 39 #[fv, v] w fun e w' => e = .returned (.pointer (some ⟨w.heap.size, 0, none⟩)) ∧ HAt w' w.heap.size fv lt X X.length (fun b => w.heap.size ≤ b ∧ b < w'.heap.size) ∧ Below w.heap.size w w' := by
  have HPU : Hid (Calls Try.prog 24 #[.pointer (some ⟨w.heap.size, 0, none⟩), v] (w.alloc (.cells #[fv, .slice none 0 0, .int .i64 0] 80)) fun e w' => e = .returned (.tuple #[]) ∧ HAt w' w.heap.size fv lt X X.length (fun b => w.heap.size ≤ b ∧ b < w'.heap.size) ∧ Below w.heap.size w w') := by
    have h0 : HAt (w.alloc (.cells #[fv, .slice none 0 0, .int .i64 0] 80)) w.heap.size fv lt [] 0 (fun b => b = w.heap.size) :=
      ⟨[], .slice none 0 0, ⟨fun b hb => by rw [hb]; simp, rfl, (MapKept.heap_alloc w _).1, World.ownsRow_nil _ _ _ _, fun g hg => by cases hg⟩, Bag.nil, fun i h0 hi => by simp at hi⟩
    have hb0 : Below w.heap.size w (w.alloc (.cells #[fv, .slice none 0 0, .int .i64 0] 80)) := (Below.refl _ w).alloc (Nat.le_refl _) _
    have hI : Its (w.alloc (.cells #[fv, .slice none 0 0, .int .i64 0] 80)) v X (fun b => b = w.heap.size) := (hx.chg (Chg.of_below hb0)).mono fun b _ e => by rw [e]; exact Nat.le_refl _
    refine (push_any L h0 hI (by simpa using hz) (by omega)).mono ?_
    rintro e w' ⟨rfl, h1, h2⟩
    rw [List.nil_append, Nat.zero_add] at h1
    have hs := h2.size
    simp at hs
    refine ⟨rfl, h1.kept (fun _ _ => rfl) (fun b hb => ?_) (fun b hb => hb.2), hb0.trans (h2.below (by simp) fun k hk => by omega)⟩
    rcases hb with hb | hb
    · subst hb; exact ⟨Nat.le_refl _, h1.lt _ (.inl rfl)⟩
    · exact ⟨by have := hb.1; simp at this; omega, hb.2⟩
  obtain ⟨f, rfl, hf⟩ := L
  clear hx hf
  · go_enter Try.func39, Try.ntmps39
    go_wp2_with (go_at_call 24; refine (unhide HPU).mono ?_; rintro e w1 ⟨rfl, h1⟩; have H1 := hide h1; clear h1)
    go_ret
    exact ⟨rfl, unhide H1⟩
theorem words_any {w : World} {v : Value} {X : List It} (hx : Its w v X (fun b => w.heap.size ≤ b)) (hz : X.length ≤ 1099511627775) :
    Calls Try.prog 23 #[v] w fun e w' => e = .returned (.pointer (some ⟨w.heap.size, 0, none⟩)) ∧ HAt w' w.heap.size (.func (.func 40) #[] #[]) word_ X X.length (fun b => w.heap.size ≤ b ∧ b < w'.heap.size) ∧ Below w.heap.size w w' := by
  have HN := hide (new_any lessV_word hx hz)
  clear hx
  go_enter Try.func23, Try.ntmps23
  go_wp2_with (go_at_call 39; refine (unhide HN).mono ?_; rintro e w1 ⟨rfl, h1⟩; have H1 := hide h1; clear h1)
  go_ret
  exact ⟨rfl, unhide H1⟩
end Hpt
end Go.Proofs.Ytddfljlecnllaaa
