/- Layer 8, a heap of cursors: New. -/
import Derived.Test.YtamlfmohalkemaaCi
namespace Go.Proofs.Ytamlfmohalkemaa
open Go.RowKit
namespace Hpc
open Hp
variable {C : Cx}
set_option maxRecDepth 100000 in
theorem new_any {fv : Value} {lt : It → It → Bool} (L : LessV C fv lt) {w : World} {v : Value} {X : List It} (hx : Its w v X (fun b => w.heap.size ≤ b)) (zX : ∀ x ∈ X, C.Z x) (hK : C.K w) (hD : C.D ≤ w.heap.size) (hz : X.length ≤ 1099511627775) :
    Calls Try.prog 40 #[fv, v] w fun e w' => e = .returned (.pointer (some ⟨w.heap.size, 0, none⟩)) ∧ HAt C w' w.heap.size fv lt X X.length (fun b => w.heap.size ≤ b ∧ b < w'.heap.size) ∧ Below w.heap.size w w' := by
  have HPU : Hid (Calls Try.prog 43 #[.pointer (some ⟨w.heap.size, 0, none⟩), v] (w.alloc (.cells #[fv, .slice none 0 0, .int .i64 0] 65)) fun e w' => e = .returned (.tuple #[]) ∧ HAt C w' w.heap.size fv lt X X.length (fun b => w.heap.size ≤ b ∧ b < w'.heap.size) ∧ Below w.heap.size w w') := by
    have h0 : HAt C (w.alloc (.cells #[fv, .slice none 0 0, .int .i64 0] 65)) w.heap.size fv lt [] 0 (fun b => b = w.heap.size) :=
      ⟨[], .slice none 0 0, ⟨fun b hb => by rw [hb]; simp, rfl, (MapKept.heap_alloc w _).1, World.ownsRow_nil _ _ _ _, (fun g hg => by cases hg), (fun x hx => by cases hx), C.below hK ((Below.refl _ w).alloc (Nat.le_refl _) _), (fun b hb => C.new b (by rw [hb]; exact hD)), (by simp; omega)⟩, Bag.nil, fun i h0 hi => by simp at hi⟩
    have hb0 : Below w.heap.size w (w.alloc (.cells #[fv, .slice none 0 0, .int .i64 0] 65)) := (Below.refl _ w).alloc (Nat.le_refl _) _
    have hI : Its (w.alloc (.cells #[fv, .slice none 0 0, .int .i64 0] 65)) v X (fun b => b = w.heap.size) := (hx.chg (Chg.of_below hb0)).mono fun b _ e => by rw [e]; exact Nat.le_refl _
    refine (push_any L h0 hI zX (by simpa using hz) (by omega)).mono ?_
    rintro e w' ⟨rfl, h1, h2⟩
    rw [List.nil_append, Nat.zero_add] at h1
    have hs := h2.size
    simp at hs
    refine ⟨rfl, h1.kept (fun _ _ => rfl) (fun b hb => ?_) (fun b hb => hb.2) h1.kw (fun b hb => C.new b (Nat.le_trans hD hb.1)) (Nat.le_refl _), hb0.trans (h2.below (by simp) fun k hk => by omega)⟩
    rcases hb with hb | hb
    · subst hb; exact ⟨Nat.le_refl _, h1.lt _ (.inl rfl)⟩
    · exact ⟨by have := hb.1; simp at this; omega, hb.2⟩
  obtain ⟨f, rfl, hf⟩ := L
  clear hx hf zX hK hD
  · go_enter Try.func40, Try.ntmps40
    go_wp2_with (go_at_call 43; refine (unhide HPU).mono ?_; rintro e w1 ⟨rfl, h1⟩; have H1 := hide h1; clear h1)
    go_ret
    exact ⟨rfl, unhide H1⟩
end Hpc
end Go.Proofs.Ytamlfmohalkemaa
