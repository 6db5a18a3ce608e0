/- Layer 6: Open and From where they go well; Close where it goes well. -/
import Derived.Test.YtigffjbefbndnaaDoorWp
namespace Go.Proofs.YtigffjbefbndnaaDoor
open Go.RowKit
namespace Rs
set_option maxRecDepth 100000 in
set_option maxHeartbeats 1000000 in
theorem open_go {w : World} {E : Nat → Addr} {B sb b : Nat} {m m2 : Sto} {F : Nat → Prop} {n : Nat} (V : Env w E B) (hF : ∀ b, F b → B ≤ b) (h : At w sb m F) (h1 : 1 ≤ b) (h2 : b ≤ 4096) (hc : crt m = (((n : Int), 0), m2)) :
    Calls Tryd.prog 38 #[.pointer (some ⟨sb, 0, none⟩), .int .i64 b] w fun e w' => ∃ wb, e = .returned (.tuple #[.pointer (some ⟨wb, 0, none⟩), .nilIface]) ∧ ∃ F' G' bv, At w' sb m2 F' ∧ WIn w' E sb wb ⟨n, b, [], 0⟩ G' bv ∧ (∀ b, F' b → ¬ G' b) ∧ (∀ b, F' b → Up F w w' b) ∧ (∀ b, G' b → w.heap.size ≤ b) ∧ Chg F w w' := by
  have HCP := hide (place_ok (w := w) sb b h1 h2)
  have HCR := hide (create_any h (V.gs hF))
  rw [hc] at HCR
  rw [show errV E ((((n : Int), 0), m2) : (Int × Nat) × Sto).1.2 = .nilIface from rfl] at HCR
  dsimp only at HCR
  have HFI : Hid (∀ w2, Res F w sb m2 w2 → ∃ F' G' bv, At (w2.alloc (.cells #[.pointer (some ⟨sb, 0, none⟩), .int .i64 n, .int .i64 b, .slice none 0 0, .nilIface] 86)) sb m2 F' ∧ WIn (w2.alloc (.cells #[.pointer (some ⟨sb, 0, none⟩), .int .i64 n, .int .i64 b, .slice none 0 0, .nilIface] 86)) E sb w2.heap.size ⟨n, b, [], 0⟩ G' bv ∧ (∀ b, F' b → ¬ G' b) ∧ (∀ y, F' y → Up F w (w2.alloc (.cells #[.pointer (some ⟨sb, 0, none⟩), .int .i64 n, .int .i64 b, .slice none 0 0, .nilIface] 86)) y) ∧ (∀ b, G' b → w.heap.size ≤ b) ∧ Chg F w (w2.alloc (.cells #[.pointer (some ⟨sb, 0, none⟩), .int .i64 n, .int .i64 b, .slice none 0 0, .nilIface] 86))) := fun w2 r => by
    refine ⟨Up F w w2, fun y => y = w2.heap.size, .slice none 0 0, r.1.kept (fun y hy => Below.heap_alloc _ _ _ (r.1.lt y hy)) (fun _ x => x) (fun y hy => by have := r.1.lt y hy; simp; omega), ⟨fun y hy => by rw [hy]; simp, rfl, (MapKept.heap_alloc w2 _).1, World.ownsRow_nil _ _ _ _, fun g hg => (by cases hg), by simp; omega, h1, h2⟩, fun y hy e => by have := r.1.lt y hy; omega, fun y hy => hy.imp id fun z => ⟨z.1, by have := z.2; simp; omega⟩, fun y hy => by rw [hy]; exact r.2.size, r.2.alloc _⟩
  clear V h hc
  go_enter Tryd.func38, Tryd.ntmps38
  go_wp2_with (first | (go_at_call 47; refine (unhide HCP).mono ?_; rintro e w1 ⟨rfl, hw1⟩; have hw2 := hw1.symm; subst hw2; clear hw1) | (go_at_call 48; refine (unhide HCR).mono ?_; rintro e w2 ⟨rfl, r2⟩; have HR2 := hide (unhide HFI w2 r2); clear r2))
  go_ret2
  exact ⟨_, rfl, unhide HR2⟩
set_option maxRecDepth 100000 in
set_option maxHeartbeats 1000000 in
theorem open_no {w : World} {E : Nat → Addr} {B sb : Nat} (V : Env w E B) (b : Int) (h : b < 1 ∨ 4096 < b) :
    Calls Tryd.prog 38 #[.pointer (some ⟨sb, 0, none⟩), .int .i64 b] w fun e w' => e = .returned (.tuple #[.pointer none, er E 2]) ∧ w' = w := by
  have HCP := hide (place_no V sb b h)
  clear V h
  go_enter Tryd.func38, Tryd.ntmps38
  go_wp2_with (go_at_call 47; refine (unhide HCP).mono ?_; rintro e w1 ⟨rfl, hw1⟩; have hw2 := hw1.symm; subst hw2; clear hw1)
  go_ret2
  exact ⟨rfl, rfl⟩
end Rs
end Go.Proofs.YtigffjbefbndnaaDoor
