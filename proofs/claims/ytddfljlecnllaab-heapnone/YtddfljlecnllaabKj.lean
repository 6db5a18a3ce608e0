/- Layer 7: one call of a script, by both heaps. -/
import Derived.Test.YtddfljlecnllaabKi
namespace Go.Proofs.Ytddfljlecnllaab
open Go.RowKit
namespace Hp
theorem Res.still {F : Nat → Prop} {w w' : World} {hb : Nat} {fv : Value} {lt : It → It → Bool} {I : List It} {p : Nat} (h : HAt w hb fv lt I p F) (k : Below w.heap.size w w') : Res F w hb fv lt I p w' := (Res.start h).below k
theorem cells2_box {W : World} {b : Nat} {x y : Value} {t : TypeId} (h : W.heap[b]? = some (.cells #[x, y] t (0, 0))) : W.cell? ⟨b, 0, none⟩ = some x ∧ W.cell? ⟨b, 1, none⟩ = some y ∧ b < W.heap.size := by
  obtain ⟨h1, h2, _, h3⟩ := cells2 h
  exact ⟨h1, h2, h3⟩
set_option maxRecDepth 100000 in
set_option maxHeartbeats 2000000 in
theorem step_1 {w : World} {hb rb : Nat} {I X : List It} {p : Nat} {F : Nat → Prop} {v : Value} (h : Duo w hb rb I p F) (hx : Its w v X F) (hz : I.length + X.length ≤ 1099511627775) (hp : p + X.length ≤ 4611686018427387904) :
    Calls Try.prog 8 #[.pointer (some ⟨hb, 0, none⟩), .pointer (some ⟨rb, 0, none⟩), .agg #[.int .i64 1, v]] w fun e w' => e = .returned (.bool true) ∧ DuoRes F w hb rb (I ++ X) (p + X.length) w' := by
  obtain ⟨A, B, h2⟩ := h
  have H2 := hide h2
  have HX := hide hx
  have HA : Hid (∀ b, A b → b < w.heap.size) := fun b hb => h2.lt b (h2.inF b (.inl hb))
  have HB : Hid (∀ b, B b → b < w.heap.size) := fun b hb => h2.lt b (h2.inF b (.inr hb))
  obtain ⟨ao, cap, rfl, -⟩ := hx
  clear h2
  go_enter Try.func8, Try.ntmps8
  go_wp2_with fail
  have hb0 : Below w.heap.size w (w.alloc (.cells #[.int .i64 1, .slice ao X.length cap] 27)) := (Below.refl _ _).alloc (Nat.le_refl _) _
  have hbx : (w.alloc (.cells #[.int .i64 1, .slice ao X.length cap] 27)).heap[w.heap.size]? = some (.cells #[.int .i64 1, .slice ao X.length cap] 27 (0, 0)) := (MapKept.heap_alloc w _).1
  generalize w.alloc (.cells #[.int .i64 1, .slice ao X.length cap] 27) = W0 at *
  have hW0 : w.heap.size < W0.heap.size := (Array.getElem?_eq_some_iff.1 hbx).1
  have HTW := hide (twin_any ((unhide HX).chg (Chg.of_below hb0)) (by omega))
  have B0 := hide hb0
  have BX := hide hbx
  clear hb0 hbx
  refine (unhide HTW).mono ?_
  rintro e w1 ⟨u, rfl, r1, b1⟩
  have B1 : Hid (Below w.heap.size w w1) := (unhide B0).trans (b1.mono (unhide B0).size)
  have HPU := hide (push_any lessV_item ((unhide H2).h.below (unhide B1)) (r1.its.mono fun b _ hA => by have := unhide HA b hA; omega) (by omega) hp)
  have BX1 : Hid (w1.heap[w.heap.size]? = some (.cells #[.int .i64 1, .slice ao X.length cap] 27 (0, 0))) := (b1.block _ hW0).trans (unhide BX)
  have hW1 : w.heap.size < w1.heap.size := Nat.lt_of_lt_of_le hW0 b1.size
  clear r1 b1 HTW B0 BX
  go_wp2_with fail
  refine (unhide HPU).mono ?_
  rintro e w2 ⟨rfl, r2⟩
  have R2 := hide r2
  obtain ⟨o0, o1, ol⟩ := cells2_box ((r2.2.block _ hW1 (fun e => by have := unhide HA _ e; omega)).trans (unhide BX1))
  have HRF : Hid (Its w2 (.slice ao X.length cap) X (fun _ => False)) := by
    have q := ((unhide HX).chg (Chg.of_below (unhide B1))).mono (G := A) fun b _ hA => (unhide H2).inF b (.inl hA)
    exact (q.chg r2.2).mono fun _ _ h => h.elim
  clear r2 HPU BX1
  have HRC := hide (ref_any (unhide HRF) (by omega))
  go_wp2_with fail
  refine (unhide HRC).mono ?_
  rintro e w3 ⟨u3, rfl, g3⟩
  have B3 := hide g3.old
  have HRP := hide (rpush_any ((unhide H2).ref (unhide B1) (unhide R2) (unhide B3)) (its_of_row g3.row (fun g hg hBb => by have := g3.new g hg; have := unhide HB g hBb; have := (unhide R2).2.size; omega)) (by omega))
  clear g3 HRC HRF
  go_wp2_with fail
  refine (unhide HRP).mono ?_
  rintro e w4 ⟨rfl, r4⟩
  have HFI := hide ((unhide H2).fin (unhide B1) (unhide R2) (unhide B3) r4 (Below.refl _ _))
  clear r4 HRP
  go_wp2
  go_ret
  exact ⟨rfl, unhide HFI⟩
end Hp
end Go.Proofs.Ytddfljlecnllaab
