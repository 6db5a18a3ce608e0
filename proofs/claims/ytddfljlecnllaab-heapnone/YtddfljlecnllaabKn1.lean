/- Layer 7: one call of a script by a nil heap and by the document's heap without items; the walk of HeapNone. -/
import Derived.Test.YtddfljlecnllaabKj
import Derived.Test.YtddfljlecnllaabKn0
namespace Go.Proofs.Ytddfljlecnllaab
open Go.RowKit
namespace Hp
set_option maxRecDepth 100000 in
set_option maxHeartbeats 2000000 in
theorem none_2 {W0 : World} {rb : Nat} {B : Nat → Prop} {ao : Option Addr} {n cap : Nat} (h : RAt W0 rb [] B)
    (hp : ∀ W, Calls Try.prog 18 #[.pointer none] W fun e w' => e = .returned (.tuple #[.agg #[.int .i64 0, .int .i64 0], .bool false]) ∧ Below W.heap.size W w')
    (hr : ∀ W, RAt W rb [] B → Calls Try.prog 19 #[.pointer (some ⟨rb, 0, none⟩)] W fun e w' => e = .returned (.tuple #[.agg #[.int .i64 0, .int .i64 0], .bool false]) ∧ Chg B W w') :
    Calls Try.prog 8 #[.pointer none, .pointer (some ⟨rb, 0, none⟩), .agg #[.int .i64 2, .slice ao n cap]] W0 fun e w' => e = .returned (.bool true) ∧ Chg B W0 w' := by
  have HP : Hid (∀ o : Obj, Calls Try.prog 18 #[.pointer none] (W0.alloc o) fun e w' => e = .returned (.tuple #[.agg #[.int .i64 0, .int .i64 0], .bool false]) ∧ Below W0.heap.size W0 w') := fun o => (hp _).mono fun e w' h => ⟨h.1, ((Below.refl _ _).alloc (Nat.le_refl _) o).trans (h.2.mono (by simp))⟩
  have HR := hide hr
  have H := hide h
  have HLT := hide h.lt
  have HLK := hide (like_any (0, 0) (0, 0))
  rw [show decide (((0 : Int), (0 : Int)) = (0, 0)) = true by simp] at HLK
  clear h hp hr
  go_enter Try.func8, Try.ntmps8
  go_wp2_with fail
  refine (unhide HP _).mono ?_
  rintro e w2 ⟨rfl, b1⟩
  have B1 := hide b1
  clear b1 HP
  go_wp2_with fail
  have hb3 : Below w2.heap.size w2 (w2.alloc (.cells #[.int .i64 0, .int .i64 0] 30)) := (Below.refl _ _).alloc (Nat.le_refl _) _
  have hbx : (w2.alloc (.cells #[.int .i64 0, .int .i64 0] 30)).heap[w2.heap.size]? = some (.cells #[.int .i64 0, .int .i64 0] 30 (0, 0)) := (MapKept.heap_alloc w2 _).1
  generalize w2.alloc (.cells #[.int .i64 0, .int .i64 0] 30) = W3 at *
  have B3 : Hid (Below W0.heap.size W0 W3) := (unhide B1).trans (hb3.mono (unhide B1).size)
  have HRC := hide (unhide HR W3 ((unhide H).below (unhide B3)))
  have hs2 : w2.heap.size < W3.heap.size := (Array.getElem?_eq_some_iff.1 hbx).1
  have BX := hide hbx
  clear hb3 hbx
  refine (unhide HRC).mono ?_
  rintro e w4 ⟨rfl, r4⟩
  obtain ⟨x0, x1, xl⟩ := cells2_box ((r4.block _ hs2 (fun e => by have := unhide HLT _ e; have := (unhide B1).size; omega)).trans (unhide BX))
  have C4 : Hid (Chg B W0 w4) := (Chg.of_below (unhide B3)).then r4
  clear r4 HRC BX
  go_wp2_with (go_at_call 20; refine (unhide HLK _).mono ?_; rintro e w5 ⟨rfl, hb5⟩; have C5 : Hid (Chg B W0 w5) := (unhide C4).then ((Chg.refl B w4).alloc _ |>.then (Chg.of_below hb5)); clear hb5)
  go_ret
  exact ⟨by first | rfl | simp, unhide C5⟩
set_option maxRecDepth 100000 in
set_option maxHeartbeats 2000000 in
theorem none_3 {W0 : World} {rb : Nat} {B : Nat → Prop} {ao : Option Addr} {n cap : Nat} (h : RAt W0 rb [] B)
    (hp : ∀ W, Calls Try.prog 21 #[.pointer none] W fun e w' => e = .returned (.tuple #[.agg #[.int .i64 0, .int .i64 0], .bool false]) ∧ Below W.heap.size W w')
    (hr : ∀ W, RAt W rb [] B → Calls Try.prog 22 #[.pointer (some ⟨rb, 0, none⟩)] W fun e w' => e = .returned (.tuple #[.agg #[.int .i64 0, .int .i64 0], .bool false]) ∧ Chg B W w') :
    Calls Try.prog 8 #[.pointer none, .pointer (some ⟨rb, 0, none⟩), .agg #[.int .i64 3, .slice ao n cap]] W0 fun e w' => e = .returned (.bool true) ∧ Chg B W0 w' := by
  have HP : Hid (∀ o : Obj, Calls Try.prog 21 #[.pointer none] (W0.alloc o) fun e w' => e = .returned (.tuple #[.agg #[.int .i64 0, .int .i64 0], .bool false]) ∧ Below W0.heap.size W0 w') := fun o => (hp _).mono fun e w' h => ⟨h.1, ((Below.refl _ _).alloc (Nat.le_refl _) o).trans (h.2.mono (by simp))⟩
  have HR := hide hr
  have H := hide h
  have HLT := hide h.lt
  have HLK := hide (like_any (0, 0) (0, 0))
  rw [show decide (((0 : Int), (0 : Int)) = (0, 0)) = true by simp] at HLK
  clear h hp hr
  go_enter Try.func8, Try.ntmps8
  go_wp2_with fail
  refine (unhide HP _).mono ?_
  rintro e w2 ⟨rfl, b1⟩
  have B1 := hide b1
  clear b1 HP
  go_wp2_with fail
  have hb3 : Below w2.heap.size w2 (w2.alloc (.cells #[.int .i64 0, .int .i64 0] 30)) := (Below.refl _ _).alloc (Nat.le_refl _) _
  have hbx : (w2.alloc (.cells #[.int .i64 0, .int .i64 0] 30)).heap[w2.heap.size]? = some (.cells #[.int .i64 0, .int .i64 0] 30 (0, 0)) := (MapKept.heap_alloc w2 _).1
  generalize w2.alloc (.cells #[.int .i64 0, .int .i64 0] 30) = W3 at *
  have B3 : Hid (Below W0.heap.size W0 W3) := (unhide B1).trans (hb3.mono (unhide B1).size)
  have HRC := hide (unhide HR W3 ((unhide H).below (unhide B3)))
  have hs2 : w2.heap.size < W3.heap.size := (Array.getElem?_eq_some_iff.1 hbx).1
  have BX := hide hbx
  clear hb3 hbx
  refine (unhide HRC).mono ?_
  rintro e w4 ⟨rfl, r4⟩
  obtain ⟨x0, x1, xl⟩ := cells2_box ((r4.block _ hs2 (fun e => by have := unhide HLT _ e; have := (unhide B1).size; omega)).trans (unhide BX))
  have C4 : Hid (Chg B W0 w4) := (Chg.of_below (unhide B3)).then r4
  clear r4 HRC BX
  go_wp2_with (go_at_call 20; refine (unhide HLK _).mono ?_; rintro e w5 ⟨rfl, hb5⟩; have C5 : Hid (Chg B W0 w5) := (unhide C4).then ((Chg.refl B w4).alloc _ |>.then (Chg.of_below hb5)); clear hb5)
  go_ret
  exact ⟨by first | rfl | simp, unhide C5⟩
set_option maxRecDepth 100000 in
set_option maxHeartbeats 2000000 in
theorem none_4 {W0 : World} {rb : Nat} {B : Nat → Prop} {X : List It} {x : It} {v : Value} (h : RAt W0 rb [] B) (hx : Its W0 v (x :: X) (fun _ => False)) (hz : X.length + 1 ≤ 8796093022207) :
    Calls Try.prog 8 #[.pointer none, .pointer (some ⟨rb, 0, none⟩), .agg #[.int .i64 4, v]] W0 fun e w' => e = .returned (.bool true) ∧ Chg B W0 w' := by
  have H := hide h
  have HLT := hide h.lt
  have HX := hide hx
  obtain ⟨ao, cap, rfl, hat⟩ := hx
  obtain ⟨g, off, rfl, hg, -, hc⟩ := hat (by simp)
  obtain ⟨x0, x1⟩ := hc 0 x rfl
  rw [Nat.zero_mul, Nat.add_zero] at x0 x1
  have HP : Hid (∀ o : Obj, Calls Try.prog 23 #[.pointer none, .agg #[.int .i64 x.1, .int .i64 x.2]] (W0.alloc o) fun e w' => e = .returned (.tuple #[.agg #[.int .i64 0, .int .i64 0], .bool false]) ∧ Below W0.heap.size W0 w' ∧ w'.heap[W0.heap.size]? = some o) := fun o => (replace_nil _ x).mono fun e w' h => ⟨h.1, ((Below.refl _ _).alloc (Nat.le_refl _) o).trans (h.2.mono (by simp)), (h.2.block W0.heap.size (by simp)).trans (MapKept.heap_alloc W0 o).1⟩
  have HR : Hid (∀ W, RAt W rb [] B → Calls Try.prog 24 #[.pointer (some ⟨rb, 0, none⟩), .agg #[.int .i64 x.1, .int .i64 x.2]] W fun e w' => e = .returned (.tuple #[.agg #[.int .i64 0, .int .i64 0], .bool false]) ∧ Chg B W w') := fun W hR => (rreplace_any (y := (0, 0)) (J := []) hR.lt (by simp) fun W' hW' => rpop_end (hR.below hW')).mono fun e w' h => ⟨h.1, h.2.2⟩
  have HLK := hide (like_any (0, 0) (0, 0))
  rw [show decide (((0 : Int), (0 : Int)) = (0, 0)) = true by simp] at HLK
  have hn0 : (0 : Int) < ((X.length : Int) + 1) := by omega
  clear h hat hc
  simp only [List.length_cons]
  go_enter Try.func8, Try.ntmps8
  go_wp2_with fail
  refine (unhide HP _).mono ?_
  rintro e w2 ⟨rfl, b1, bx⟩
  have B1 := hide b1
  obtain ⟨o0, o1, ol⟩ := cells2_box bx
  have HRF : Hid (∀ o : Obj, Its (w2.alloc o) (.slice (some ⟨g, off, none⟩) (X.length + 1) cap) (x :: X) (fun _ => False)) := fun o => ((unhide HX).chg (Chg.of_below b1)).chg (Chg.of_below ((Below.refl _ _).alloc (Nat.le_refl _) o))
  clear b1 bx HP x0 x1
  go_wp2_with fail
  have hb3 : Below w2.heap.size w2 (w2.alloc (.cells #[.int .i64 0, .int .i64 0] 30)) := (Below.refl _ _).alloc (Nat.le_refl _) _
  have hbx : (w2.alloc (.cells #[.int .i64 0, .int .i64 0] 30)).heap[w2.heap.size]? = some (.cells #[.int .i64 0, .int .i64 0] 30 (0, 0)) := (MapKept.heap_alloc w2 _).1
  have HRI := unhide HRF (.cells #[.int .i64 0, .int .i64 0] 30)
  generalize w2.alloc (.cells #[.int .i64 0, .int .i64 0] 30) = W3 at *
  have HRC := hide (ref_any HRI (by simp; omega))
  have B3 : Hid (Below W0.heap.size W0 W3) := (unhide B1).trans (hb3.mono (unhide B1).size)
  have hs2 : w2.heap.size < W3.heap.size := (Array.getElem?_eq_some_iff.1 hbx).1
  have BX3 := hide hbx
  clear hb3 hbx HRI HRF
  refine (unhide HRC).mono ?_
  rintro e w3 ⟨u3, rfl, g3⟩
  have B4 : Hid (Below W0.heap.size W0 w3) := (unhide B3).trans (g3.old.mono (unhide B3).size)
  have hs3 : w2.heap.size < w3.heap.size := Nat.lt_of_lt_of_le hs2 g3.old.size
  obtain ⟨ar, cr, rfl, hat⟩ := its_of_row (F := fun _ => False) g3.row (fun _ _ h => h)
  obtain ⟨gr, offr, rfl, hgr, -, hcr⟩ := hat (by simp)
  obtain ⟨y0, y1⟩ := hcr 0 x rfl
  rw [Nat.zero_mul, Nat.add_zero] at y0 y1
  simp only [List.length_cons]
  have HRC2 := hide (unhide HR w3 ((unhide H).below (unhide B4)))
  have BX4 : Hid (w3.heap[w2.heap.size]? = some (.cells #[.int .i64 0, .int .i64 0] 30 (0, 0))) := (g3.old.block _ hs2).trans (unhide BX3)
  clear g3 hat hcr HRC BX3
  go_wp2_with fail
  refine (unhide HRC2).mono ?_
  rintro e w4 ⟨rfl, r4⟩
  obtain ⟨l0, l1, ll⟩ := cells2_box ((r4.block _ hs3 (fun e => by have := unhide HLT _ e; have := (unhide B1).size; omega)).trans (unhide BX4))
  have C4 : Hid (Chg B W0 w4) := (Chg.of_below (unhide B4)).then r4
  clear r4 HRC2 BX4
  go_wp2_with (go_at_call 20; refine (unhide HLK _).mono ?_; rintro e w5 ⟨rfl, hb5⟩; have C5 : Hid (Chg B W0 w5) := (unhide C4).then ((Chg.refl B w4).alloc _ |>.then (Chg.of_below hb5)); clear hb5)
  go_ret
  exact ⟨by first | rfl | simp, unhide C5⟩
set_option maxRecDepth 100000 in
theorem none_4n {W0 : World} {rb : Nat} {B : Nat → Prop} {ao : Option Addr} {cap : Nat} :
    Calls Try.prog 8 #[.pointer none, .pointer (some ⟨rb, 0, none⟩), .agg #[.int .i64 4, .slice ao 0 cap]] W0 fun e w' => e = .returned (.bool true) ∧ Chg B W0 w' := by
  go_enter Try.func8, Try.ntmps8
  go_wp2
  go_ret
  exact ⟨rfl, (Chg.refl _ _).alloc _⟩
set_option maxRecDepth 100000 in
theorem none_5 {W0 : World} {rb : Nat} {B : Nat → Prop} {ao : Option Addr} {n cap : Nat} (h : RAt W0 rb [] B) :
    Calls Try.prog 8 #[.pointer none, .pointer (some ⟨rb, 0, none⟩), .agg #[.int .i64 5, .slice ao n cap]] W0 fun e w' => e = .returned (.bool true) ∧ Chg B W0 w' := by
  obtain ⟨rv, hin⟩ := h
  obtain ⟨c0, cf, hl⟩ := dcell hin.obj
  obtain ⟨ar, cr, rfl⟩ := own_slice hin.row
  simp only [List.length_nil] at c0
  clear hin
  have HLN := hide len_nil
  go_enter Try.func8, Try.ntmps8
  go_wp2
  go_quiet ((go_at_call 9; exact Calls.quiet_of_same (unhide HLN _)))
  go_wp2
  go_ret
  exact ⟨by first | rfl | simp, ((Chg.refl B W0).alloc _).then ⟨rfl, rfl, rfl, Nat.le_refl _, fun _ _ _ => rfl⟩⟩
set_option maxRecDepth 100000 in
set_option maxHeartbeats 2000000 in
theorem none_6 {W0 : World} {rb : Nat} {B : Nat → Prop} {ao : Option Addr} {n cap : Nat} (h : RAt W0 rb [] B) :
    Calls Try.prog 8 #[.pointer none, .pointer (some ⟨rb, 0, none⟩), .agg #[.int .i64 6, .slice ao n cap]] W0 fun e w' => e = .returned (.bool true) ∧ Chg B W0 w' := by
  have H := hide h
  have HLT := hide h.lt
  have HDR : Hid (∀ o : Obj, Calls Try.prog 10 #[.pointer none] (W0.alloc o) fun e w' => ∃ v, e = .returned v ∧ IRow w' v [] (fun b => b < W0.heap.size) ∧ Below W0.heap.size W0 w') := fun o => (drain_nilh _).mono fun e w' ⟨v, h1, h2, h3⟩ => ⟨v, h1, ⟨h2.1, fun g hg e => h2.2 g hg (by simp; omega)⟩, ((Below.refl _ _).alloc (Nat.le_refl _) o).trans (h3.mono (by simp))⟩
  clear h
  go_enter Try.func8, Try.ntmps8
  go_wp2_with fail
  refine (unhide HDR _).mono ?_
  rintro e w2 ⟨v, rfl, d3, b1⟩
  have HRD := hide (rdrain_any ((unhide H).below b1) (by simp))
  have I3 : Hid (Its w2 v [] B) := d3.its.mono fun b _ hb => unhide HLT b hb
  have B1 := hide b1
  clear d3 b1 HDR
  go_wp2_with fail
  refine (unhide HRD).mono ?_
  rintro e w4 ⟨v4, rfl, G4, e1, e2, e3, e4⟩
  have C4 : Hid (Chg B W0 w4) := (Chg.of_below (unhide B1)).then e4
  have HAL := hide (alike_true ((unhide I3).chg e4) (its_of_row (F := fun _ => False) e3.1 (fun _ _ h => h)) (by simp))
  clear e1 e2 e3 e4 HRD I3
  go_wp2_with fail
  refine (unhide HAL).mono ?_
  rintro e w5 ⟨rfl, b5⟩
  have C5 : Hid (Chg B W0 w5) := (unhide C4).then (Chg.of_below b5)
  clear b5 HAL
  go_wp2
  go_ret
  exact ⟨rfl, unhide C5⟩
set_option maxRecDepth 100000 in
theorem none_no {W0 : World} {rb : Nat} {B : Nat → Prop} {kd : Int} {ao : Option Addr} {n cap : Nat} (h1 : kd ≠ 1) (h2 : kd ≠ 2) (h3 : kd ≠ 3) (h4 : kd ≠ 4) (h5 : kd ≠ 5) (h6 : kd ≠ 6) :
    Calls Try.prog 8 #[.pointer none, .pointer (some ⟨rb, 0, none⟩), .agg #[.int .i64 kd, .slice ao n cap]] W0 fun e w' => e = .returned (.bool true) ∧ Chg B W0 w' := by
  have k1 : (kd == 1) = false := by simp [h1]
  have k2 : (kd == 2) = false := by simp [h2]
  have k3 : (kd == 3) = false := by simp [h3]
  have k4 : (kd == 4) = false := by simp [h4]
  have k5 : (kd == 5) = false := by simp [h5]
  have k6 : (kd == 6) = false := by simp [h6]
  go_enter Try.func8, Try.ntmps8
  go_wp2
  go_ret
  exact ⟨rfl, (Chg.refl _ _).alloc _⟩
theorem none_step {W0 : World} {rb : Nat} {B : Nat → Prop} {kd : Int} {X : List It} {v : Value} (h : RAt W0 rb [] B) (hx : Its W0 v X (fun _ => False)) (hz : X.length ≤ 8796093022207) (h1 : kd ≠ 1) :
    Calls Try.prog 8 #[.pointer none, .pointer (some ⟨rb, 0, none⟩), .agg #[.int .i64 kd, v]] W0 fun e w' => e = .returned (.bool true) ∧ Chg B W0 w' := by
  by_cases h4 : kd = 4
  · subst h4
    rcases X with _ | ⟨x, X⟩
    · obtain ⟨ao, cap, rfl, -⟩ := hx
      exact none_4n
    · exact none_4 h hx hz
  obtain ⟨ao, cap, rfl, -⟩ := hx
  by_cases h2 : kd = 2
  · subst h2
    exact none_2 h (fun W => pop_zero fun W' _ => peek_nil W') (fun W hR => (rpop_end hR).mono fun e w' h => ⟨h.1, h.2.2⟩)
  by_cases h3 : kd = 3
  · subst h3
    refine none_3 h (fun W => peek_nil W) (fun W hR => ?_)
    obtain ⟨rv, hR⟩ := hR
    exact (rpeek_none hR).mono fun e w' h => ⟨h.1, Chg.of_below h.2⟩
  by_cases h5 : kd = 5
  · subst h5; exact none_5 h
  by_cases h6 : kd = 6
  · subst h6; exact none_6 h
  exact none_no h1 h2 h3 h4 h5 h6
end Hp
end Go.Proofs.Ytddfljlecnllaab
