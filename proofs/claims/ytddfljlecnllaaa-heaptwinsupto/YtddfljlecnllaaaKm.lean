/- Layer 7: one call of a script, by both heaps: Replace, Len, Drain. -/
import Derived.Test.YtddfljlecnllaaaKl
namespace Go.Proofs.Ytddfljlecnllaaa
open Go.RowKit
namespace Hp
theorem Duo.res {w w' : World} {hb rb : Nat} {I : List It} {p : Nat} {F : Nat → Prop} (h : Duo w hb rb I p F) (b : Below w.heap.size w w') : DuoRes F w hb rb I p w' :=
  ⟨h.kept (fun k hk => b.block k (h.lt k hk)) (fun _ x => .inl x) (fun k hk => hk.elim (fun x => Nat.lt_of_lt_of_le (h.lt k x) b.size) (fun x => x.2)), Chg.of_below b⟩
set_option maxRecDepth 100000 in
set_option maxHeartbeats 2000000 in
theorem step_4g {w : World} {hb rb : Nat} {I J X : List It} {x y : It} {ok : Bool} {p : Nat} {F A B : Nat → Prop} {v : Value} (h2 : Two w hb rb I p F A B) (hx : Its w v (x :: X) F) (hz : X.length + 1 ≤ 1099511627775)
    (hp : ∀ W, Below w.heap.size w W → Calls Try.prog 34 #[.pointer (some ⟨hb, 0, none⟩), .agg #[.int .i64 x.1, .int .i64 x.2]] W fun e w' => e = .returned (.tuple #[.agg #[.int .i64 y.1, .int .i64 y.2], .bool ok]) ∧ Res A W hb lessI rise_ (J ++ [x]) (p + 1) w')
    (hr : ∀ W, RAt W rb I B → Calls Try.prog 35 #[.pointer (some ⟨rb, 0, none⟩), .agg #[.int .i64 x.1, .int .i64 x.2]] W fun e w' => e = .returned (.tuple #[.agg #[.int .i64 y.1, .int .i64 y.2], .bool ok]) ∧ RRes B W rb (J ++ [x]) w') :
    Calls Try.prog 13 #[.pointer (some ⟨hb, 0, none⟩), .pointer (some ⟨rb, 0, none⟩), .agg #[.int .i64 4, v]] w fun e w' => e = .returned (.bool true) ∧ DuoRes F w hb rb (J ++ [x]) (p + 1) w' := by
  have H2 := hide h2
  have HX := hide hx
  obtain ⟨ao, cap, rfl, hat⟩ := hx
  obtain ⟨g, off, rfl, hg, -, hc⟩ := hat (by simp)
  obtain ⟨x0, x1⟩ := hc 0 x rfl
  rw [Nat.zero_mul, Nat.add_zero] at x0 x1
  have HA : Hid (∀ b, A b → b < w.heap.size) := fun b hb => h2.lt b (h2.inF b (.inl hb))
  have HP : Hid (∀ o : Obj, Calls Try.prog 34 #[.pointer (some ⟨hb, 0, none⟩), .agg #[.int .i64 x.1, .int .i64 x.2]] (w.alloc o) fun e w' => e = .returned (.tuple #[.agg #[.int .i64 y.1, .int .i64 y.2], .bool ok]) ∧ Res A (w.alloc o) hb lessI rise_ (J ++ [x]) (p + 1) w' ∧ Below w.heap.size w (w.alloc o) ∧ w'.heap[w.heap.size]? = some o) := fun o => (hp _ ((Below.refl _ _).alloc (Nat.le_refl _) o)).mono fun e w' h => ⟨h.1, h.2, (Below.refl _ _).alloc (Nat.le_refl _) o, (h.2.2.block w.heap.size (by simp) (fun e => by have := unhide HA _ e; omega)).trans (MapKept.heap_alloc w o).1⟩
  have HR := hide hr
  have HLK := hide (like_any y y)
  rw [show decide (y = y) = true by simp] at HLK
  have hn0 : (0 : Int) < ((X.length : Int) + 1) := by omega
  clear h2 hp hr hat hc
  simp only [List.length_cons]
  go_enter Try.func13, Try.ntmps13
  go_wp2_with fail
  refine (unhide HP _).mono ?_
  rintro e w2 ⟨rfl, r2, b1, bx⟩
  have R2 := hide r2
  have B1 := hide b1
  obtain ⟨o0, o1, ol⟩ := cells2_box bx
  have HRF : Hid (∀ o : Obj, Its (w2.alloc o) (.slice (some ⟨g, off, none⟩) (X.length + 1) cap) (x :: X) (fun _ => False)) := fun o => by
    have q := ((unhide HX).chg (Chg.of_below b1)).mono (G := A) fun b _ hA => (unhide H2).inF b (.inl hA)
    exact ((q.chg r2.2).mono (G := fun _ => False) fun _ _ h => h.elim).chg (Chg.of_below ((Below.refl _ _).alloc (Nat.le_refl _) o))
  have BX := hide bx
  clear r2 b1 bx HP x0 x1
  go_wp2_with fail
  have hb3 : Below w2.heap.size w2 (w2.alloc (.cells #[.int .i64 y.1, .int .i64 y.2] 39)) := (Below.refl _ _).alloc (Nat.le_refl _) _
  have hbx : (w2.alloc (.cells #[.int .i64 y.1, .int .i64 y.2] 39)).heap[w2.heap.size]? = some (.cells #[.int .i64 y.1, .int .i64 y.2] 39 (0, 0)) := (MapKept.heap_alloc w2 _).1
  have HRI := unhide HRF (.cells #[.int .i64 y.1, .int .i64 y.2] 39)
  generalize w2.alloc (.cells #[.int .i64 y.1, .int .i64 y.2] 39) = W3 at *
  have HRC := hide (ref_any HRI (by simp; omega))
  have B3 := hide hb3
  have hs2 : w2.heap.size < W3.heap.size := (Array.getElem?_eq_some_iff.1 hbx).1
  have BX3 := hide hbx
  clear hb3 hbx HRI HRF
  refine (unhide HRC).mono ?_
  rintro e w3 ⟨u3, rfl, g3⟩
  have B4 : Hid (Below w2.heap.size w2 w3) := (unhide B3).trans (g3.old.mono (unhide B3).size)
  have hs3 : w2.heap.size < w3.heap.size := Nat.lt_of_lt_of_le hs2 g3.old.size
  obtain ⟨ar, cr, rfl, hat⟩ := its_of_row (F := fun _ => False) g3.row (fun _ _ h => h)
  obtain ⟨gr, offr, rfl, hgr, -, hcr⟩ := hat (by simp)
  obtain ⟨y0, y1⟩ := hcr 0 x rfl
  rw [Nat.zero_mul, Nat.add_zero] at y0 y1
  simp only [List.length_cons]
  have HRC2 := hide (unhide HR w3 ((unhide H2).ref (unhide B1) (unhide R2) (unhide B4)))
  have BX4 : Hid (w3.heap[w2.heap.size]? = some (.cells #[.int .i64 y.1, .int .i64 y.2] 39 (0, 0))) := (g3.old.block _ hs2).trans (unhide BX3)
  clear g3 hat hcr HRC BX3
  go_wp2_with fail
  refine (unhide HRC2).mono ?_
  rintro e w4 ⟨rfl, r4⟩
  obtain ⟨l0, l1, ll⟩ := cells2_box ((r4.2.block _ hs3 (fun e => by have := (unhide H2).lt _ ((unhide H2).inF _ (.inr e)); have := (unhide B1).size; have := (unhide R2).2.size; omega)).trans (unhide BX4))
  have R4 := hide r4
  clear r4 HRC2 BX4
  go_wp2_with (go_at_call 31; refine (unhide HLK _).mono ?_; rintro e w5 ⟨rfl, hb5⟩; have B5 : Hid (Below w4.heap.size w4 w5) := ((Below.refl _ _).alloc (Nat.le_refl _) _).trans (hb5.mono (by simp)); clear hb5)
  have HFI := hide ((unhide H2).fin (unhide B1) (unhide R2) (unhide B4) (unhide R4) (unhide B5))
  go_ret
  exact ⟨by first | rfl | simp, unhide HFI⟩
set_option maxRecDepth 100000 in
theorem step_4n {w : World} {hb rb : Nat} {I : List It} {p : Nat} {F : Nat → Prop} {ao : Option Addr} {cap : Nat} (h : Duo w hb rb I p F) :
    Calls Try.prog 13 #[.pointer (some ⟨hb, 0, none⟩), .pointer (some ⟨rb, 0, none⟩), .agg #[.int .i64 4, .slice ao 0 cap]] w fun e w' => e = .returned (.bool true) ∧ DuoRes F w hb rb I p w' := by
  have H : Hid (∀ o : Obj, DuoRes F w hb rb I p (w.alloc o)) := fun o => h.res ((Below.refl _ _).alloc (Nat.le_refl _) o)
  clear h
  go_enter Try.func13, Try.ntmps13
  go_wp2
  go_ret
  exact ⟨rfl, unhide H _⟩
theorem step_4 {w : World} {hb rb : Nat} {I X : List It} {p : Nat} {F : Nat → Prop} {v : Value} (h : Duo w hb rb I p F) (hx : Its w v X F) (hz : I.length + X.length ≤ 1099511627775) (hp : p + X.length ≤ 4611686018427387904) :
    Calls Try.prog 13 #[.pointer (some ⟨hb, 0, none⟩), .pointer (some ⟨rb, 0, none⟩), .agg #[.int .i64 4, v]] w fun e w' => e = .returned (.bool true) ∧ ∃ J q, DuoRes F w hb rb J q w' ∧ J.length ≤ I.length + X.length ∧ q ≤ p + X.length := by
  rcases X with _ | ⟨x, X⟩
  · obtain ⟨ao, cap, rfl, -⟩ := hx
    exact (step_4n h).mono fun e w' h => ⟨h.1, I, p, h.2, by simp, by simp⟩
  · obtain ⟨A, B, h2⟩ := h
    simp only [List.length_cons] at hz hp
    have hB : ∀ b, B b → b < w.heap.size := fun b hb => h2.lt b (h2.inF b (.inr hb))
    rcases hI : I with _ | ⟨z, t⟩
    · subst hI
      refine (step_4g (J := []) (y := (0, 0)) (ok := false) h2 hx (by omega) (fun W hW => replace_none lessV_item (h2.h.below hW) (by omega) x) (fun W hR => rreplace_any hR.lt (by simp) fun W' hW' => rpop_end (hR.below hW'))).mono fun e w' h => ⟨h.1, _, _, h.2, by simp, by simp⟩
    · rw [← hI]
      obtain ⟨y, J, hpop⟩ := pop_ex (lt := rise_) (l := I) (by rw [hI]; simp)
      have hpl := pop_len hpop
      exact (step_4g (J := J) (y := y) (ok := true) h2 hx (by omega) (fun W hW => replace_some lessV_item (h2.h.below hW) (by omega) (by omega) hpop x) (fun W hR => rreplace_any hR.lt (by omega) fun W' hW' => rpop_go (hR.below hW') (by omega) hpop)).mono fun e w' h => ⟨h.1, _, _, h.2, by simp; omega, by simp⟩
end Hp
end Go.Proofs.Ytddfljlecnllaaa
