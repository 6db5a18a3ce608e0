/- Layer 7: one call of a script, by both heaps: Pop, Peek, Replace, Len, Drain. -/
import Derived.Test.YtddfljlecnllaaaKj
namespace Go.Proofs.Ytddfljlecnllaaa
open Go.RowKit
namespace Hp
set_option maxRecDepth 100000 in
set_option maxHeartbeats 2000000 in
theorem step_2g {w : World} {hb rb : Nat} {I J : List It} {y : It} {ok : Bool} {p : Nat} {F A B : Nat → Prop} {ao : Option Addr} {n cap : Nat} (h2 : Two w hb rb I p F A B)
    (hp : ∀ W, Below w.heap.size w W → Calls Try.prog 22 #[.pointer (some ⟨hb, 0, none⟩)] W fun e w' => e = .returned (.tuple #[.agg #[.int .i64 y.1, .int .i64 y.2], .bool ok]) ∧ Res A W hb lessI rise_ J p w')
    (hr : ∀ W, RAt W rb I B → Calls Try.prog 30 #[.pointer (some ⟨rb, 0, none⟩)] W fun e w' => e = .returned (.tuple #[.agg #[.int .i64 y.1, .int .i64 y.2], .bool ok]) ∧ RRes B W rb J w') :
    Calls Try.prog 13 #[.pointer (some ⟨hb, 0, none⟩), .pointer (some ⟨rb, 0, none⟩), .agg #[.int .i64 2, .slice ao n cap]] w fun e w' => e = .returned (.bool true) ∧ DuoRes F w hb rb J p w' := by
  have H2 := hide h2
  have HP : Hid (∀ o : Obj, Calls Try.prog 22 #[.pointer (some ⟨hb, 0, none⟩)] (w.alloc o) fun e w' => e = .returned (.tuple #[.agg #[.int .i64 y.1, .int .i64 y.2], .bool ok]) ∧ Res A (w.alloc o) hb lessI rise_ J p w' ∧ Below w.heap.size w (w.alloc o)) := fun o => (hp _ ((Below.refl _ _).alloc (Nat.le_refl _) o)).mono fun e w' h => ⟨h.1, h.2, (Below.refl _ _).alloc (Nat.le_refl _) o⟩
  have HR := hide hr
  have HLK := hide (like_any y y)
  rw [show decide (y = y) = true by simp] at HLK
  clear h2 hp hr
  go_enter Try.func13, Try.ntmps13
  go_wp2_with fail
  refine (unhide HP _).mono ?_
  rintro e w2 ⟨rfl, r2, b1⟩
  have R2 := hide r2
  have B1 := hide b1
  clear r2 b1 HP
  go_wp2_with fail
  have hb3 : Below w2.heap.size w2 (w2.alloc (.cells #[.int .i64 y.1, .int .i64 y.2] 39)) := (Below.refl _ _).alloc (Nat.le_refl _) _
  have hbx : (w2.alloc (.cells #[.int .i64 y.1, .int .i64 y.2] 39)).heap[w2.heap.size]? = some (.cells #[.int .i64 y.1, .int .i64 y.2] 39 (0, 0)) := (MapKept.heap_alloc w2 _).1
  generalize w2.alloc (.cells #[.int .i64 y.1, .int .i64 y.2] 39) = W3 at *
  have HRC := hide (unhide HR W3 ((unhide H2).ref (unhide B1) (unhide R2) hb3))
  have B3 := hide hb3
  have hs2 : w2.heap.size < W3.heap.size := (Array.getElem?_eq_some_iff.1 hbx).1
  have BX := hide hbx
  clear hb3 hbx
  refine (unhide HRC).mono ?_
  rintro e w4 ⟨rfl, r4⟩
  obtain ⟨x0, x1, xl⟩ := cells2_box ((r4.2.block _ hs2 (fun e => by have := (unhide H2).lt _ ((unhide H2).inF _ (.inr e)); have := (unhide B1).size; have := (unhide R2).2.size; omega)).trans (unhide BX))
  have R4 := hide r4
  clear r4 HRC BX
  go_wp2_with (go_at_call 31; refine (unhide HLK _).mono ?_; rintro e w5 ⟨rfl, hb5⟩; have B5 : Hid (Below w4.heap.size w4 w5) := ((Below.refl _ _).alloc (Nat.le_refl _) _).trans (hb5.mono (by simp)); clear hb5)
  have HFI := hide ((unhide H2).fin (unhide B1) (unhide R2) (unhide B3) (unhide R4) (unhide B5))
  go_ret
  exact ⟨by first | rfl | simp, unhide HFI⟩
set_option maxRecDepth 100000 in
set_option maxHeartbeats 2000000 in
theorem step_3g {w : World} {hb rb : Nat} {I J : List It} {y : It} {ok : Bool} {p : Nat} {F A B : Nat → Prop} {ao : Option Addr} {n cap : Nat} (h2 : Two w hb rb I p F A B)
    (hp : ∀ W, Below w.heap.size w W → Calls Try.prog 32 #[.pointer (some ⟨hb, 0, none⟩)] W fun e w' => e = .returned (.tuple #[.agg #[.int .i64 y.1, .int .i64 y.2], .bool ok]) ∧ Res A W hb lessI rise_ J p w')
    (hr : ∀ W, RAt W rb I B → Calls Try.prog 33 #[.pointer (some ⟨rb, 0, none⟩)] W fun e w' => e = .returned (.tuple #[.agg #[.int .i64 y.1, .int .i64 y.2], .bool ok]) ∧ RRes B W rb J w') :
    Calls Try.prog 13 #[.pointer (some ⟨hb, 0, none⟩), .pointer (some ⟨rb, 0, none⟩), .agg #[.int .i64 3, .slice ao n cap]] w fun e w' => e = .returned (.bool true) ∧ DuoRes F w hb rb J p w' := by
  have H2 := hide h2
  have HP : Hid (∀ o : Obj, Calls Try.prog 32 #[.pointer (some ⟨hb, 0, none⟩)] (w.alloc o) fun e w' => e = .returned (.tuple #[.agg #[.int .i64 y.1, .int .i64 y.2], .bool ok]) ∧ Res A (w.alloc o) hb lessI rise_ J p w' ∧ Below w.heap.size w (w.alloc o)) := fun o => (hp _ ((Below.refl _ _).alloc (Nat.le_refl _) o)).mono fun e w' h => ⟨h.1, h.2, (Below.refl _ _).alloc (Nat.le_refl _) o⟩
  have HR := hide hr
  have HLK := hide (like_any y y)
  rw [show decide (y = y) = true by simp] at HLK
  clear h2 hp hr
  go_enter Try.func13, Try.ntmps13
  go_wp2_with fail
  refine (unhide HP _).mono ?_
  rintro e w2 ⟨rfl, r2, b1⟩
  have R2 := hide r2
  have B1 := hide b1
  clear r2 b1 HP
  go_wp2_with fail
  have hb3 : Below w2.heap.size w2 (w2.alloc (.cells #[.int .i64 y.1, .int .i64 y.2] 39)) := (Below.refl _ _).alloc (Nat.le_refl _) _
  have hbx : (w2.alloc (.cells #[.int .i64 y.1, .int .i64 y.2] 39)).heap[w2.heap.size]? = some (.cells #[.int .i64 y.1, .int .i64 y.2] 39 (0, 0)) := (MapKept.heap_alloc w2 _).1
  generalize w2.alloc (.cells #[.int .i64 y.1, .int .i64 y.2] 39) = W3 at *
  have HRC := hide (unhide HR W3 ((unhide H2).ref (unhide B1) (unhide R2) hb3))
  have B3 := hide hb3
  have hs2 : w2.heap.size < W3.heap.size := (Array.getElem?_eq_some_iff.1 hbx).1
  have BX := hide hbx
  clear hb3 hbx
  refine (unhide HRC).mono ?_
  rintro e w4 ⟨rfl, r4⟩
  obtain ⟨x0, x1, xl⟩ := cells2_box ((r4.2.block _ hs2 (fun e => by have := (unhide H2).lt _ ((unhide H2).inF _ (.inr e)); have := (unhide B1).size; have := (unhide R2).2.size; omega)).trans (unhide BX))
  have R4 := hide r4
  clear r4 HRC BX
  go_wp2_with (go_at_call 31; refine (unhide HLK _).mono ?_; rintro e w5 ⟨rfl, hb5⟩; have B5 : Hid (Below w4.heap.size w4 w5) := ((Below.refl _ _).alloc (Nat.le_refl _) _).trans (hb5.mono (by simp)); clear hb5)
  have HFI := hide ((unhide H2).fin (unhide B1) (unhide R2) (unhide B3) (unhide R4) (unhide B5))
  go_ret
  exact ⟨by first | rfl | simp, unhide HFI⟩
theorem step_2 {w : World} {hb rb : Nat} {I : List It} {p : Nat} {F : Nat → Prop} {ao : Option Addr} {n cap : Nat} (h : Duo w hb rb I p F) (hz : I.length ≤ 1099511627775) :
    Calls Try.prog 13 #[.pointer (some ⟨hb, 0, none⟩), .pointer (some ⟨rb, 0, none⟩), .agg #[.int .i64 2, .slice ao n cap]] w fun e w' => e = .returned (.bool true) ∧ ∃ J, DuoRes F w hb rb J p w' ∧ J.length ≤ I.length := by
  obtain ⟨A, B, h2⟩ := h
  rcases hI : I with _ | ⟨z, t⟩
  · subst hI
    refine (step_2g (J := []) (y := (0, 0)) (ok := false) h2 (fun W hW => ?_) (fun W hR => rpop_end hR)).mono fun e w' h => ⟨h.1, [], h.2, by simp⟩
    obtain ⟨A', nv, h3, h4, h5⟩ := h2.h
    have : A' = [] := List.eq_nil_of_length_eq_zero (by rw [h4.len]; rfl)
    subst this
    refine (pop_zero (w := W) fun W' hW' => peek_none (h3.below (hW.trans (hW'.mono hW.size)))).mono ?_
    rintro e w' ⟨rfl, hb⟩
    exact ⟨rfl, Res.still (h2.h.below hW) hb⟩
  · rw [← hI]
    obtain ⟨x, J, hp⟩ := pop_ex (lt := rise_) (l := I) (by rw [hI]; simp)
    exact (step_2g (J := J) (y := x) (ok := true) h2 (fun W hW => pop_some lessV_item (h2.h.below hW) (by omega) hp) (fun W hR => rpop_go hR (by omega) hp)).mono fun e w' h => ⟨h.1, J, h.2, by have := pop_len hp; omega⟩
theorem peek_go {fv : Value} {lt : It → It → Bool} (L : LessV fv lt) {w : World} {hb : Nat} {I J : List It} {x : It} {p : Nat} {F : Nat → Prop} (h : HAt w hb fv lt I p F) (hp : pop lt I = some (x, J)) :
    Calls Try.prog 32 #[.pointer (some ⟨hb, 0, none⟩)] w fun e w' => e = .returned (.tuple #[.agg #[.int .i64 x.1, .int .i64 x.2], .bool true]) ∧ Below w.heap.size w w' := by
  obtain ⟨A, nv, hin, hbag, hsh⟩ := h
  obtain ⟨ao, cap, rfl⟩ := own_slice hin.row
  have hA0 : 0 < A.length := by
    rw [hbag.len]
    cases I with
    | nil => simp [pop] at hp
    | cons y t => simp
  obtain ⟨g, rfl⟩ : ∃ g, ao = some ⟨g, 0, none⟩ := by
    rcases hin.row.2 with ⟨e1, e2⟩ | ⟨g, c, cur, e1, _⟩
    · omega
    · injection e1 with e1 _ _; exact ⟨g, e1⟩
  have q := peek_some hin hA0
  have e : (gd A 0).1 = x := by
    obtain ⟨a, T, rfl⟩ : ∃ a T, A = a :: T := by cases A with | nil => simp at hA0 | cons a T => exact ⟨a, T, rfl⟩
    obtain ⟨J', e1, e2⟩ := hbag.pop L.ord (fun y hy => by
      obtain ⟨i, hi⟩ := List.mem_iff_getElem?.1 hy
      have := hsh.root L.ord i (List.getElem?_eq_some_iff.1 hi).1
      rw [gd_some hi] at this
      exact this)
    rw [hp] at e1
    injection e1 with e1
    injection e1 with e1 e3
    exact e1.symm
  rw [e] at q
  exact q
theorem step_3 {w : World} {hb rb : Nat} {I : List It} {p : Nat} {F : Nat → Prop} {ao : Option Addr} {n cap : Nat} (h : Duo w hb rb I p F) (hz : I.length ≤ 1099511627775) :
    Calls Try.prog 13 #[.pointer (some ⟨hb, 0, none⟩), .pointer (some ⟨rb, 0, none⟩), .agg #[.int .i64 3, .slice ao n cap]] w fun e w' => e = .returned (.bool true) ∧ DuoRes F w hb rb I p w' := by
  obtain ⟨A, B, h2⟩ := h
  rcases hI : I with _ | ⟨z, t⟩
  · subst hI
    refine step_3g (y := (0, 0)) (ok := false) h2 (fun W hW => ?_) (fun W hR => ?_)
    · obtain ⟨A', nv, h3, h4, h5⟩ := h2.h
      have : A' = [] := List.eq_nil_of_length_eq_zero (by rw [h4.len]; rfl)
      subst this
      refine (peek_none (h3.below hW)).mono ?_
      rintro e w' ⟨rfl, hb⟩
      exact ⟨rfl, Res.still (h2.h.below hW) hb⟩
    · obtain ⟨rv, hR'⟩ := hR
      refine (rpeek_none hR').mono ?_
      rintro e w' ⟨rfl, hb⟩
      exact ⟨rfl, (RRes.start ⟨rv, hR'⟩).below hR'.lt hb⟩
  · rw [← hI]
    obtain ⟨x, J, hp⟩ := pop_ex (lt := rise_) (l := I) (by rw [hI]; simp)
    refine step_3g (y := x) (ok := true) h2 (fun W hW => ?_) (fun W hR => ?_)
    · refine (peek_go lessV_item (h2.h.below hW) hp).mono ?_
      rintro e w' ⟨rfl, hb⟩
      exact ⟨rfl, Res.still (h2.h.below hW) hb⟩
    · obtain ⟨rv, hR'⟩ := hR
      refine (rpeek_some hR' (by omega) hp).mono ?_
      rintro e w' ⟨rfl, hb⟩
      exact ⟨rfl, (RRes.start ⟨rv, hR'⟩).below hR'.lt hb⟩
end Hp
end Go.Proofs.Ytddfljlecnllaaa
