/- Layer 7: one call of a script, whatever it is, by both heaps. -/
import Derived.Test.YtddfljlecnllaaaKm
namespace Go.Proofs.Ytddfljlecnllaaa
open Go.RowKit
namespace Hp
set_option maxRecDepth 100000 in
theorem step_5 {w : World} {hb rb : Nat} {I : List It} {p : Nat} {F : Nat → Prop} {ao : Option Addr} {n cap : Nat} (h : Duo w hb rb I p F) :
    Calls Try.prog 13 #[.pointer (some ⟨hb, 0, none⟩), .pointer (some ⟨rb, 0, none⟩), .agg #[.int .i64 5, .slice ao n cap]] w fun e w' => e = .returned (.bool true) ∧ DuoRes F w hb rb I p w' := by
  have H : Hid (∀ (o : Obj) (q : Nat), DuoRes F w hb rb I p ((w.alloc o).drewN q)) := fun o q => h.res (((Below.refl _ _).alloc (Nat.le_refl _) o).trans ⟨rfl, rfl, rfl, Nat.le_refl _, fun _ _ => rfl⟩)
  obtain ⟨A, B, h2⟩ := h
  have HLN : Hid (∀ (o : Obj) (q : Nat), Calls Try.prog 17 #[.pointer (some ⟨hb, 0, none⟩)] ((w.alloc o).drewN q) fun e w' => e = .returned (.int .i64 I.length) ∧ w' = (w.alloc o).drewN q) := fun o q => len_any (h2.h.below (((Below.refl _ _).alloc (Nat.le_refl _) o).trans ⟨rfl, rfl, rfl, Nat.le_refl _, fun _ _ => rfl⟩))
  obtain ⟨rv, hin⟩ := h2.r
  obtain ⟨c0, cf, hl⟩ := dcell hin.obj
  obtain ⟨ar, cr, rfl⟩ := own_slice hin.row
  clear h2 hin
  go_enter Try.func13, Try.ntmps13
  go_wp2
  go_quiet ((go_at_call 17; exact Calls.quiet_of_same (unhide HLN _ _)))
  go_wp2
  go_ret
  exact ⟨by first | rfl | simp, unhide H _ _⟩
set_option maxRecDepth 100000 in
set_option maxHeartbeats 2000000 in
theorem step_6 {w : World} {hb rb : Nat} {I : List It} {p : Nat} {F : Nat → Prop} {ao : Option Addr} {n cap : Nat} (h : Duo w hb rb I p F) (hz : I.length ≤ 1099511627775) :
    Calls Try.prog 13 #[.pointer (some ⟨hb, 0, none⟩), .pointer (some ⟨rb, 0, none⟩), .agg #[.int .i64 6, .slice ao n cap]] w fun e w' => e = .returned (.bool true) ∧ DuoRes F w hb rb [] p w' := by
  obtain ⟨A, B, h2⟩ := h
  have H2 := hide h2
  have HB : Hid (∀ b, B b → b < w.heap.size) := fun b hb => h2.lt b (h2.inF b (.inr hb))
  have HA : Hid (∀ b, A b → b < w.heap.size) := fun b hb => h2.lt b (h2.inF b (.inl hb))
  have HDR : Hid (∀ o : Obj, Calls Try.prog 15 #[.pointer (some ⟨hb, 0, none⟩)] (w.alloc o) fun e w' => ∃ v, e = .returned v ∧ DRes A (w.alloc o) hb lessI rise_ p v (drain rise_ I) w' ∧ Below w.heap.size w (w.alloc o)) := fun o => (drain_any lessV_item (h2.h.below ((Below.refl _ _).alloc (Nat.le_refl _) o)) (by omega)).mono fun e w' ⟨v, h1, h3⟩ => ⟨v, h1, h3, (Below.refl _ _).alloc (Nat.le_refl _) o⟩
  have HSL : Hid ((drain rise_ I).length ≤ 1099511627776) := by rw [Hid, drain_len _ _ rfl]; omega
  clear h2
  go_enter Try.func13, Try.ntmps13
  go_wp2_with fail
  refine (unhide HDR _).mono ?_
  rintro e w2 ⟨v, rfl, ⟨G, d1, d2, d3, d4⟩, b1⟩
  have B1 := hide b1
  have R2 : Hid (Res A (w.alloc (.cells #[.int .i64 6, .slice ao n cap] 34)) hb lessI rise_ [] p w2) := ⟨d1.kept (fun _ _ => rfl) d2 (fun b hb => hb.elim (fun x => by have := unhide HA b x; have := d4.size; simp at this; omega) (fun x => x.2)), d4⟩
  have hs1 := b1.size
  have hs2 := d4.size
  have HRD := hide (rdrain_any ((unhide H2).ref b1 (unhide R2) (Below.refl _ _)) (by omega))
  have I3 : Hid (Its w2 v (drain rise_ I) B) := d3.its.mono fun b _ hb => .inr (by have := unhide HB b hb; omega)
  clear d1 d2 d3 d4 b1 HDR
  go_wp2_with fail
  refine (unhide HRD).mono ?_
  rintro e w4 ⟨v4, rfl, G4, e1, e2, e3, e4⟩
  have R4 : Hid (RRes B w2 rb [] w4) := ⟨e1.kept (fun _ _ => rfl) e2 (fun b hb => hb.elim (fun x => by have := unhide HB b x; have := e4.size; omega) (fun x => x.2)), e4⟩
  have HAL := hide (alike_true ((unhide I3).chg e4) (its_of_row (F := fun _ => False) e3.1 (fun _ _ h => h)) (unhide HSL))
  clear e1 e2 e3 e4 HRD I3
  go_wp2_with fail
  refine (unhide HAL).mono ?_
  rintro e w5 ⟨rfl, b5⟩
  have HFI := hide ((unhide H2).fin (unhide B1) (unhide R2) (Below.refl _ _) (unhide R4) b5)
  clear b5 HAL
  go_wp2
  go_ret
  exact ⟨rfl, unhide HFI⟩
set_option maxRecDepth 100000 in
theorem step_no {w : World} {hb rb : Nat} {I : List It} {p : Nat} {F : Nat → Prop} {kd : Int} {ao : Option Addr} {n cap : Nat} (h : Duo w hb rb I p F) (h1 : kd ≠ 1) (h2 : kd ≠ 2) (h3 : kd ≠ 3) (h4 : kd ≠ 4) (h5 : kd ≠ 5) (h6 : kd ≠ 6) :
    Calls Try.prog 13 #[.pointer (some ⟨hb, 0, none⟩), .pointer (some ⟨rb, 0, none⟩), .agg #[.int .i64 kd, .slice ao n cap]] w fun e w' => e = .returned (.bool true) ∧ DuoRes F w hb rb I p w' := by
  have H : Hid (∀ o : Obj, DuoRes F w hb rb I p (w.alloc o)) := fun o => h.res ((Below.refl _ _).alloc (Nat.le_refl _) o)
  have k1 : (kd == 1) = false := by simp [h1]
  have k2 : (kd == 2) = false := by simp [h2]
  have k3 : (kd == 3) = false := by simp [h3]
  have k4 : (kd == 4) = false := by simp [h4]
  have k5 : (kd == 5) = false := by simp [h5]
  have k6 : (kd == 6) = false := by simp [h6]
  clear h
  go_enter Try.func13, Try.ntmps13
  go_wp2
  go_ret
  exact ⟨rfl, unhide H _⟩
theorem step_any {w : World} {hb rb : Nat} {I X : List It} {p : Nat} {F : Nat → Prop} {kd : Int} {v : Value} (h : Duo w hb rb I p F) (hx : Its w v X F) (hz : I.length + X.length ≤ 1099511627775) (hp : p + X.length ≤ 4611686018427387904) :
    Calls Try.prog 13 #[.pointer (some ⟨hb, 0, none⟩), .pointer (some ⟨rb, 0, none⟩), .agg #[.int .i64 kd, v]] w fun e w' => e = .returned (.bool true) ∧ ∃ J q, DuoRes F w hb rb J q w' ∧ J.length ≤ I.length + X.length ∧ q ≤ p + X.length := by
  by_cases h1 : kd = 1
  · subst h1
    exact (step_1 h hx hz hp).mono fun e w' h => ⟨h.1, _, _, h.2, by simp, Nat.le_refl _⟩
  by_cases h4 : kd = 4
  · subst h4
    exact step_4 h hx hz hp
  obtain ⟨ao, cap, rfl, -⟩ := hx
  by_cases h2 : kd = 2
  · subst h2
    exact (step_2 h (by omega)).mono fun e w' ⟨h, J, h3, h4⟩ => ⟨h, J, p, h3, by omega, by omega⟩
  by_cases h3 : kd = 3
  · subst h3
    exact (step_3 h (by omega)).mono fun e w' h => ⟨h.1, I, p, h.2, by omega, by omega⟩
  by_cases h5 : kd = 5
  · subst h5
    exact (step_5 h).mono fun e w' h => ⟨h.1, I, p, h.2, by omega, by omega⟩
  by_cases h6 : kd = 6
  · subst h6
    exact (step_6 h (by omega)).mono fun e w' h => ⟨h.1, [], p, h.2, by simp, by omega⟩
  exact (step_no h h1 h2 h3 h4 h5 h6).mono fun e w' h => ⟨h.1, I, p, h.2, by omega, by omega⟩
end Hp
end Go.Proofs.Ytddfljlecnllaaa
