import Derived.Test.YtmhegbeemgagkaaGreatDoorGm34
namespace Go.Proofs.YtmhegbeemgagkaaGreatDoor
open Go.RowKit
namespace Af
open RowB
set_option maxRecDepth 100000 in
set_option maxHeartbeats 8000000 in
theorem inner_rul {B rb : Nat} {w : World} {R : Rdr} {P : DPts} {v : Value} {A : List (Nat × List Bs)} {c : Cls} {i : Nat} (h : DAt B w rb R P v A) (row : List Bs) (rv : Value) (hrow : RowIn B w rv row) (hfew : ∀ f ∈ row, f.length ≤ 65536 ∧ f ≠ []) (h0 : row ≠ []) (hk1 : fld row 0 ≠ [82, 69, 80]) (hk2 : fld row 0 ≠ [65, 70]) (hc : R.file.classes[i]? = some c) (hci : R.file.classes.length = i + 1) (hlt : R.file.rules.length < 1024) :
  Calls Tryz.prog 97 #[ptr rb, rv] w (DRes B rb v A w (rulX c R row)) := by
 obtain ⟨i0, hi, hz0, hz1, hz2⟩ := info_parts infoDU
 obtain ⟨d0, -, -, -, -, d5, -⟩ := h.cells
 obtain ⟨-, -, -, -, -, -, k11, -, -⟩ := h.file.cells
 have hpos : 0 < row.length := List.length_pos_iff.2 h0
 have HROW := hide hrow
 obtain ⟨g, cap, rfl, hg, hgn, hrc⟩ := hrow.get
 have q0 := hrc 0 hpos
 have t0 := lst_f (s := Fld.str (fld row 0)) (l := [82, 69, 80]) (by rw [str_toList]; exact hk1)
 have t1 := lst_f (s := Fld.str (fld row 0)) (l := [65, 70]) (by rw [str_toList]; exact hk2)
 have HH := hide h
 have HFEW := hide hfew
 have hrb := h.lt
 have hfb := h.file.lt
 clear h0 hk1 hk2
 by_cases hn : row.length = 4 ∨ row.length = 5
 ·obtain ⟨ac, cc, ec, hmc, hcl⟩ := own_cls h.file.clss
  rw [ec] at k11
  obtain ⟨gc, rfl, hgc, c0, c1, c2, c3, c4⟩ := hcl i c hc
  rw [hci] at k11 hmc
  unfold maxLen at hmc
  have i1 : ¬ (((i + 1 : Nat) : Int) - 1 < 0) := by omega
  have i2 : (((i + 1 : Nat) : Int) - 1) < ((i + 1 : Nat) : Int) := by omega
  have i3 : (((i + 1 : Nat) : Int) - 1).toNat = i := by omega
  have i4 : ((i + 1 : Nat) : Int) ≤ 9223372036854775807 := by omega
  have HRD := hide (fun (W : World) (X : Nat) (hb : Below w.heap.size w W) (hX : w.heap.size ≤ X) (hW : W.heap[X]? = some (.cells (drulC (rul0 c R.line) (.slice none 0 0)).toArray 106 (0, 0))) => rule_doc (rh_new (unhide HH) (unhide HROW) (unhide HFEW) hb hX hW) hn)
  have hn4 : row.length = 4 ∨ row.length = 5 := hn
  generalize hnn : row.length = nr at *
  have hg1 : (((nr : Int) == 4) = false → ((nr : Int) == 5) = true) := by
   intro q
   rw [beq_eq_false_iff_ne] at q
   rw [beq_iff_eq]
   omega
  clear hrow hrc hfew hcl hc hci h ec hnn hn
  generalize Fld.str (fld row 0) = r0 at *
  rcases hn4 with rfl | rfl
  ·go_enter Tryz.func97, Tryz.ntmps97
   go_wp2_with fail
   go_region
   go_wp2_with fail
   go_region
   go_wp2_with fail
   have hb2 : Below w.heap.size w ((w.alloc (.cells #[.int .i64 c.flag, .int .i64 c.kind, .bool c.cross, .int .i64 (c.first : Nat), .int .i64 (c.count : Nat)] 52)).alloc (.cells (drulC (rul0 c R.line) (.slice none 0 0)).toArray 106)).drew.drew := ((((Below.refl _ w).alloc (Nat.le_refl _) _).alloc (by simp) _).drew).drew
   have hW : ((w.alloc (.cells #[.int .i64 c.flag, .int .i64 c.kind, .bool c.cross, .int .i64 (c.first : Nat), .int .i64 (c.count : Nat)] 52)).alloc (.cells (drulC (rul0 c R.line) (.slice none 0 0)).toArray 106)).drew.drew.heap[w.heap.size + 1]? = some (.cells (drulC (rul0 c R.line) (.slice none 0 0)).toArray 106 (0, 0)) := by
    have := alloc_new (w.alloc (.cells #[.int .i64 c.flag, .int .i64 c.kind, .bool c.cross, .int .i64 (c.first : Nat), .int .i64 (c.count : Nat)] 52)) (.cells (drulC (rul0 c R.line) (.slice none 0 0)).toArray 106)
    rw [show (w.alloc (.cells #[.int .i64 c.flag, .int .i64 c.kind, .bool c.cross, .int .i64 (c.first : Nat), .int .i64 (c.count : Nat)] 52)).heap.size = w.heap.size + 1 by simp] at this
    exact this
   have HB2 := hide hb2
   refine (unhide HRD _ (w.heap.size + 1) hb2 (Nat.le_succ _) hW).mono ?_
   clear hW hb2
   rintro e w5 hres
   obtain ⟨ec, r, u, rfl, hS, hfin⟩ := rres_fin (w := w) (B := B) (rb := rb) (v := v) (A := A) hres
   obtain ⟨au, cu, rfl, -, -⟩ := hS.nxt.form
   have HFIN := hide hfin
   have HB5 := hide ((unhide HB2).trans (hS.low.mono (Nat.le_succ _)))
   have HS := hide hS
   have HA5 := hide ((unhide HH).below (unhide HB5))
   obtain ⟨-, -, -, -, -, -, -, k12, kz⟩ := (unhide HA5).file.cells
   have hfb5 := (unhide HA5).file.lt
   obtain ⟨av, cv, ev, -, -⟩ := own_len (unhide HA5).file.ruls
   have hne : P.vu.ownBlock ≠ some (w.heap.size + 1) := fun q => by
    have := ((unhide HH).file.ruls.lt _ q).2
    omega
   have hB5 := (unhide HA5).base
   have hxl := hS.lt
   have hx5 := hS.blk
   obtain ⟨a6, c6, w6, hap, o6, k6, l6, b6⟩ := push1 (B := B) (w := w5) (X := (w5.alloc (.cells #[.int .i64 r.kind, .int .i64 r.flag, .bool r.cross, .string (Wd.str r.strip), .string (Wd.str r.add), .string (Wd.str r.cond), .slice au r.next.length cu, .int .i64 (r.line : Nat)] 106)).drew) (t := 95) (v := P.vu) (news := [.int .i64 r.kind, .int .i64 r.flag, .bool r.cross, .string (Wd.str r.strip), .string (Wd.str r.add), .string (Wd.str r.cond), .slice au r.next.length cu, .int .i64 (r.line : Nat)]) Tryz.underlying95 infoDU rfl (by decide) (unhide HA5).file.ruls hB5 (((Below.refl _ _).alloc (Nat.le_refl _) _).drew) (alloc_new w5 _) rfl (by simp [Value.oneCell']) (by omega) (by decide) 95
   rw [ev] at k12 hap
   have hf6 := (k6.cells _ _ _ _ (unhide HA5).file.fil (by decide)).trans (unhide HA5).file.fil
   have k126 : w6.cell? ⟨P.fb, 12, none⟩ = some (.slice av R.file.rules.length cv) := by
    rw [← ev]
    simp [World.cell?, hf6, dfilC]
   have f6 : w6.frozen? ⟨P.fb, 12, none⟩ = false := by simp [World.frozen?, hf6]
   have l6f : P.fb < w6.heap.size := lt_some hf6
   have hx6 := (b6 (w.heap.size + 1) hxl hne).trans hx5
   have H0 : Hid (w5.cell? ⟨P.fb, 12, none⟩ = some (.slice av R.file.rules.length cv) ∧ w5.cell? ⟨w.heap.size + 1, 0, none⟩ = some (.int .i64 r.kind) ∧ w5.cell? ⟨w.heap.size + 1, 1, none⟩ = some (.int .i64 r.flag) ∧ w5.cell? ⟨w.heap.size + 1, 2, none⟩ = some (.bool r.cross) ∧ w5.cell? ⟨w.heap.size + 1, 3, none⟩ = some (.string (Wd.str r.strip)) ∧ w5.cell? ⟨w.heap.size + 1, 4, none⟩ = some (.string (Wd.str r.add)) ∧ w5.cell? ⟨w.heap.size + 1, 5, none⟩ = some (.string (Wd.str r.cond)) ∧ w5.cell? ⟨w.heap.size + 1, 6, none⟩ = some (.slice au r.next.length cu) ∧ w5.cell? ⟨w.heap.size + 1, 7, none⟩ = some (.int .i64 (r.line : Nat))) := hide ⟨k12, blk_all hx5⟩
   have hxA : (w5.alloc (.cells #[.int .i64 r.kind, .int .i64 r.flag, .bool r.cross, .string (Wd.str r.strip), .string (Wd.str r.add), .string (Wd.str r.cond), .slice au r.next.length cu, .int .i64 (r.line : Nat)] 106)).drew.heap[w.heap.size + 1]? = some (.cells (drulC r (.slice au r.next.length cu)).toArray 106 (0, 0)) := alloc_heap1 hx5 _
   have HA : Hid ((w5.alloc (.cells #[.int .i64 r.kind, .int .i64 r.flag, .bool r.cross, .string (Wd.str r.strip), .string (Wd.str r.add), .string (Wd.str r.cond), .slice au r.next.length cu, .int .i64 (r.line : Nat)] 106)).drew.cell? ⟨P.fb, 12, none⟩ = some (.slice av R.file.rules.length cv) ∧ (w5.alloc (.cells #[.int .i64 r.kind, .int .i64 r.flag, .bool r.cross, .string (Wd.str r.strip), .string (Wd.str r.add), .string (Wd.str r.cond), .slice au r.next.length cu, .int .i64 (r.line : Nat)] 106)).drew.cell? ⟨w.heap.size + 1, 0, none⟩ = some (.int .i64 r.kind) ∧ (w5.alloc (.cells #[.int .i64 r.kind, .int .i64 r.flag, .bool r.cross, .string (Wd.str r.strip), .string (Wd.str r.add), .string (Wd.str r.cond), .slice au r.next.length cu, .int .i64 (r.line : Nat)] 106)).drew.cell? ⟨w.heap.size + 1, 1, none⟩ = some (.int .i64 r.flag) ∧ (w5.alloc (.cells #[.int .i64 r.kind, .int .i64 r.flag, .bool r.cross, .string (Wd.str r.strip), .string (Wd.str r.add), .string (Wd.str r.cond), .slice au r.next.length cu, .int .i64 (r.line : Nat)] 106)).drew.cell? ⟨w.heap.size + 1, 2, none⟩ = some (.bool r.cross) ∧ (w5.alloc (.cells #[.int .i64 r.kind, .int .i64 r.flag, .bool r.cross, .string (Wd.str r.strip), .string (Wd.str r.add), .string (Wd.str r.cond), .slice au r.next.length cu, .int .i64 (r.line : Nat)] 106)).drew.cell? ⟨w.heap.size + 1, 3, none⟩ = some (.string (Wd.str r.strip)) ∧ (w5.alloc (.cells #[.int .i64 r.kind, .int .i64 r.flag, .bool r.cross, .string (Wd.str r.strip), .string (Wd.str r.add), .string (Wd.str r.cond), .slice au r.next.length cu, .int .i64 (r.line : Nat)] 106)).drew.cell? ⟨w.heap.size + 1, 4, none⟩ = some (.string (Wd.str r.add)) ∧ (w5.alloc (.cells #[.int .i64 r.kind, .int .i64 r.flag, .bool r.cross, .string (Wd.str r.strip), .string (Wd.str r.add), .string (Wd.str r.cond), .slice au r.next.length cu, .int .i64 (r.line : Nat)] 106)).drew.cell? ⟨w.heap.size + 1, 5, none⟩ = some (.string (Wd.str r.cond)) ∧ (w5.alloc (.cells #[.int .i64 r.kind, .int .i64 r.flag, .bool r.cross, .string (Wd.str r.strip), .string (Wd.str r.add), .string (Wd.str r.cond), .slice au r.next.length cu, .int .i64 (r.line : Nat)] 106)).drew.cell? ⟨w.heap.size + 1, 6, none⟩ = some (.slice au r.next.length cu) ∧ (w5.alloc (.cells #[.int .i64 r.kind, .int .i64 r.flag, .bool r.cross, .string (Wd.str r.strip), .string (Wd.str r.add), .string (Wd.str r.cond), .slice au r.next.length cu, .int .i64 (r.line : Nat)] 106)).drew.cell? ⟨w.heap.size + 1, 7, none⟩ = some (.int .i64 (r.line : Nat))) := hide ⟨(((Below.refl w5.heap.size w5).alloc (Nat.le_refl _) _).drew.cell (p := ⟨P.fb, 12, none⟩) hfb5).trans k12, blk_all hxA⟩
   have H6 : Hid (w6.cell? ⟨P.fb, 12, none⟩ = some (.slice av R.file.rules.length cv) ∧ w6.cell? ⟨w.heap.size + 1, 0, none⟩ = some (.int .i64 r.kind) ∧ w6.cell? ⟨w.heap.size + 1, 1, none⟩ = some (.int .i64 r.flag) ∧ w6.cell? ⟨w.heap.size + 1, 2, none⟩ = some (.bool r.cross) ∧ w6.cell? ⟨w.heap.size + 1, 3, none⟩ = some (.string (Wd.str r.strip)) ∧ w6.cell? ⟨w.heap.size + 1, 4, none⟩ = some (.string (Wd.str r.add)) ∧ w6.cell? ⟨w.heap.size + 1, 5, none⟩ = some (.string (Wd.str r.cond)) ∧ w6.cell? ⟨w.heap.size + 1, 6, none⟩ = some (.slice au r.next.length cu) ∧ w6.cell? ⟨w.heap.size + 1, 7, none⟩ = some (.int .i64 (r.line : Nat))) := hide ⟨k126, blk_all hx6⟩
   have HAP := hide hap
   have HF6 := hide (And.intro f6 l6f)
   have HZ := hide ((unhide HH).addRul (v' := .slice a6 (R.file.rules.length + 1) c6) r hlt (unhide HB5) (unhide HS).nxt k6 l6 o6)
   clear hres hfin hS ev hap o6 k6 l6 b6 hf6 k126 f6 l6f hx6 hxA hx5 hne kz k12 hxl hB5 d0 d5 k11 q0 c0 c1 c2 c3 c4
   clear HFEW HROW HRD HB2 hi hz0 hz1 hz2 hmc hgc hg1 hgn i1 i2 i3 i4 hpos hrb hfb t0 t1 hlt hg
   go_wp2_with fail
   refine reg23_wp H0 HA H6 HF6 HAP _ _ _ _ _ _ _ _ _ _ _ _ _ _ _ _ _ _ _ _ _ _ _ _ _ _ _ _ _ _ _ _ _ _ _ _ _ _ _ _ _ _ _ _ _ _ _ _ _ _ _ _ _ _ _ _ _ _ _ _ _ _ _ _ _ _ _ _ _ _ _ _ _ _ _ _ _ _ _ _ _ _ _ _ _ _ _ _ _ _ _ _ _ _ _ _ _ _ _ _ _ _ _ _ _ _ _ _ _ _ _ _ _ _ _ _ _ _ _ _ _ _ _ _ ?_
   rename_i K hK
   intro x117 x118 x119 x120 x121 x122 x123 x124 x125 x126
   apply hK
   go_wp2_with fail
   go_ret
   exact unhide HFIN _ _ (unhide HZ).1 (unhide HZ).2
  ·go_enter Tryz.func97, Tryz.ntmps97
   go_wp2_with fail
   go_region
   go_wp2_with fail
   go_region
   go_wp2_with fail
   have hb2 : Below w.heap.size w ((w.alloc (.cells #[.int .i64 c.flag, .int .i64 c.kind, .bool c.cross, .int .i64 (c.first : Nat), .int .i64 (c.count : Nat)] 52)).alloc (.cells (drulC (rul0 c R.line) (.slice none 0 0)).toArray 106)).drew.drew := ((((Below.refl _ w).alloc (Nat.le_refl _) _).alloc (by simp) _).drew).drew
   have hW : ((w.alloc (.cells #[.int .i64 c.flag, .int .i64 c.kind, .bool c.cross, .int .i64 (c.first : Nat), .int .i64 (c.count : Nat)] 52)).alloc (.cells (drulC (rul0 c R.line) (.slice none 0 0)).toArray 106)).drew.drew.heap[w.heap.size + 1]? = some (.cells (drulC (rul0 c R.line) (.slice none 0 0)).toArray 106 (0, 0)) := by
    have := alloc_new (w.alloc (.cells #[.int .i64 c.flag, .int .i64 c.kind, .bool c.cross, .int .i64 (c.first : Nat), .int .i64 (c.count : Nat)] 52)) (.cells (drulC (rul0 c R.line) (.slice none 0 0)).toArray 106)
    rw [show (w.alloc (.cells #[.int .i64 c.flag, .int .i64 c.kind, .bool c.cross, .int .i64 (c.first : Nat), .int .i64 (c.count : Nat)] 52)).heap.size = w.heap.size + 1 by simp] at this
    exact this
   have HB2 := hide hb2
   refine (unhide HRD _ (w.heap.size + 1) hb2 (Nat.le_succ _) hW).mono ?_
   clear hW hb2
   rintro e w5 hres
   obtain ⟨ec, r, u, rfl, hS, hfin⟩ := rres_fin (w := w) (B := B) (rb := rb) (v := v) (A := A) hres
   obtain ⟨au, cu, rfl, -, -⟩ := hS.nxt.form
   have HFIN := hide hfin
   have HB5 := hide ((unhide HB2).trans (hS.low.mono (Nat.le_succ _)))
   have HS := hide hS
   have HA5 := hide ((unhide HH).below (unhide HB5))
   obtain ⟨-, -, -, -, -, -, -, k12, kz⟩ := (unhide HA5).file.cells
   have hfb5 := (unhide HA5).file.lt
   obtain ⟨av, cv, ev, -, -⟩ := own_len (unhide HA5).file.ruls
   have hne : P.vu.ownBlock ≠ some (w.heap.size + 1) := fun q => by
    have := ((unhide HH).file.ruls.lt _ q).2
    omega
   have hB5 := (unhide HA5).base
   have hxl := hS.lt
   have hx5 := hS.blk
   obtain ⟨a6, c6, w6, hap, o6, k6, l6, b6⟩ := push1 (B := B) (w := w5) (X := (w5.alloc (.cells #[.int .i64 r.kind, .int .i64 r.flag, .bool r.cross, .string (Wd.str r.strip), .string (Wd.str r.add), .string (Wd.str r.cond), .slice au r.next.length cu, .int .i64 (r.line : Nat)] 106)).drew) (t := 95) (v := P.vu) (news := [.int .i64 r.kind, .int .i64 r.flag, .bool r.cross, .string (Wd.str r.strip), .string (Wd.str r.add), .string (Wd.str r.cond), .slice au r.next.length cu, .int .i64 (r.line : Nat)]) Tryz.underlying95 infoDU rfl (by decide) (unhide HA5).file.ruls hB5 (((Below.refl _ _).alloc (Nat.le_refl _) _).drew) (alloc_new w5 _) rfl (by simp [Value.oneCell']) (by omega) (by decide) 95
   rw [ev] at k12 hap
   have hf6 := (k6.cells _ _ _ _ (unhide HA5).file.fil (by decide)).trans (unhide HA5).file.fil
   have k126 : w6.cell? ⟨P.fb, 12, none⟩ = some (.slice av R.file.rules.length cv) := by
    rw [← ev]
    simp [World.cell?, hf6, dfilC]
   have f6 : w6.frozen? ⟨P.fb, 12, none⟩ = false := by simp [World.frozen?, hf6]
   have l6f : P.fb < w6.heap.size := lt_some hf6
   have hx6 := (b6 (w.heap.size + 1) hxl hne).trans hx5
   have H0 : Hid (w5.cell? ⟨P.fb, 12, none⟩ = some (.slice av R.file.rules.length cv) ∧ w5.cell? ⟨w.heap.size + 1, 0, none⟩ = some (.int .i64 r.kind) ∧ w5.cell? ⟨w.heap.size + 1, 1, none⟩ = some (.int .i64 r.flag) ∧ w5.cell? ⟨w.heap.size + 1, 2, none⟩ = some (.bool r.cross) ∧ w5.cell? ⟨w.heap.size + 1, 3, none⟩ = some (.string (Wd.str r.strip)) ∧ w5.cell? ⟨w.heap.size + 1, 4, none⟩ = some (.string (Wd.str r.add)) ∧ w5.cell? ⟨w.heap.size + 1, 5, none⟩ = some (.string (Wd.str r.cond)) ∧ w5.cell? ⟨w.heap.size + 1, 6, none⟩ = some (.slice au r.next.length cu) ∧ w5.cell? ⟨w.heap.size + 1, 7, none⟩ = some (.int .i64 (r.line : Nat))) := hide ⟨k12, blk_all hx5⟩
   have hxA : (w5.alloc (.cells #[.int .i64 r.kind, .int .i64 r.flag, .bool r.cross, .string (Wd.str r.strip), .string (Wd.str r.add), .string (Wd.str r.cond), .slice au r.next.length cu, .int .i64 (r.line : Nat)] 106)).drew.heap[w.heap.size + 1]? = some (.cells (drulC r (.slice au r.next.length cu)).toArray 106 (0, 0)) := alloc_heap1 hx5 _
   have HA : Hid ((w5.alloc (.cells #[.int .i64 r.kind, .int .i64 r.flag, .bool r.cross, .string (Wd.str r.strip), .string (Wd.str r.add), .string (Wd.str r.cond), .slice au r.next.length cu, .int .i64 (r.line : Nat)] 106)).drew.cell? ⟨P.fb, 12, none⟩ = some (.slice av R.file.rules.length cv) ∧ (w5.alloc (.cells #[.int .i64 r.kind, .int .i64 r.flag, .bool r.cross, .string (Wd.str r.strip), .string (Wd.str r.add), .string (Wd.str r.cond), .slice au r.next.length cu, .int .i64 (r.line : Nat)] 106)).drew.cell? ⟨w.heap.size + 1, 0, none⟩ = some (.int .i64 r.kind) ∧ (w5.alloc (.cells #[.int .i64 r.kind, .int .i64 r.flag, .bool r.cross, .string (Wd.str r.strip), .string (Wd.str r.add), .string (Wd.str r.cond), .slice au r.next.length cu, .int .i64 (r.line : Nat)] 106)).drew.cell? ⟨w.heap.size + 1, 1, none⟩ = some (.int .i64 r.flag) ∧ (w5.alloc (.cells #[.int .i64 r.kind, .int .i64 r.flag, .bool r.cross, .string (Wd.str r.strip), .string (Wd.str r.add), .string (Wd.str r.cond), .slice au r.next.length cu, .int .i64 (r.line : Nat)] 106)).drew.cell? ⟨w.heap.size + 1, 2, none⟩ = some (.bool r.cross) ∧ (w5.alloc (.cells #[.int .i64 r.kind, .int .i64 r.flag, .bool r.cross, .string (Wd.str r.strip), .string (Wd.str r.add), .string (Wd.str r.cond), .slice au r.next.length cu, .int .i64 (r.line : Nat)] 106)).drew.cell? ⟨w.heap.size + 1, 3, none⟩ = some (.string (Wd.str r.strip)) ∧ (w5.alloc (.cells #[.int .i64 r.kind, .int .i64 r.flag, .bool r.cross, .string (Wd.str r.strip), .string (Wd.str r.add), .string (Wd.str r.cond), .slice au r.next.length cu, .int .i64 (r.line : Nat)] 106)).drew.cell? ⟨w.heap.size + 1, 4, none⟩ = some (.string (Wd.str r.add)) ∧ (w5.alloc (.cells #[.int .i64 r.kind, .int .i64 r.flag, .bool r.cross, .string (Wd.str r.strip), .string (Wd.str r.add), .string (Wd.str r.cond), .slice au r.next.length cu, .int .i64 (r.line : Nat)] 106)).drew.cell? ⟨w.heap.size + 1, 5, none⟩ = some (.string (Wd.str r.cond)) ∧ (w5.alloc (.cells #[.int .i64 r.kind, .int .i64 r.flag, .bool r.cross, .string (Wd.str r.strip), .string (Wd.str r.add), .string (Wd.str r.cond), .slice au r.next.length cu, .int .i64 (r.line : Nat)] 106)).drew.cell? ⟨w.heap.size + 1, 6, none⟩ = some (.slice au r.next.length cu) ∧ (w5.alloc (.cells #[.int .i64 r.kind, .int .i64 r.flag, .bool r.cross, .string (Wd.str r.strip), .string (Wd.str r.add), .string (Wd.str r.cond), .slice au r.next.length cu, .int .i64 (r.line : Nat)] 106)).drew.cell? ⟨w.heap.size + 1, 7, none⟩ = some (.int .i64 (r.line : Nat))) := hide ⟨(((Below.refl w5.heap.size w5).alloc (Nat.le_refl _) _).drew.cell (p := ⟨P.fb, 12, none⟩) hfb5).trans k12, blk_all hxA⟩
   have H6 : Hid (w6.cell? ⟨P.fb, 12, none⟩ = some (.slice av R.file.rules.length cv) ∧ w6.cell? ⟨w.heap.size + 1, 0, none⟩ = some (.int .i64 r.kind) ∧ w6.cell? ⟨w.heap.size + 1, 1, none⟩ = some (.int .i64 r.flag) ∧ w6.cell? ⟨w.heap.size + 1, 2, none⟩ = some (.bool r.cross) ∧ w6.cell? ⟨w.heap.size + 1, 3, none⟩ = some (.string (Wd.str r.strip)) ∧ w6.cell? ⟨w.heap.size + 1, 4, none⟩ = some (.string (Wd.str r.add)) ∧ w6.cell? ⟨w.heap.size + 1, 5, none⟩ = some (.string (Wd.str r.cond)) ∧ w6.cell? ⟨w.heap.size + 1, 6, none⟩ = some (.slice au r.next.length cu) ∧ w6.cell? ⟨w.heap.size + 1, 7, none⟩ = some (.int .i64 (r.line : Nat))) := hide ⟨k126, blk_all hx6⟩
   have HAP := hide hap
   have HF6 := hide (And.intro f6 l6f)
   have HZ := hide ((unhide HH).addRul (v' := .slice a6 (R.file.rules.length + 1) c6) r hlt (unhide HB5) (unhide HS).nxt k6 l6 o6)
   clear hres hfin hS ev hap o6 k6 l6 b6 hf6 k126 f6 l6f hx6 hxA hx5 hne kz k12 hxl hB5 d0 d5 k11 q0 c0 c1 c2 c3 c4
   clear HFEW HROW HRD HB2 hi hz0 hz1 hz2 hmc hgc hg1 hgn i1 i2 i3 i4 hpos hrb hfb t0 t1 hlt hg
   go_wp2_with fail
   refine reg23_wp H0 HA H6 HF6 HAP _ _ _ _ _ _ _ _ _ _ _ _ _ _ _ _ _ _ _ _ _ _ _ _ _ _ _ _ _ _ _ _ _ _ _ _ _ _ _ _ _ _ _ _ _ _ _ _ _ _ _ _ _ _ _ _ _ _ _ _ _ _ _ _ _ _ _ _ _ _ _ _ _ _ _ _ _ _ _ _ _ _ _ _ _ _ _ _ _ _ _ _ _ _ _ _ _ _ _ _ _ _ _ _ _ _ _ _ _ _ _ _ _ _ _ _ _ _ _ _ _ _ _ _ ?_
   rename_i K hK
   intro x117 x118 x119 x120 x121 x122 x123 x124 x125 x126
   apply hK
   go_wp2_with fail
   go_ret
   exact unhide HFIN _ _ (unhide HZ).1 (unhide HZ).2
 ·have HX := hide (rulX_no (rule_n (F := R.file) (l := R.line) (c := c) (row := row) (by omega)))
  have h4z : ((row.length : Int) == 4) = false := by rw [beq_eq_false_iff_ne]; omega
  have h5z : ((row.length : Int) == 5) = false := by rw [beq_eq_false_iff_ne]; omega
  have h4n : ((row.length : Int) != 4) = true := by rw [bne_iff_ne]; omega
  have h5n : ((row.length : Int) != 5) = true := by rw [bne_iff_ne]; omega
  have HA2 := hide h.lineAt
  clear hn hrow hrc hfew h hc hci HROW HFEW
  generalize Fld.str (fld row 0) = r0 at *
  generalize row.length = n at *
  go_enter Tryz.func97, Tryz.ntmps97
  go_wp2_with fail
  go_ret
  exact DRes.no (unhide HX) (Below.refl _ _) (by decide) rfl (unhide HA2)
end Af
end Go.Proofs.YtmhegbeemgagkaaGreatDoor
