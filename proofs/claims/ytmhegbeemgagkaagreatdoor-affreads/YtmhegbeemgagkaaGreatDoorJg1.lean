import Derived.Test.YtmhegbeemgagkaaGreatDoorJf0
set_option maxHeartbeats 8000000
set_option maxRecDepth 100000
namespace Go.Proofs.YtmhegbeemgagkaaGreatDoor
open Go.RowKit
namespace Af
open RowB
theorem sameRule_any {n : Nat} (r : Rul) (v u : Value) (w : World) (hv : FNx n w v r.next) (hu : So.IRow 0 w u r.next) (hx : ∀ x ∈ r.next, 0 ≤ x ∧ x ≤ 65535) (h0 : 0 ≤ r.flag) (h1 : r.flag ≤ 65535) :
  Calls Tryz.prog 34 #[.agg #[.int .i64 r.kind, .int .u16 r.flag, .bool r.cross, .string (Wd.str r.strip), .string (Wd.str r.add), .string (Wd.str r.cond), v], .agg #[.int .i64 r.kind, .int .i64 r.flag, .bool r.cross, .string (Wd.str r.strip), .string (Wd.str r.add), .string (Wd.str r.cond), u, .int .i64 (r.line : Nat)]] w fun e w' => e = .returned (.bool true) ∧ Below w.heap.size w w' := by
 have HS : Hid (∀ W, Below w.heap.size w W → Calls Tryz.prog 20 #[v, u] W fun e w' => e = .returned (.bool true) ∧ Below W.heap.size W w') := fun W b => same_law v u r.next W (fnx_kept hv (below_kept b)).arg (irow_kept hu (below_kept b)) hx
 obtain ⟨av, nv, cv, rfl⟩ : ∃ a n c, v = .slice a n c := by
  obtain ⟨a, c, e, -⟩ := hv.arg
  exact ⟨_, _, _, e⟩
 obtain ⟨au, cu, rfl, -, -⟩ := hu.form
 have e1 : ∀ t : Bs, ((Wd.str t).toList == (Wd.str t).toList) = true := fun t => by simp
 clear hv hu hx
 generalize Wd.str r.strip = s1 at *
 generalize Wd.str r.add = s2 at *
 generalize Wd.str r.cond = s3 at *
 go_enter Tryz.func34, Tryz.ntmps34
 go_wp2_with fail
 have HB := hide (((Below.refl _ w).alloc (Nat.le_refl _) (.cells #[.int .i64 r.kind, .int .u16 r.flag, .bool r.cross, .string s1, .string s2, .string s3, .slice av nv cv] 76)).alloc (by simp) (.cells #[.int .i64 r.kind, .int .i64 r.flag, .bool r.cross, .string s1, .string s2, .string s3, .slice au r.next.length cu, .int .i64 (r.line : Nat)] 106))
 refine (unhide HS _ (unhide HB)).mono ?_
 rintro e w2 ⟨rfl, b2⟩
 have HB2 := hide (btr' (unhide HB) b2)
 clear b2
 go_wp2_with fail
 go_ret
 exact ⟨by simp, unhide HB2⟩
theorem row_get {W : World} {B : Nat} {e : TypeId} {m n cap : Nat} {ao : Option Addr} {xs : List Value} (h : W.ownsRow B e m (.slice ao n cap) n xs) (hn : 0 < n) : ∃ g, ao = some ⟨g, 0, none⟩ ∧ g < W.heap.size ∧ ∀ j, j < n * m → W.cell? ⟨g, j, none⟩ = xs[j]? := by
 obtain ⟨g, cap', e', -, hg, -, -, -, hc⟩ := own_at h hn
 injection e' with e' _ _
 exact ⟨g, e', hg, hc⟩
theorem ax_cells {W : World} {a : Nat} {F : Fil} {vr va vc vu : Value} (h : W.heap[a]? = some (.cells (axL F vr va vc vu).toArray TA (0, 0))) : W.cell? ⟨a, 0, none⟩ = some (.int .i64 F.kind) ∧ W.cell? ⟨a, 1, none⟩ = some (.string (Wd.str F.charset)) ∧ W.cell? ⟨a, 2, none⟩ = some (.string (Wd.str F.letters)) ∧ W.cell? ⟨a, 8, none⟩ = some (.int .i64 (F.least : Nat)) ∧ W.cell? ⟨a, 9, none⟩ = some vr ∧ W.cell? ⟨a, 10, none⟩ = some va ∧ W.cell? ⟨a, 11, none⟩ = some vc ∧ W.cell? ⟨a, 12, none⟩ = some vu := by
 refine ⟨?_, ?_, ?_, ?_, ?_, ?_, ?_, ?_⟩ <;> simp [World.cell?, h, axL]
theorem ax_spec {W : World} {a i : Nat} {F : Fil} {vr va vc vu : Value} (h : W.heap[a]? = some (.cells (axL F vr va vc vu).toArray TA (0, 0))) (hi : i < 5) : W.cell? ⟨a, 3 + i, none⟩ = some (.int .u16 (F.specials.getD i 0)) := by
 rcases i with _ | _ | _ | _ | _ | i <;> first | omega | simp [World.cell?, h, axL]
theorem sameFile_any {n B : Nat} {w : World} {F : Fil} {P : DPts} {vr va vc vu : Value} {av nv : List Value} (hr : RepR n w F vr) (ha : AliR n w F va av F.aliases.length) (hc : ClsR n w F vc) (hu : RulR n w F vu nv F.rules.length) (h : DFAt B w F P) (hs : Np (fun a => ∀ x ∈ a, 0 ≤ x ∧ x ≤ 65535) F) (hfl : ∀ r ∈ F.rules, 0 ≤ r.flag ∧ r.flag ≤ 65535) :
  Calls Tryz.prog 12 #[.agg (axL F vr va vc vu).toArray, ptr P.fb] w fun e w' => e = .returned (.bool true) ∧ Below w.heap.size w w' := by
 obtain ⟨W0, hW0⟩ : ∃ W0, w.alloc (.cells (axL F vr va vc vu).toArray TA) = W0 := ⟨_, rfl⟩
 have hb0 : Below w.heap.size w W0 := by rw [← hW0]; exact (Below.refl _ w).alloc (Nat.le_refl _) _
 have hblk : W0.heap[w.heap.size]? = some (.cells (axL F vr va vc vu).toArray TA (0, 0)) := by rw [← hW0]; exact alloc_new w _
 have hF0 := h.below hb0
 have HR := hide (own_kept hr (below_kept hb0))
 have HA := hide (And.intro (own_kept ha.1 (below_kept hb0)) (And.intro ha.2.1 (fun (i : Nat) u a (q1 : av[i]? = some u) (q2 : F.aliases[i]? = some a) => fnx_kept (ha.2.2 i u a q1 q2) (below_kept hb0))))
 have HCL := hide (own_kept hc (below_kept hb0))
 have HU := hide (And.intro (own_kept hu.1 (below_kept hb0)) (And.intro hu.2.1 (fun (i : Nat) u a (q1 : nv[i]? = some u) (q2 : F.rules[i]? = some a) => fnx_kept (hu.2.2 i u a q1 q2) (below_kept hb0))))
 have HF0 := hide hF0
 have HB0 := hide hb0
 obtain ⟨a0, a1, a2, a8, a9, a10, a11, a12⟩ := ax_cells hblk
 have HSA := hide (fun i (hi : i < 5) => And.intro (ax_spec hblk hi) (hF0.spec i hi))
 obtain ⟨k0, k1, k2, k8, k9, k10, k11, k12, kz⟩ := hF0.cells
 obtain ⟨ar, cr, er, -, -⟩ := own_len hr
 obtain ⟨aa, ca, ea, -, -⟩ := own_len ha.1
 obtain ⟨ac, cc, ec, -, -⟩ := own_len hc
 obtain ⟨au, cu, eu, -, -⟩ := own_len hu.1
 obtain ⟨br, dr, fr, -, -⟩ := own_len h.reps
 obtain ⟨ba, da, fa, -, -⟩ := own_len h.alis
 obtain ⟨bc, dc, fc, -, -⟩ := own_len h.clss
 obtain ⟨bu, du, fu, -, -⟩ := own_len h.ruls
 rw [fr] at k9
 rw [fa] at k10
 rw [fc] at k11
 rw [fu] at k12
 subst er ea ec eu
 have hfb := hF0.lt
 have hab : w.heap.size < W0.heap.size := lt_some hblk
 have HSM := hide hs
 have HFL := hide hfl
 have HSP := hide (fun x hx => h.ok.specB x hx)
 have HSL := hide h.ok.spec
 clear hr ha hc hu h hs hfl hb0 hblk hF0 kz
 generalize hab0 : w.heap.size = ab at *
 obtain ⟨nr, hnr⟩ : ∃ n, F.reps.length = n := ⟨_, rfl⟩
 obtain ⟨na, hna⟩ : ∃ n, F.aliases.length = n := ⟨_, rfl⟩
 obtain ⟨nc, hnc⟩ : ∃ n, F.classes.length = n := ⟨_, rfl⟩
 obtain ⟨nu, hnu⟩ : ∃ n, F.rules.length = n := ⟨_, rfl⟩
 have hmr : nr ≤ 9223372036854775807 := by obtain ⟨_, _, e, q1, q2⟩ := own_len (unhide HR); unfold maxLen at q2; omega
 have hma : na ≤ 9223372036854775807 := by obtain ⟨_, _, e, q1, q2⟩ := own_len (unhide HA).1; unfold maxLen at q2; omega
 have hmc : nc ≤ 9223372036854775807 := by obtain ⟨_, _, e, q1, q2⟩ := own_len (unhide HCL); unfold maxLen at q2; omega
 have hmu : nu ≤ 9223372036854775807 := by obtain ⟨_, _, e, q1, q2⟩ := own_len (unhide HU).1; unfold maxLen at q2; omega
 have HNR := hide hnr
 have HNA := hide hna
 have HNC := hide hnc
 have HNU := hide hnu
 have h4 := (unhide HF0).reps
 have h5 := (unhide HF0).alis
 have h6 := (unhide HF0).clss
 have h7 := (unhide HF0).ruls
 rw [fr] at h4
 rw [fa] at h5
 rw [fc] at h6
 rw [fu] at h7
 rw [hnr] at a9 k9 HR h4
 rw [hna] at a10 k10 HA h5
 rw [hnc] at a11 k11 HCL h6
 rw [hnu] at a12 k12 HU h7
 have H4 := hide h4
 have H5 := hide h5
 have H6 := hide h6
 have H7 := hide h7
 clear h4 h5 h6 h7 hnr hna hnc hnu fr fa fc fu
 have HCE : Hid (∀ W, Below W0.heap.size W0 W → (W.cell? ⟨ab, 9, none⟩ = some (.slice ar nr cr) ∧ W.cell? ⟨ab, 10, none⟩ = some (.slice aa na ca) ∧ W.cell? ⟨ab, 11, none⟩ = some (.slice ac nc cc) ∧ W.cell? ⟨ab, 12, none⟩ = some (.slice au nu cu)) ∧ W.cell? ⟨P.fb, 9, none⟩ = some (.slice br nr dr) ∧ W.cell? ⟨P.fb, 10, none⟩ = some (.slice ba na da) ∧ W.cell? ⟨P.fb, 11, none⟩ = some (.slice bc nc dc) ∧ W.cell? ⟨P.fb, 12, none⟩ = some (.slice bu nu du)) := fun W b =>
  ⟨⟨(b.cell (p := ⟨ab, 9, none⟩) hab).trans a9, (b.cell (p := ⟨ab, 10, none⟩) hab).trans a10, (b.cell (p := ⟨ab, 11, none⟩) hab).trans a11, (b.cell (p := ⟨ab, 12, none⟩) hab).trans a12⟩, (b.cell (p := ⟨P.fb, 9, none⟩) hfb).trans k9, (b.cell (p := ⟨P.fb, 10, none⟩) hfb).trans k10, (b.cell (p := ⟨P.fb, 11, none⟩) hfb).trans k11, (b.cell (p := ⟨P.fb, 12, none⟩) hfb).trans k12⟩
 go_enter Tryz.func12, Tryz.ntmps12
 go_wp2_with fail
 (first | rw [hab0, hW0] | rw [hW0] | rw [hab0] | skip)
 go_quiet (fail)
 generalize nq = q1
 go_wp2_with fail
 go_quiet (fail)
 generalize nq = q2
 go_wp2_with fail
 have HB1 := hide (btr (So.drew_low W0 q1) (So.drew_low (W0.drewN q1) q2))
 go_loopw [5, 86] (fun _ s wr => ∃ i : Nat, s = .int .i64 i ∧ i ≤ 5 ∧ Hid (Below W0.heap.size W0 wr)) (fun _ s _ => 5 - (intOf s).toNat)
 case atStart => exact ⟨0, rfl, Nat.zero_le _, HB1⟩
 case round =>
  obtain ⟨i, rfl, hi, HB⟩ := hrel
  obtain ⟨⟨a9, a10, a11, a12⟩, k9, k10, k11, k12⟩ := unhide HCE _ (unhide HB)
  have hfw := Nat.lt_of_lt_of_le hfb (unhide HB).size
  have haw := Nat.lt_of_lt_of_le hab (unhide HB).size
  by_cases hin : i < 5
  ·have hii : (i : Int) < 5 := by omega
   have hi0 : ¬ (i : Int) < 0 := by omega
   obtain ⟨p1, p2⟩ := unhide HSA i hin
   have p1 := ((unhide HB).cell (p := ⟨ab, 3 + i, none⟩) hab).trans p1
   have p2 := ((unhide HB).cell (p := ⟨P.fb, 3 + i, none⟩) hfb).trans p2
   obtain ⟨x0, x1⟩ : 0 ≤ F.specials.getD i 0 ∧ F.specials.getD i 0 ≤ 65535 := unhide HSP _ (by rw [List.getD_eq_getElem?_getD, List.getElem?_eq_getElem (by rw [unhide HSL]; exact hin)]; exact List.getElem_mem _)
   generalize F.specials.getD i 0 = x at *
   have xn : (x != x) = false := by simp
   go_wp2_with fail
   go_quiet (fail)
   go_wp2_with fail
   go_roundw
   case rel => exact ⟨i + 1, by go_num, by omega, (unhide HB).trans ((So.drew_low _ _).mono (unhide HB).size)⟩
   case measure => simp [intOf]; omega
  ·obtain rfl : i = 5 := by omega
   have hii : ¬ ((5 : Nat) : Int) < 5 := by omega
   go_wp2_with fail
   go_loopw [6, 105] (fun _ s wr => ∃ i : Nat, s = .int .i64 i ∧ i ≤ nr ∧ Hid (Below W0.heap.size W0 wr)) (fun _ s _ => nr - (intOf s).toNat)
   case atStart => exact ⟨0, rfl, Nat.zero_le _, HB⟩
   case round =>
    obtain ⟨i, rfl, hi, HB⟩ := hrel
    obtain ⟨⟨a9, a10, a11, a12⟩, k9, k10, k11, k12⟩ := unhide HCE _ (unhide HB)
    have hfw := Nat.lt_of_lt_of_le hfb (unhide HB).size
    have haw := Nat.lt_of_lt_of_le hab (unhide HB).size
    by_cases hin : i < nr
    ·have hii : (i : Int) < (nr : Int) := by omega
     have hi0 : ¬ (i : Int) < 0 := by omega
     obtain ⟨g1, rfl, hg1, e1⟩ := row_get (unhide HR) (by omega)
     obtain ⟨g2, rfl, hg2, e2⟩ := row_get (unhide H4) (by omega)
     obtain ⟨p, hp⟩ : ∃ p, F.reps[i]? = some p := ⟨_, List.getElem?_eq_getElem (by rw [unhide HNR]; exact hin)⟩
     have q1 : ∀ j, j < 2 → wr.cell? ⟨g1, i * 2 + j, none⟩ = (repC p)[j]? := fun j hj => ((unhide HB).cell (p := ⟨g1, i * 2 + j, none⟩) hg1).trans ((e1 _ (by omega)).trans (flat_get (f := repC) (m := 2) (fun _ => rfl) hp hj))
     have q2 : ∀ j, j < 2 → wr.cell? ⟨g2, i * 2 + j, none⟩ = (repC p)[j]? := fun j hj => ((unhide HB).cell (p := ⟨g2, i * 2 + j, none⟩) hg2).trans ((e2 _ (by omega)).trans (flat_get (f := repC) (m := 2) (fun _ => rfl) hp hj))
     have c10 := q1 0 (by decide)
     have c11 := q1 1 (by decide)
     have c20 := q2 0 (by decide)
     have c21 := q2 1 (by decide)
     simp only [repC, List.getElem?_cons_zero, List.getElem?_cons_succ, Nat.add_zero] at c10 c11 c20 c21
     clear q1 q2 e1 e2 hp
     have e0 : ∀ s : ByteArray, (s.toList != s.toList) = false := fun s => by simp
     generalize Wd.str p.1 = s1 at *
     generalize Wd.str p.2 = s2 at *
     go_wp2_with fail
     go_quiet (fail)
     go_wp2_with fail
     go_roundw
     case rel => exact ⟨i + 1, by go_num, by omega, (unhide HB).trans ((So.drew_low _ _).mono (unhide HB).size)⟩
     case measure => simp [intOf]; omega
    ·have hie : i = nr := by omega
     subst hie
     have hii : ¬ (i : Int) < (i : Int) := by omega
     go_wp2_with fail
     go_loopw [7, 144] (fun _ s wr => ∃ i : Nat, s = .int .i64 i ∧ i ≤ na ∧ Hid (Below W0.heap.size W0 wr)) (fun _ s _ => na - (intOf s).toNat)
     case atStart => exact ⟨0, rfl, Nat.zero_le _, HB⟩
     case round =>
      obtain ⟨i, rfl, hi, HB⟩ := hrel
      obtain ⟨⟨a9, a10, a11, a12⟩, k9, k10, k11, k12⟩ := unhide HCE _ (unhide HB)
      have hfw := Nat.lt_of_lt_of_le hfb (unhide HB).size
      have haw := Nat.lt_of_lt_of_le hab (unhide HB).size
      by_cases hin : i < na
      ·have hii : (i : Int) < (na : Int) := by omega
       have hi0 : ¬ (i : Int) < 0 := by omega
       obtain ⟨g1, rfl, hg1, e1⟩ := row_get (unhide HA).1 (by omega)
       obtain ⟨g2, rfl, hg2, e2⟩ := row_get (unhide H5) (by omega)
       obtain ⟨a, ha⟩ : ∃ a, F.aliases[i]? = some a := ⟨_, List.getElem?_eq_getElem (by rw [unhide HNA]; exact hin)⟩
       obtain ⟨u1, hu1⟩ : ∃ u, av[i]? = some u := ⟨_, List.getElem?_eq_getElem (by rw [(unhide HA).2.1]; exact hin)⟩
       obtain ⟨u2, hu2⟩ : ∃ u, P.av[i]? = some u := ⟨_, List.getElem?_eq_getElem (by rw [(unhide HF0).aliF.1, unhide HNA]; exact hin)⟩
       have hf1 := (unhide HA).2.2 i u1 a hu1 ha
       have hf2 := (unhide HF0).aliF.2 i u2 a hu2 ha
       have HCALL : Hid (∀ W, Below W0.heap.size W0 W → Calls Tryz.prog 20 #[u1, u2] W fun e w' => e = .returned (.bool true) ∧ Below W.heap.size W w') := fun W b => same_law u1 u2 a W (fnx_kept hf1 (below_kept b)).arg (irow_kept hf2 (below_kept b)) ((unhide HSM).al a (List.mem_of_getElem? ha))
       obtain ⟨ax, nx, cx, rfl⟩ : ∃ a n c, u1 = .slice a n c := by
        obtain ⟨a, c, e, -⟩ := hf1.arg
        exact ⟨_, _, _, e⟩
       obtain ⟨ay, cy, rfl, -, -⟩ := hf2.form
       have c1 : W0.cell? ⟨g1, i, none⟩ = _ := (e1 i (by omega)).trans hu1
       have c2 : W0.cell? ⟨g2, i, none⟩ = _ := (e2 i (by omega)).trans hu2
       have HSS : Hid (∀ W, Below W0.heap.size W0 W → W.cell? ⟨ab, 10, none⟩ = some (.slice (some ⟨g1, 0, none⟩) na ca) ∧ W.cell? ⟨P.fb, 10, none⟩ = some (.slice (some ⟨g2, 0, none⟩) na da) ∧ W.cell? ⟨g1, i, none⟩ = some (.slice ax nx cx) ∧ W.cell? ⟨g2, i, none⟩ = some (.slice ay a.length cy)) := fun W b => ⟨(unhide HCE W b).1.2.1, (unhide HCE W b).2.2.1, (b.cell (p := ⟨g1, i, none⟩) hg1).trans c1, (b.cell (p := ⟨g2, i, none⟩) hg2).trans c2⟩
       have s0 := unhide HSS _ (unhide HB)
       clear hf1 hf2 hu1 hu2 ha e1 e2 c1 c2 a9 a10 a11 a12 k9 k10 k11 k12
       go_wp2_with fail
       go_region_held2 (fun w' => w'.cell? ⟨ab, 10, none⟩ = some (.slice (some ⟨g1, 0, none⟩) na ca) ∧ w'.cell? ⟨P.fb, 10, none⟩ = some (.slice (some ⟨g2, 0, none⟩) na da) ∧ w'.cell? ⟨g1, i, none⟩ = some (.slice ax nx cx) ∧ w'.cell? ⟨g2, i, none⟩ = some (.slice ay a.length cy)) (first | (with_reducible exact s3) | exact s0) (first | (go_at_call 20; refine (unhide HCALL _ ((unhide HB).drew)).mono ?_; rintro e w3 ⟨rfl, b3'⟩; have b3 := ((Below.refl wr.heap.size wr).drew).trans b3'; have HB3 := hide (btr (unhide HB) b3); have s3 := unhide HSS _ (unhide HB3); clear b3 b3'))
       go_wp2_with fail
       go_roundw
       case rel => exact ⟨i + 1, by go_num, by omega, HB3⟩
       case measure => simp [intOf]; omega
      ·have hie : i = na := by omega
       subst hie
       have hii : ¬ (i : Int) < (i : Int) := by omega
       go_wp2_with fail
       go_loopw [8, 165] (fun _ s wr => ∃ i : Nat, s = .int .i64 i ∧ i ≤ nc ∧ Hid (Below W0.heap.size W0 wr)) (fun _ s _ => nc - (intOf s).toNat)
       case atStart => exact ⟨0, rfl, Nat.zero_le _, HB⟩
       case round =>
        obtain ⟨i, rfl, hi, HB⟩ := hrel
        obtain ⟨⟨a9, a10, a11, a12⟩, k9, k10, k11, k12⟩ := unhide HCE _ (unhide HB)
        have hfw := Nat.lt_of_lt_of_le hfb (unhide HB).size
        have haw := Nat.lt_of_lt_of_le hab (unhide HB).size
        by_cases hin : i < nc
        ·have hii : (i : Int) < (nc : Int) := by omega
         have hi0 : ¬ (i : Int) < 0 := by omega
         obtain ⟨g1, rfl, hg1, e1⟩ := row_get (unhide HCL) (by omega)
         obtain ⟨g2, rfl, hg2, e2⟩ := row_get (unhide H6) (by omega)
         obtain ⟨c, hc⟩ : ∃ c, F.classes[i]? = some c := ⟨_, List.getElem?_eq_getElem (by rw [unhide HNC]; exact hin)⟩
         have q1 : ∀ j, j < 5 → W0.cell? ⟨g1, i * 5 + j, none⟩ = (clsC c)[j]? := fun j hj => (e1 _ (by omega)).trans (flat_get (f := clsC) (m := 5) (fun _ => rfl) hc hj)
         have q2 : ∀ j, j < 5 → W0.cell? ⟨g2, i * 5 + j, none⟩ = (dclsC c)[j]? := fun j hj => (e2 _ (by omega)).trans (flat_get (f := dclsC) (m := 5) (fun _ => rfl) hc hj)
         have hcf := (unhide HF0).ok.cls c (List.mem_of_getElem? hc)
         have HCALL := hide (fun W (_ : Below W0.heap.size W0 W) => sameClass_any c.flag c.kind c.cross (c.first : Nat) (c.count : Nat) W (by omega) hcf.2)
         have HSS : Hid (∀ W, Below W0.heap.size W0 W → W.cell? ⟨ab, 11, none⟩ = some (.slice (some ⟨g1, 0, none⟩) nc cc) ∧ W.cell? ⟨P.fb, 11, none⟩ = some (.slice (some ⟨g2, 0, none⟩) nc dc) ∧ W.cell? ⟨g1, i * 5, none⟩ = some (.int .u16 c.flag) ∧ W.cell? ⟨g1, i * 5 + 1, none⟩ = some (.int .i64 c.kind) ∧ W.cell? ⟨g1, i * 5 + 2, none⟩ = some (.bool c.cross) ∧ W.cell? ⟨g1, i * 5 + 3, none⟩ = some (.int .i64 (c.first : Nat)) ∧ W.cell? ⟨g1, i * 5 + 4, none⟩ = some (.int .i64 (c.count : Nat)) ∧ W.cell? ⟨g2, i * 5, none⟩ = some (.int .i64 c.flag) ∧ W.cell? ⟨g2, i * 5 + 1, none⟩ = some (.int .i64 c.kind) ∧ W.cell? ⟨g2, i * 5 + 2, none⟩ = some (.bool c.cross) ∧ W.cell? ⟨g2, i * 5 + 3, none⟩ = some (.int .i64 (c.first : Nat)) ∧ W.cell? ⟨g2, i * 5 + 4, none⟩ = some (.int .i64 (c.count : Nat))) := fun W b => ⟨(unhide HCE W b).1.2.2.1, (unhide HCE W b).2.2.2.1, (b.cell (p := ⟨g1, i * 5, none⟩) hg1).trans (q1 0 (by decide)), (b.cell (p := ⟨g1, i * 5 + 1, none⟩) hg1).trans (q1 1 (by decide)), (b.cell (p := ⟨g1, i * 5 + 2, none⟩) hg1).trans (q1 2 (by decide)), (b.cell (p := ⟨g1, i * 5 + 3, none⟩) hg1).trans (q1 3 (by decide)), (b.cell (p := ⟨g1, i * 5 + 4, none⟩) hg1).trans (q1 4 (by decide)), (b.cell (p := ⟨g2, i * 5, none⟩) hg2).trans (q2 0 (by decide)), (b.cell (p := ⟨g2, i * 5 + 1, none⟩) hg2).trans (q2 1 (by decide)), (b.cell (p := ⟨g2, i * 5 + 2, none⟩) hg2).trans (q2 2 (by decide)), (b.cell (p := ⟨g2, i * 5 + 3, none⟩) hg2).trans (q2 3 (by decide)), (b.cell (p := ⟨g2, i * 5 + 4, none⟩) hg2).trans (q2 4 (by decide))⟩
         have s0 := unhide HSS _ (unhide HB)
         clear hc e1 e2 q1 q2 hcf a9 a10 a11 a12 k9 k10 k11 k12
         go_wp2_with fail
         go_region_held2 (fun w' => w'.cell? ⟨ab, 11, none⟩ = some (.slice (some ⟨g1, 0, none⟩) nc cc) ∧ w'.cell? ⟨P.fb, 11, none⟩ = some (.slice (some ⟨g2, 0, none⟩) nc dc) ∧ w'.cell? ⟨g1, i * 5, none⟩ = some (.int .u16 c.flag) ∧ w'.cell? ⟨g1, i * 5 + 1, none⟩ = some (.int .i64 c.kind) ∧ w'.cell? ⟨g1, i * 5 + 2, none⟩ = some (.bool c.cross) ∧ w'.cell? ⟨g1, i * 5 + 3, none⟩ = some (.int .i64 (c.first : Nat)) ∧ w'.cell? ⟨g1, i * 5 + 4, none⟩ = some (.int .i64 (c.count : Nat)) ∧ w'.cell? ⟨g2, i * 5, none⟩ = some (.int .i64 c.flag) ∧ w'.cell? ⟨g2, i * 5 + 1, none⟩ = some (.int .i64 c.kind) ∧ w'.cell? ⟨g2, i * 5 + 2, none⟩ = some (.bool c.cross) ∧ w'.cell? ⟨g2, i * 5 + 3, none⟩ = some (.int .i64 (c.first : Nat)) ∧ w'.cell? ⟨g2, i * 5 + 4, none⟩ = some (.int .i64 (c.count : Nat))) (first | (with_reducible exact s3) | exact s0) (first | (go_at_call 17; refine (unhide HCALL _ ((unhide HB).drew)).mono ?_; rintro e w3 ⟨rfl, b3'⟩; have b3 := ((Below.refl wr.heap.size wr).drew).trans b3'; have HB3 := hide (btr (unhide HB) b3); have s3 := unhide HSS _ (unhide HB3); clear b3 b3'))
         go_wp2_with fail
         go_roundw
         case rel => exact ⟨i + 1, by go_num, by omega, HB3⟩
         case measure => simp [intOf]; omega
        ·have hie : i = nc := by omega
         subst hie
         have hii : ¬ (i : Int) < (i : Int) := by omega
         go_wp2_with fail
         go_loopw [9, 186] (fun _ s wr => ∃ i : Nat, s = .int .i64 i ∧ i ≤ nu ∧ Hid (Below W0.heap.size W0 wr)) (fun _ s _ => nu - (intOf s).toNat)
         case atStart => exact ⟨0, rfl, Nat.zero_le _, HB⟩
         case round =>
          obtain ⟨i, rfl, hi, HB⟩ := hrel
          obtain ⟨⟨a9, a10, a11, a12⟩, k9, k10, k11, k12⟩ := unhide HCE _ (unhide HB)
          have hfw := Nat.lt_of_lt_of_le hfb (unhide HB).size
          have haw := Nat.lt_of_lt_of_le hab (unhide HB).size
          by_cases hin : i < nu
          ·have hii : (i : Int) < (nu : Int) := by omega
           have hi0 : ¬ (i : Int) < 0 := by omega
           obtain ⟨g1, rfl, hg1, e1⟩ := row_get (unhide HU).1 (by omega)
           obtain ⟨g2, rfl, hg2, e2⟩ := row_get (unhide H7) (by omega)
           obtain ⟨r, hr⟩ : ∃ r, F.rules[i]? = some r := ⟨_, List.getElem?_eq_getElem (by rw [unhide HNU]; exact hin)⟩
           obtain ⟨u1, hu1⟩ : ∃ u, nv[i]? = some u := ⟨_, List.getElem?_eq_getElem (by rw [(unhide HU).2.1]; exact hin)⟩
           obtain ⟨u2, hu2⟩ : ∃ u, P.nv[i]? = some u := ⟨_, List.getElem?_eq_getElem (by rw [(unhide HF0).rulF.1, unhide HNU]; exact hin)⟩
           have hf1 := (unhide HU).2.2 i u1 r hu1 hr
           have hf2 := (unhide HF0).rulF.2 i u2 r hu2 hr
           have q1 : ∀ j, j < 7 → W0.cell? ⟨g1, i * 7 + j, none⟩ = (rulC r u1)[j]? := fun j hj => (e1 _ (by omega)).trans (flat_get (f := fun p : Rul × Value => rulC p.1 p.2) (m := 7) (fun _ => rfl) (zip_get hr hu1) hj)
           have q2 : ∀ j, j < 8 → W0.cell? ⟨g2, i * 8 + j, none⟩ = (drulC r u2)[j]? := fun j hj => (e2 _ (by omega)).trans (flat_get (f := fun p : Rul × Value => drulC p.1 p.2) (m := 8) (fun _ => rfl) (zip_get hr hu2) hj)
           have hrf := unhide HFL r (List.mem_of_getElem? hr)
           have HCALL : Hid (∀ W, Below W0.heap.size W0 W → Calls Tryz.prog 34 #[.agg #[.int .i64 r.kind, .int .u16 r.flag, .bool r.cross, .string (Wd.str r.strip), .string (Wd.str r.add), .string (Wd.str r.cond), u1], .agg #[.int .i64 r.kind, .int .i64 r.flag, .bool r.cross, .string (Wd.str r.strip), .string (Wd.str r.add), .string (Wd.str r.cond), u2, .int .i64 (r.line : Nat)]] W fun e w' => e = .returned (.bool true) ∧ Below W.heap.size W w') := fun W b => sameRule_any r u1 u2 W (fnx_kept hf1 (below_kept b)) (irow_kept hf2 (below_kept b)) ((unhide HSM).nx r (List.mem_of_getElem? hr)) hrf.1 hrf.2
           obtain ⟨ax, nx, cx, rfl⟩ : ∃ a n c, u1 = .slice a n c := by
            obtain ⟨a, c, e, -⟩ := hf1.arg
            exact ⟨_, _, _, e⟩
           obtain ⟨ay, cy, rfl, -, -⟩ := hf2.form
           have HSS : Hid (∀ W, Below W0.heap.size W0 W → W.cell? ⟨ab, 12, none⟩ = some (.slice (some ⟨g1, 0, none⟩) nu cu) ∧ W.cell? ⟨P.fb, 12, none⟩ = some (.slice (some ⟨g2, 0, none⟩) nu du) ∧ W.cell? ⟨g1, i * 7, none⟩ = some (.int .i64 r.kind) ∧ W.cell? ⟨g1, i * 7 + 1, none⟩ = some (.int .u16 r.flag) ∧ W.cell? ⟨g1, i * 7 + 2, none⟩ = some (.bool r.cross) ∧ W.cell? ⟨g1, i * 7 + 3, none⟩ = some (.string (Wd.str r.strip)) ∧ W.cell? ⟨g1, i * 7 + 4, none⟩ = some (.string (Wd.str r.add)) ∧ W.cell? ⟨g1, i * 7 + 5, none⟩ = some (.string (Wd.str r.cond)) ∧ W.cell? ⟨g1, i * 7 + 6, none⟩ = some (.slice ax nx cx) ∧ W.cell? ⟨g2, i * 8, none⟩ = some (.int .i64 r.kind) ∧ W.cell? ⟨g2, i * 8 + 1, none⟩ = some (.int .i64 r.flag) ∧ W.cell? ⟨g2, i * 8 + 2, none⟩ = some (.bool r.cross) ∧ W.cell? ⟨g2, i * 8 + 3, none⟩ = some (.string (Wd.str r.strip)) ∧ W.cell? ⟨g2, i * 8 + 4, none⟩ = some (.string (Wd.str r.add)) ∧ W.cell? ⟨g2, i * 8 + 5, none⟩ = some (.string (Wd.str r.cond)) ∧ W.cell? ⟨g2, i * 8 + 6, none⟩ = some (.slice ay r.next.length cy) ∧ W.cell? ⟨g2, i * 8 + 7, none⟩ = some (.int .i64 (r.line : Nat))) := fun W b => ⟨(unhide HCE W b).1.2.2.2, (unhide HCE W b).2.2.2.2, (b.cell (p := ⟨g1, i * 7, none⟩) hg1).trans (q1 0 (by decide)), (b.cell (p := ⟨g1, i * 7 + 1, none⟩) hg1).trans (q1 1 (by decide)), (b.cell (p := ⟨g1, i * 7 + 2, none⟩) hg1).trans (q1 2 (by decide)), (b.cell (p := ⟨g1, i * 7 + 3, none⟩) hg1).trans (q1 3 (by decide)), (b.cell (p := ⟨g1, i * 7 + 4, none⟩) hg1).trans (q1 4 (by decide)), (b.cell (p := ⟨g1, i * 7 + 5, none⟩) hg1).trans (q1 5 (by decide)), (b.cell (p := ⟨g1, i * 7 + 6, none⟩) hg1).trans (q1 6 (by decide)), (b.cell (p := ⟨g2, i * 8, none⟩) hg2).trans (q2 0 (by decide)), (b.cell (p := ⟨g2, i * 8 + 1, none⟩) hg2).trans (q2 1 (by decide)), (b.cell (p := ⟨g2, i * 8 + 2, none⟩) hg2).trans (q2 2 (by decide)), (b.cell (p := ⟨g2, i * 8 + 3, none⟩) hg2).trans (q2 3 (by decide)), (b.cell (p := ⟨g2, i * 8 + 4, none⟩) hg2).trans (q2 4 (by decide)), (b.cell (p := ⟨g2, i * 8 + 5, none⟩) hg2).trans (q2 5 (by decide)), (b.cell (p := ⟨g2, i * 8 + 6, none⟩) hg2).trans (q2 6 (by decide)), (b.cell (p := ⟨g2, i * 8 + 7, none⟩) hg2).trans (q2 7 (by decide))⟩
           have s0 := unhide HSS _ (unhide HB)
           clear hr e1 e2 q1 q2 hrf hf1 hf2 hu1 hu2 a9 a10 a11 a12 k9 k10 k11 k12
           go_wp2_with fail
           go_region_held2 (fun w' => w'.cell? ⟨ab, 12, none⟩ = some (.slice (some ⟨g1, 0, none⟩) nu cu) ∧ w'.cell? ⟨P.fb, 12, none⟩ = some (.slice (some ⟨g2, 0, none⟩) nu du) ∧ w'.cell? ⟨g1, i * 7, none⟩ = some (.int .i64 r.kind) ∧ w'.cell? ⟨g1, i * 7 + 1, none⟩ = some (.int .u16 r.flag) ∧ w'.cell? ⟨g1, i * 7 + 2, none⟩ = some (.bool r.cross) ∧ w'.cell? ⟨g1, i * 7 + 3, none⟩ = some (.string (Wd.str r.strip)) ∧ w'.cell? ⟨g1, i * 7 + 4, none⟩ = some (.string (Wd.str r.add)) ∧ w'.cell? ⟨g1, i * 7 + 5, none⟩ = some (.string (Wd.str r.cond)) ∧ w'.cell? ⟨g1, i * 7 + 6, none⟩ = some (.slice ax nx cx) ∧ w'.cell? ⟨g2, i * 8, none⟩ = some (.int .i64 r.kind) ∧ w'.cell? ⟨g2, i * 8 + 1, none⟩ = some (.int .i64 r.flag) ∧ w'.cell? ⟨g2, i * 8 + 2, none⟩ = some (.bool r.cross) ∧ w'.cell? ⟨g2, i * 8 + 3, none⟩ = some (.string (Wd.str r.strip)) ∧ w'.cell? ⟨g2, i * 8 + 4, none⟩ = some (.string (Wd.str r.add)) ∧ w'.cell? ⟨g2, i * 8 + 5, none⟩ = some (.string (Wd.str r.cond)) ∧ w'.cell? ⟨g2, i * 8 + 6, none⟩ = some (.slice ay r.next.length cy) ∧ w'.cell? ⟨g2, i * 8 + 7, none⟩ = some (.int .i64 (r.line : Nat))) (first | (with_reducible exact s3) | exact s0) (first | (go_at_call 34; refine (unhide HCALL _ ((unhide HB).drew)).mono ?_; rintro e w3 ⟨rfl, b3'⟩; have b3 := ((Below.refl wr.heap.size wr).drew).trans b3'; have HB3 := hide (btr (unhide HB) b3); have s3 := unhide HSS _ (unhide HB3); clear b3 b3'))
           go_wp2_with fail
           go_roundw
           case rel => exact ⟨i + 1, by go_num, by omega, HB3⟩
           case measure => simp [intOf]; omega
          ·have hie : i = nu := by omega
           subst hie
           have hii : ¬ (i : Int) < (i : Int) := by omega
           go_wp2_with fail
           go_ret
           have hfin := (unhide HB0).trans ((unhide HB).mono (Nat.le_of_lt hab))
           exact ⟨rfl, by first | exact hfin | (rw [hab0]; exact hfin)⟩
end Af
end Go.Proofs.YtmhegbeemgagkaaGreatDoor
