import Derived.Test.YtidhbhdcoanfcaaGreatDoorGq26
namespace Go.Proofs.YtidhbhdcoanfcaaGreatDoor
open Go.RowKit
namespace Af
open RowB
theorem rS_set (k : Int) (s : Bs) (h : So.rE k s = 0) : So.setOf (So.rS k s) = So.rS k s ∧ (So.rS k s).length ≤ 1048577 := by
 unfold So.rS
 rw [if_pos h]
 have hl := (So.setOf_set (So.vals k s)).len
 refine ⟨So.setOf_congr fun x => So.mem_setOf, ?_⟩
 have : (So.vals k s).length ≤ 64 := by
  unfold So.rE So.readE at h
  repeat (split at h <;> first | omega | skip)
 omega
def SS (B rb : Nat) (w W : World) (R : Rdr) (P : Pts) (hv : Value) (hd : List Bs) (j : Nat) : Prop :=
 ∃ Rj Pj, LP B rb w W Rj Pj P hv hd ∧ times (aliStep (fld hd 0)) j R = .ok Rj ∧ Rj.file.aliases.length = j
set_option maxRecDepth 100000 in
set_option maxHeartbeats 4000000 in
theorem readAliases_any {B rb : Nat} {R : Rdr} {P : Pts} {w : World} (h : RAt B w rb R P) (hM : Mx B w) (k : Value) (hd : List Bs) (hv : Value) (hrow : StrRow B w hv (hd.map Fld.str)) (hlen : hd.length = 2) (hf : ∀ f ∈ hd, f.length ≤ 65536) (h0 : R.file.aliases = []) :
  Calls Tryz.prog 79 #[ptr rb, hv, k] w (Res B rb P w (doAliases R hd)) := by
 have HS := hide (LP.start h hrow)
 have HLN := hide hlen
 have HZ := hide h0
 have HM := hide hM
 obtain ⟨d0, -, hln, -, -, -, -⟩ := h.cells
 obtain ⟨-, -, -, d11, -, -, -⟩ := h.file.cells
 obtain ⟨ac, cc, ec, -, -⟩ := own_len h.file.clss
 rw [ec] at d11
 obtain ⟨g, cap, rfl, hg, h1, h2, -, hcl⟩ := str_cells hrow
 unfold maxLen at h2
 have q1 := hcl 1 _ (fld_get (by omega))
 have hf1 := hf _ (List.mem_of_getElem? (fld_get (row := hd) (i := 1) (by omega)))
 have HN := hide (number_any rb R.line (Fld.str (fld hd 1)) 1024 w (by rw [fstr_wd, Wd.str_size]; omega) (by decide) hln)
 have e1 : (Fld.str (fld hd 1)).data.toList = fld hd 1 := by simp [Fld.str]
 rw [e1] at HN
 rw [hlen] at h1 HS ⊢
 clear hcl hf hf1 e1 hrow hlen h0 h ec hM
 generalize Fld.str (fld hd 1) = r1 at *
 rcases Classical.em (R.file.classes ≠ []) with hc0 | hc0
 ·have HX := hide (doAliases_c (hd := hd) hc0)
  have hpos : (0 : Int) < (R.file.classes.length : Int) := by have := List.length_pos_iff.2 hc0; omega
  have HV := hide (fun b (hb : b = true) => leaveIf_t rb R.line b 113 w hb (by decide) (by decide) hln)
  clear hc0 HN HS HZ hln
  generalize R.file.classes.length = nc at *
  go_enter Tryz.func79, Tryz.ntmps79
  go_wp2_with (go_at_call 82; refine (unhide HV _ (by first | rfl | (simp; omega))).mono ?_; rintro e w3 ⟨rfl, hw3⟩; subst w3)
  exact ⟨rfl, Res.no (unhide HX) (Kt.refl _ _ _ _)⟩
 have hc0 : R.file.classes = [] := Classical.not_not.1 hc0
 have hnc : R.file.classes.length = 0 := by rw [hc0]; rfl
 rw [hnc] at d11
 have HC0 := hide hc0
 clear hc0 hnc hln
 cases hn : numb R.line (fld hd 1) 1024 with
 | error er =>
  have HX := hide (doAliases_n (unhide HC0) hn)
  have HNN := hide (noOf (unhide HN) hn)
  clear HN hn
  go_enter Tryz.func79, Tryz.ntmps79
  go_wp2_with (first | (go_at_call 82; refine (leaveIf_f _ _ _ _ (by first | rfl | (simp; done))).mono ?_; rintro e w3 ⟨rfl, hw3⟩; subst w3) | (go_at_call 101; refine (unhide HNN).mono ?_; rintro e w4 ⟨rfl, hw4⟩; subst w4))
  exact ⟨rfl, Res.no (unhide HX) (Kt.refl _ _ _ _)⟩
 | ok n =>
  have HX := hide (doAliases_t (unhide HC0) hn)
  have hnm : n ≤ 1024 := numb_le hn
  have HNN := hide (okOf (unhide HN) hn)
  clear HN hn
  go_enter Tryz.func79, Tryz.ntmps79
  go_wp2_with (first | (go_at_call 82; refine (leaveIf_f _ _ _ _ (by first | rfl | (simp; done))).mono ?_; rintro e w3 ⟨rfl, hw3⟩; subst w3) | (go_at_call 101; refine (unhide HNN).mono ?_; rintro e w4 ⟨rfl, hw4⟩; subst w4))
  go_loopw [26] (fun s13 wr => ∃ j : Nat, s13 = .int .i64 j ∧ j ≤ n ∧ Hid (SS B rb w wr R P (.slice (some ⟨g, 0, none⟩) 2 cap) hd j)) (fun s13 _ => n - (intOf s13).toNat)
  case atStart => exact ⟨0, rfl, Nat.zero_le _, ⟨R, P, unhide HS, rfl, by rw [unhide HZ]; rfl⟩⟩
  case round =>
   obtain ⟨j, rfl, hj, HR⟩ := hrel
   clear d0 d11
   by_cases hlt : j < n
   ·obtain ⟨Rj, Pj, hL, ht, hjl⟩ := unhide HR
    have HT := hide ht
    have HJL := hide hjl
    have HL := hide hL
    have hltz : (j : Int) < (n : Int) := by omega
    obtain ⟨hg', -, hcc⟩ := str_at hL.row
    have q0 := hcc 0 _ (fld_get (by rw [unhide HLN]; decide))
    clear HR ht hjl hcc hg h1 q1 HS HNN
    have HA := hide (hL.below ((Below.refl _ wr).alloc (Nat.le_refl _) (.cells #[.string (Fld.str (fld hd 0))] 9)))
    have HG := hide (groupRow_any (unhide HA).at_ [fld hd 0] (.slice (some ⟨wr.heap.size, 0, none⟩) 1 1) (str_new wr [fld hd 0] (by simp) (by simp)) (by simp))
    generalize Fld.str (fld hd 0) = r0 at *
    clear hL
    cases hgr : grow Rj [fld hd 0] with
    | error er =>
     have HE := hide (times_err (unhide HT) (aliStep_g hgr) hlt)
     have HGN := hide (gNo (unhide HG) hgr)
     clear HG hgr
     go_wp2_with (go_at_call 102; refine (unhide HGN).mono ?_; rintro e w2 ⟨rfl, k2, l2⟩)
     exact ⟨rfl, (unhide HA).no2 k2 l2 ((unhide HX).trans (unhide HE))⟩
    | ok p =>
     obtain ⟨row, R1⟩ := p
     have HGR := hide hgr
     have HGO := hide (gOk (unhide HG) hgr)
     obtain ⟨lq, tq, hrq, hr1, hr2, hr3, hr4, hr5⟩ := grow_rows hgr
     have HFL := hide (grow_len (unhide HL).at_.rok hgr)
     have HJ1 : Hid (R1.file.aliases.length = j) := by rw [Hid, hr3]; exact unhide HJL
     clear HG hgr hrq hr1 hr2 hr3 hr4 hr5
     go_wp2_with (go_at_call 102; refine (unhide HGO).mono ?_; rintro e w2 ⟨fv, rv, rfl, s2, r2, k2, l2⟩; have HL2 := hide ((unhide HA).grow k2 l2 r2); have HS2 := hide s2; obtain ⟨g2, cap2, rfl, hg2, x1, x2, -, hc2⟩ := str_cells s2; have HC2 := hide hc2; clear s2 r2 k2 l2 hc2)
     unfold maxLen at x2
     by_cases h3 : row.length = 2
     ·rw [h3] at x1 HS2 ⊢
      have y1 := unhide HC2 1 _ (fld_get (by omega))
      have y3 := (unhide HFL).2 _ (List.mem_of_getElem? (fld_get (row := row) (i := 1) (by omega)))
      have HP := hide (fun W (b : Below w2.heap.size w2 W) => readFlags R1.file.kind (Fld.str (fld row 1)) W ((((unhide HM).low (unhide HL2).kt.low).low (b.mono (unhide HL2).at_.base)).so) (by rw [fstr_wd, Wd.str_size]; omega))
      have e1 : (Fld.str (fld row 1)).data.toList = fld row 1 := by simp [Fld.str]
      rw [e1] at HP
      have HH3 := hide h3
      have hL2 := unhide HL2
      obtain ⟨d0, -, -, -, -, -, -⟩ := hL2.at_.cells
      obtain ⟨kk0, -, -, -, -, -, -⟩ := hL2.at_.file.cells
      replace d0 : w2.cell? ⟨rb, 0, none⟩ = some (.pointer (some ⟨Pj.fb, 0, none⟩)) := d0
      replace kk0 : w2.cell? ⟨Pj.fb, 0, none⟩ = some (.int .i64 R1.file.kind) := kk0
      have HF2 := hide (And.intro hL2.at_.lt (hL2.at_.file.lt : Pj.fb < w2.heap.size))
      clear e1 y3 h3 HC2 hg' hL2
      generalize Fld.str (fld row 1) = r1 at *
      by_cases hE : So.rE R1.file.kind (fld row 1) = 0
      ·have HE0 := hide (aliRow_ok (F := R1.file) (l := R1.line) (unhide HH3) hE)
       have HSE := hide (rS_set _ _ hE)
       rw [hE] at HP
       clear hE
       go_wp2_with (go_at_call 82; refine (leaveIf_f _ _ _ _ rfl).mono ?_; rintro e w3 ⟨rfl, hw3⟩; subst w3)
       go_region_held2 (fun w' => w'.cell? ⟨rb, 0, none⟩ = some (.pointer (some ⟨Pj.fb, 0, none⟩)) ∧ w'.cell? ⟨Pj.fb, 0, none⟩ = some (.int .i64 R1.file.kind) ∧ w'.cell? ⟨g2, 1, none⟩ = some (.string r1)) (first | (with_reducible exact ⟨d03, k03, z13⟩) | exact ⟨d0, kk0, y1⟩) (first | (go_at_call 105; refine (unhide HP _ ((Below.refl w2.heap.size w2).drew)).mono ?_; rintro e w3 ⟨u, rfl, f3, b3'⟩; have b3 := ((Below.refl w2.heap.size w2).drew).trans b3'; have HB3 := hide b3; have HF3 := hide f3; have d03 := (b3.cell (p := ⟨rb, 0, none⟩) (unhide HF2).1).trans d0; have k03 := (b3.cell (p := ⟨Pj.fb, 0, none⟩) (unhide HF2).2).trans kk0; have z13 := (b3.cell (p := ⟨g2, 1, none⟩) hg2).trans y1; clear b3 f3 b3'))
       obtain ⟨ao3, n3, c3, rfl⟩ : ∃ a m c, u = .slice a m c := by
        rcases unhide HF3 with ⟨q, -⟩ | ⟨gq, cq, curq, q, -⟩
        ·exact ⟨_, _, _, q⟩
        ·exact ⟨_, _, _, q⟩
       have hL3 := (unhide HL2).below (unhide HB3)
       obtain ⟨-, -, k10, -, -, -, -⟩ := hL3.at_.file.cells
       have ho9 := hL3.at_.file.alis
       rw [unhide HJ1] at ho9
       obtain ⟨av, cv, ev, -, -⟩ := own_len ho9
       replace k10 : w3.cell? ⟨Pj.fb, 10, none⟩ = some (.slice av j cv) := k10.trans (by rw [ev])
       obtain ⟨av6, cv6, w6, hap, o6, k6, l6, b6⟩ := push1 (B := B) (w := w3) (X := (w3.alloc (.cells #[.slice ao3 n3 c3] 54)).drew) (t := 39) (v := Pj.va) Tryz.underlying39 infoA rfl (by decide) ho9 hL3.at_.base (((Below.refl _ _).alloc (Nat.le_refl _) _).drew) (alloc_new w3 _) rfl (by intro u hu; simp at hu; subst hu; rfl) (by omega) (by decide) 39
       rw [ev] at hap
       have HAP := hide hap
       have n1024 : R1.file.aliases.length < 1024 := by rw [unhide HJ1]; omega
       have HADD := hide ((unhide HL2).at_.addAli (So.rS R1.file.kind (fld row 1)) (unhide HSE) n1024 (unhide HB3) (unhide HF3) k6 l6 (by rw [unhide HJ1]; exact o6))
       have d06 : w6.cell? ⟨rb, 0, none⟩ = some (.pointer (some ⟨Pj.fb, 0, none⟩)) := (World.cell?_of_block (a := ⟨rb, 0, none⟩) (k6.cells _ _ _ _ hL3.at_.rdr (by decide))).trans d03
       have k106 : w6.cell? ⟨Pj.fb, 10, none⟩ = some (.slice av j cv) := (World.cell?_of_block (a := ⟨Pj.fb, 10, none⟩) (k6.cells _ _ _ _ hL3.at_.file.fil (by decide))).trans k10
       have f6 : w6.frozen? ⟨Pj.fb, 10, none⟩ = false := by
        have := (k6.cells _ _ _ _ hL3.at_.file.fil (by decide)).trans hL3.at_.file.fil
        simp [World.frozen?, this]
       have hfb6 : Pj.fb < w6.heap.size := World.block_lt_of_cell? w6 ⟨Pj.fb, 10, none⟩ k106
       have bb := fun q i (hb : q < w3.heap.size) => (((Below.refl w3.heap.size w3).alloc (Nat.le_refl _) (.cells #[.slice ao3 n3 c3] 54)).drew).cell (p := ⟨q, i, none⟩) hb
       have d0a := (bb rb 0 (World.block_lt_of_cell? w3 ⟨rb, 0, none⟩ d03)).trans d03
       have k10a := (bb Pj.fb 10 (World.block_lt_of_cell? w3 ⟨Pj.fb, 10, none⟩ k10)).trans k10
       clear ho9 hap o6 k6 l6 b6 bb n1024 ev HF3 HP y1 z13 k03 kk0 d0 hL3
       go_wp2_with (go_at_call 72; refine (leave_ok _ _).mono ?_; rintro e w4 ⟨rfl, hw4⟩; subst w4)
       rename_i K0 hK0 _
       have HK0 := hide hK0
       clear hK0
       refine Lst.region_last (ops1 := ?ops1) (o := ?op1) (S := fun w' => w'.cell? ⟨rb, 0, none⟩ = some (.pointer (some ⟨Pj.fb, 0, none⟩)) ∧ w'.cell? ⟨Pj.fb, 10, none⟩ = some (.slice av j cv)) (by kernel_rfl) ?hp1 ?hb1 ?hk1 (by exact ⟨d03, k10⟩) ?hn1
       case hp1 => (simp only [List.pop_toArray, List.dropLast_cons_cons, List.dropLast_singleton]; rfl)
       case hb1 => (simp only [List.back?_toArray, List.getLast?_cons_cons, List.getLast?_singleton]; rfl)
       case hk1 => kernel_rfl
       intro hHeld
       refine Lst.tk 0 ?_
       (try simp only [Act.put, List.setIfInBounds_toArray])
       refine Lst.tk 1 ?_
       (try simp only [Act.put])
       refine Lst.tk 2 ?_
       (try simp only [Act.put])
       refine Lst.tk 3 ?_
       (try simp only [Act.put])
       refine Lst.tk 4 ?_
       (try simp only [Act.put])
       refine Lst.tk 5 ?_
       (try simp only [Act.put])
       refine Lst.tk 6 ?_
       (try simp only [Act.put])
       refine Lst.tk 7 ?_
       (try simp only [Act.put])
       refine Lst.tk 8 ?_
       (try simp only [Act.put])
       refine Lst.tk 9 ?_
       (try simp only [Act.put])
       refine Lst.tk 10 ?_
       (try simp only [Act.put])
       refine Lst.tk 11 ?_
       (try simp only [Act.put])
       refine Lst.tk 12 ?_
       (try simp only [Act.put])
       refine wpAnyH_ready (rs := [13]) (by kernel_rfl) (by simp) ?_
       refine AllReadyH.cons (by simp only [List.getElem?_toArray, List.getElem?_cons_succ, List.getElem?_cons_zero]; rfl) (fun K hK => ?_) AllReadyH.nil
       go_simp
       refine hK.out _ _ (⟨d0a, k10a⟩) (fun hh2 => ?_)
       clear hK K
       (try simp only [Act.put, List.setIfInBounds_toArray, List.set_cons_zero, List.set_cons_succ])
       refine wpAnyH_ready (rs := [14]) (by kernel_rfl) (by simp) ?_
       refine AllReadyH.cons (by simp only [List.getElem?_toArray, List.getElem?_cons_succ, List.getElem?_cons_zero]; rfl) (fun K hK => ?_) AllReadyH.nil
       refine step_app (by rfl) _ _ _ (by rfl) _ _ _ _ (by rfl) (by rfl) (by exact unhide HAP) ?_
       refine hK.out _ _ (⟨d06, k106⟩) (fun hh3 => ?_)
       clear hK K
       (try simp only [Act.put, List.setIfInBounds_toArray, List.set_cons_zero, List.set_cons_succ])
       refine Lst.tk 15 ?_
       (try simp only [Act.put, List.setIfInBounds_toArray])
       refine Lst.tk 16 ?_
       (try simp only [Act.put])
       refine Lst.tk 17 ?_
       (try simp only [Act.put])
       refine wpAnyH_done (by kernel_rfl) ?_ _
       show Oper.wp _ _ _ _ _ _
       go_simp
       apply unhide HK0
       go_wp2
       go_roundw
       case rel => exact ⟨j + 1, by go_num, by omega, ⟨_, _, (unhide HL2).turn (unhide HADD) ⟨rfl, rfl, rfl⟩, times_ok (unhide HT) (aliStep_ok (unhide HGR) (unhide HE0)), by simp [unhide HJ1]⟩⟩
       case measure => simp [intOf]; omega
      ·have HE0 := hide (times_err (unhide HT) (aliStep_r (unhide HGR) (aliRow_e (unhide HH3) hE)) hlt)
       have hE1 : 0 ≤ So.rE R1.file.kind (fld row 1) := rE_pos _ _
       have HV := hide (fun W (b : Below w2.heap.size w2 W) => leave_no rb R1.line _ W hE hE1 ((unhide HL2).below b).at_.cells.2.2.1)
       clear hE hE1
       generalize So.rE R1.file.kind (fld row 1) = er at *
       go_wp2_with (go_at_call 82; refine (leaveIf_f _ _ _ _ rfl).mono ?_; rintro e w3 ⟨rfl, hw3⟩; subst w3)
       go_region_held2 (fun w' => w'.cell? ⟨rb, 0, none⟩ = some (.pointer (some ⟨Pj.fb, 0, none⟩)) ∧ w'.cell? ⟨Pj.fb, 0, none⟩ = some (.int .i64 R1.file.kind) ∧ w'.cell? ⟨g2, 1, none⟩ = some (.string r1)) (first | (with_reducible exact ⟨d03, k03, z13⟩) | exact ⟨d0, kk0, y1⟩) (first | (go_at_call 105; refine (unhide HP _ ((Below.refl w2.heap.size w2).drew)).mono ?_; rintro e w3 ⟨u, rfl, f3, b3'⟩; have b3 := ((Below.refl w2.heap.size w2).drew).trans b3'; have HB3 := hide b3; have HF3 := hide f3; have d03 := (b3.cell (p := ⟨rb, 0, none⟩) (unhide HF2).1).trans d0; have k03 := (b3.cell (p := ⟨Pj.fb, 0, none⟩) (unhide HF2).2).trans kk0; have z13 := (b3.cell (p := ⟨g2, 1, none⟩) hg2).trans y1; clear b3 f3 b3'))
       go_wp2_with (go_at_call 72; refine (unhide HV _ (unhide HB3)).mono ?_; rintro e w4 ⟨rfl, hw4⟩; subst w4)
       exact ⟨rfl, (unhide HL2).no (unhide HB3) ((unhide HX).trans (unhide HE0))⟩
     ·have HE := hide (times_err (unhide HT) (aliStep_r (unhide HGR) (aliRow_n h3)) hlt)
      have h3i : ((row.length : Int) != 2) = true := by simp; omega
      have HV := hide (leaveIf_t rb R1.line ((row.length : Int) != 2) 111 w2 h3i (by decide) (by decide) (unhide HL2).at_.cells.2.2.1)
      clear h3 HC2 h3i
      generalize row.length = m at *
      go_wp2_with (go_at_call 82; refine (unhide HV).mono ?_; rintro e w3 ⟨rfl, hw3⟩; subst w3)
      exact ⟨rfl, (unhide HL2).no (Below.refl _ _) ((unhide HX).trans (unhide HE))⟩
   ·obtain rfl : j = n := by omega
    have hltz : ¬ (j : Int) < (j : Int) := by omega
    obtain ⟨Rj, Pj, hL, ht, hjl⟩ := unhide HR
    have HL := hide hL
    have HXX := hide ((unhide HX).trans ht)
    clear HR hL ht hjl
    go_wp2
    go_end0
    exact (unhide HL).yes (unhide HXX)
end Af
end Go.Proofs.YtidhbhdcoanfcaaGreatDoor
