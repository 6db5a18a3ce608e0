import Derived.Test.YtmhegbeemgagkaaGreatDoorGm32
set_option maxHeartbeats 8000000
set_option maxRecDepth 100000
namespace Go.Proofs.YtmhegbeemgagkaaGreatDoor
open Go.RowKit
namespace Af
open RowB
theorem spec_set {F : Fil} {P : DPts} {i : Nat} (hi : i < 5) (ok : FilOk F) (x : Int) : (dfilC F P).setIfInBounds (3 + i) (.int .i64 x) = dfilC { F with specials := F.specials.set i x } P := by
 obtain ⟨s0, s1, s2, s3, s4, hsp⟩ := five ok.spec
 rcases i with _ | _ | _ | _ | _ | i
 ·simp [dfilC, hsp]
 ·simp [dfilC, hsp]
 ·simp [dfilC, hsp]
 ·simp [dfilC, hsp]
 ·simp [dfilC, hsp]
 ·omega
theorem hd_special {B rb : Nat} {w : World} {R : Rdr} {P : DPts} {v : Value} {A : List (Nat × List Bs)} (h : DAt B w rb R P v A) (hd : List Bs) (hv : Value) (hrow : RowIn B w hv hd) (hlen : hd.length = 2) (hf : ∀ f ∈ hd, f.length ≤ 65536 ∧ f ≠ []) {i : Nat} (hi : i < 5) (hk : spN (fld hd 0) = i) :
  Calls Tryz.prog 33 #[ptr rb, hv] w (DRes B rb v A w (doSpecial i R (fld hd 1))) := by
 have HROW0 := hide hrow
 obtain ⟨g, cap, rfl, hg, hgn, hc⟩ := hrow.get
 have q0 := hc 0 (by omega)
 have q1 := hc 1 (by omega)
 have hs1 := (hf _ (List.mem_of_getElem? (fld_get (row := hd) (i := 1) (by omega)))).1
 have hne1 := (hf _ (List.mem_of_getElem? (fld_get (row := hd) (i := 1) (by omega)))).2
 have HROW := hide (show RowIn B w (.slice (some ⟨g, 0, none⟩) hd.length cap) hd from unhide HROW0)
 have HSP := hide (special_any (Fld.str (fld hd 0)) w)
 have hsp0 : spN (Fld.str (fld hd 0)).data.toList = i := by rw [str_toList, hk]
 rw [hsp0] at HSP
 clear hsp0
 have HH := hide h
 have HBW : Hid (∀ w1, Below w.heap.size w w1 → Below B w w1) := fun w1 b => b.mono h.base
 have HC1 : Hid (∀ w1, Below w.heap.size w w1 → w1.cell? ⟨g, 1, none⟩ = some (.string (Fld.str (fld hd 1)))) := fun w1 b => ((b.mono h.base).cell (p := ⟨g, 1, none⟩) hg).trans (hc 1 (by omega))
 obtain ⟨d0, -⟩ := h.cells
 have hrb := h.lt
 have hfb := h.file.lt
 have hgw : g < w.heap.size := Nat.lt_of_lt_of_le hg h.base
 have HLEN := hide hlen
 have hi5 : (i : Int) < 5 := by omega
 have hi0 : (0 : Int) ≤ (i : Int) := by omega
 have hin : ¬ (i : Int) < 0 := by omega
 have HFR := hide (fresh_doc h (Fld.str (fld hd 1)) (by rw [fstr_wd, Wd.str_size]; unfold maxLen; omega))
 rw [str_toList] at HFR
 have HX1 := hide (fun (he : (frN R.file (fld hd 1)).2 = 0) => doSpecial_ok (i := i) (fr_bound he).1)
 have HX2 := hide (fun (he : ¬ (frN R.file (fld hd 1)).2 = 0) => doSpecial_no (i := i) (show newFlag R (fld hd 1) = .error (R.line, (frN R.file (fld hd 1)).2.toNat) by rw [fr_eq, if_neg he]))
 have HXB : Hid (0 ≤ (frN R.file (fld hd 1)).1 ∧ (frN R.file (fld hd 1)).1 ≤ 65535) := by
  by_cases he : (frN R.file (fld hd 1)).2 = 0
  ·have := fr_bound he
   exact ⟨by omega, this.2.2⟩
  ·have : (frN R.file (fld hd 1)).1 = 0 := by
    unfold frN at he ⊢
    split
    ·rfl
    ·split
     ·rfl
     ·rename_i a b
      rw [if_neg a, if_neg b] at he
      exact absurd rfl he
   rw [this]
   exact ⟨Int.le_refl _, by decide⟩
 have HPOS := hide (fr_pos R.file (fld hd 1))
 have HFS := hide (fun (w1 : World) (b : Below w.heap.size w w1) (x : Int) (h0 : 0 ≤ x) (h1 : x ≤ 65535) => h.fset b (F' := { R.file with specials := R.file.specials.set i x }) (3 + i) (.int .i64 x) (spec_set hi h.file.ok x) rfl rfl rfl rfl (spec_ok h.file.ok i x h0 h1))
 have HSC : Hid (∀ w1, Below w.heap.size w w1 → w1.cell? ⟨P.fb, 3 + i, none⟩ = some (.int .i64 (R.file.specials.getD i 0)) ∧ w1.cell? ⟨rb, 0, none⟩ = some (.pointer (some ⟨P.fb, 0, none⟩)) ∧ w1.frozen? ⟨P.fb, 3 + i, none⟩ = false ∧ P.fb < w1.heap.size) := fun w1 b => ⟨(h.below b).file.spec i hi, (h.below b).cells.1, (h.below b).file.cells.2.2.2.2.2.2.2.2 _, (h.below b).file.lt⟩
 rw [hlen] at hgn ⊢
 clear hk hrow hc hf h hs1 hne1 HROW HROW0 hlen HLEN
 generalize frN R.file (fld hd 1) = fr at *
 obtain ⟨x, ec⟩ := fr
 generalize Fld.str (fld hd 0) = r0 at *
 generalize Fld.str (fld hd 1) = r1 at *
 go_enter Tryz.func33, Tryz.ntmps33
 go_wp2_with fail
 refine (unhide HSP).mono ?_
 rintro e w1 ⟨rfl, hw1⟩
 obtain rfl := hw1.symm
 go_wp2_with fail
 refine (unhide HFR).mono ?_
 rintro e w2 ⟨rfl, b2⟩
 obtain ⟨s1, s2, s3, s4⟩ := unhide HSC _ b2
 have HB2 := hide b2
 clear b2
 go_wp2_with fail
 go_ret
 have HZ := unhide HFS _ (unhide HB2) x (unhide HXB).1 (unhide HXB).2
 by_cases he : ec = 0
 ·subst he
  exact DRes.yes (unhide HX1 rfl) HZ.2 HZ.1
 ·have hp : 0 ≤ ec := unhide HPOS
  exact DRes.no (c := ec.toNat) (unhide HX2 he) HZ.2 (by omega) (by omega) HZ.1.lineAt
theorem hd_set {B rb : Nat} {w : World} {R : Rdr} {P : DPts} {v : Value} {A : List (Nat × List Bs)} (h : DAt B w rb R P v A) (hd : List Bs) (hv : Value) (hrow : RowIn B w hv hd) (hlen : hd.length = 2) (hf : ∀ f ∈ hd, f.length ≤ 65536 ∧ f ≠ []) (hk : fld hd 0 = [83, 69, 84]) :
  Calls Tryz.prog 33 #[ptr rb, hv] w (DRes B rb v A w (doCharset R (fld hd 1))) := by
 have HROW0 := hide hrow
 obtain ⟨g, cap, rfl, hg, hgn, hc⟩ := hrow.get
 have q0 := hc 0 (by omega)
 have q1 := hc 1 (by omega)
 have hs1 := (hf _ (List.mem_of_getElem? (fld_get (row := hd) (i := 1) (by omega)))).1
 have hne1 := (hf _ (List.mem_of_getElem? (fld_get (row := hd) (i := 1) (by omega)))).2
 have HROW := hide (show RowIn B w (.slice (some ⟨g, 0, none⟩) hd.length cap) hd from unhide HROW0)
 have HSP := hide (special_any (Fld.str (fld hd 0)) w)
 have hsp0 : spN (Fld.str (fld hd 0)).data.toList = -1 := by rw [str_toList, hk]; decide
 rw [hsp0] at HSP
 clear hsp0
 have HH := hide h
 have HBW : Hid (∀ w1, Below w.heap.size w w1 → Below B w w1) := fun w1 b => b.mono h.base
 have HC1 : Hid (∀ w1, Below w.heap.size w w1 → w1.cell? ⟨g, 1, none⟩ = some (.string (Fld.str (fld hd 1)))) := fun w1 b => ((b.mono h.base).cell (p := ⟨g, 1, none⟩) hg).trans (hc 1 (by omega))
 obtain ⟨d0, -⟩ := h.cells
 have hrb := h.lt
 have hfb := h.file.lt
 have hgw : g < w.heap.size := Nat.lt_of_lt_of_le hg h.base
 have HLEN := hide hlen
 have t_FLAG := lst_f (s := Fld.str (fld hd 0)) (l := [70, 76, 65, 71]) (by rw [str_toList, hk]; decide)
 have t_SET := lst_t (s := Fld.str (fld hd 0)) (l := [83, 69, 84]) (by rw [str_toList, hk])
 have HBY := hide (fun W => VlW.bytes_any (Fld.str (fld hd 1)) W (by rw [fstr_wd, Wd.str_size]; unfold maxLen; omega))
 rw [str_toList] at HBY
 obtain ⟨k0, k1, -, -, -, -, -, -, kz⟩ := h.file.cells
 have ok := h.file.ok
 have HFS := hide (fun (w1 : World) (b : Below w.heap.size w w1) => h.fset b (F' := { R.file with charset := fld hd 1 }) 1 (.string (Fld.str (fld hd 1))) rfl rfl rfl rfl rfl ⟨ok.kind, ok.spec, ok.specB, ok.cls, ok.reps, ok.ali, ok.aliS, ok.rul, hs1⟩)
 rw [hlen] at hgn ⊢
 cases hb : (fld hd 1).all Wd.fit with
 | false =>
  have HX := hide (doCharset_no (R := R) (VlW.okB_bad hb))
  have HL := hide h.lineAt
  rw [hb] at HBY
  clear hk hrow hc hf h hs1 hne1 HROW HROW0 hb ok hlen HLEN
  generalize Fld.str (fld hd 0) = r0 at *
  generalize Fld.str (fld hd 1) = r1 at *
  go_enter Tryz.func33, Tryz.ntmps33
  go_wp2_with fail
  refine (unhide HSP).mono ?_
  rintro e w1 ⟨rfl, hw1⟩
  obtain rfl := hw1.symm
  go_wp2_with fail
  refine (unhide HBY _).mono ?_
  rintro e w2 ⟨rfl, hw2⟩
  obtain rfl := hw2.symm
  go_wp2_with fail
  go_ret
  exact DRes.no (unhide HX) (Below.refl _ _) (by decide) rfl (unhide HL)
 | true =>
  have HX := hide (doCharset_ok (R := R) (ok_B (l := 0) hne1 hb).1)
  rw [hb] at HBY
  clear hk hrow hc hf h hs1 hne1 HROW HROW0 hb ok hlen HLEN
  generalize Fld.str (fld hd 0) = r0 at *
  generalize Fld.str (fld hd 1) = r1 at *
  go_enter Tryz.func33, Tryz.ntmps33
  go_wp2_with fail
  refine (unhide HSP).mono ?_
  rintro e w1 ⟨rfl, hw1⟩
  obtain rfl := hw1.symm
  go_wp2_with fail
  refine (unhide HBY _).mono ?_
  rintro e w2 ⟨rfl, hw2⟩
  obtain rfl := hw2.symm
  go_wp2_with fail
  go_region
  go_wp2_with fail
  go_ret
  have HZ := unhide HFS _ ((Below.refl w.heap.size w).drew)
  exact DRes.yes (unhide HX) HZ.2 HZ.1
theorem hd_try {B rb : Nat} {w : World} {R : Rdr} {P : DPts} {v : Value} {A : List (Nat × List Bs)} (h : DAt B w rb R P v A) (hd : List Bs) (hv : Value) (hrow : RowIn B w hv hd) (hlen : hd.length = 2) (hf : ∀ f ∈ hd, f.length ≤ 65536 ∧ f ≠ []) (hk : fld hd 0 = [84, 82, 89]) :
  Calls Tryz.prog 33 #[ptr rb, hv] w (DRes B rb v A w (doLetters R (fld hd 1))) := by
 have HROW0 := hide hrow
 obtain ⟨g, cap, rfl, hg, hgn, hc⟩ := hrow.get
 have q0 := hc 0 (by omega)
 have q1 := hc 1 (by omega)
 have hs1 := (hf _ (List.mem_of_getElem? (fld_get (row := hd) (i := 1) (by omega)))).1
 have hne1 := (hf _ (List.mem_of_getElem? (fld_get (row := hd) (i := 1) (by omega)))).2
 have HROW := hide (show RowIn B w (.slice (some ⟨g, 0, none⟩) hd.length cap) hd from unhide HROW0)
 have HSP := hide (special_any (Fld.str (fld hd 0)) w)
 have hsp0 : spN (Fld.str (fld hd 0)).data.toList = -1 := by rw [str_toList, hk]; decide
 rw [hsp0] at HSP
 clear hsp0
 have HH := hide h
 have HBW : Hid (∀ w1, Below w.heap.size w w1 → Below B w w1) := fun w1 b => b.mono h.base
 have HC1 : Hid (∀ w1, Below w.heap.size w w1 → w1.cell? ⟨g, 1, none⟩ = some (.string (Fld.str (fld hd 1)))) := fun w1 b => ((b.mono h.base).cell (p := ⟨g, 1, none⟩) hg).trans (hc 1 (by omega))
 obtain ⟨d0, -⟩ := h.cells
 have hrb := h.lt
 have hfb := h.file.lt
 have hgw : g < w.heap.size := Nat.lt_of_lt_of_le hg h.base
 have HLEN := hide hlen
 have t_FLAG := lst_f (s := Fld.str (fld hd 0)) (l := [70, 76, 65, 71]) (by rw [str_toList, hk]; decide)
 have t_SET := lst_f (s := Fld.str (fld hd 0)) (l := [83, 69, 84]) (by rw [str_toList, hk]; decide)
 have t_TRY := lst_t (s := Fld.str (fld hd 0)) (l := [84, 82, 89]) (by rw [str_toList, hk])
 have ok := h.file.ok
 have HFS := hide (fun (w1 : World) (b : Below w.heap.size w w1) (l : Bs) => h.fset b (F' := { R.file with letters := l }) 2 (.string (Wd.str l)) rfl rfl rfl rfl rfl ⟨ok.kind, ok.spec, ok.specB, ok.cls, ok.reps, ok.ali, ok.aliS, ok.rul, ok.len⟩)
 have HSC : Hid (∀ w1, Below w.heap.size w w1 → w1.cell? ⟨P.fb, 2, none⟩ = some (.string (Wd.str R.file.letters)) ∧ w1.cell? ⟨rb, 0, none⟩ = some (.pointer (some ⟨P.fb, 0, none⟩)) ∧ w1.frozen? ⟨P.fb, 2, none⟩ = false ∧ P.fb < w1.heap.size) := fun w1 b => ⟨(h.below b).file.cells.2.2.1, (h.below b).cells.1, (h.below b).file.cells.2.2.2.2.2.2.2.2 _, (h.below b).file.lt⟩
 have hsz : (Fld.str (fld hd 1)).size ≤ 140737488355328 := by rw [fstr_wd, Wd.str_size]; omega
 rw [hlen] at hgn ⊢
 cases ho : VlW.okB (fld hd 1) with
 | false =>
  have HX := hide (doLetters_no (R := R) ho)
  have HT := hide (LtR.ref_bad (Fld.str (fld hd 1)) w hsz (by rw [str_toList]; exact ho))
  clear hk hrow hc hf h hs1 hne1 HROW HROW0 ho ok hsz hlen HLEN
  generalize Fld.str (fld hd 0) = r0 at *
  generalize Fld.str (fld hd 1) = r1 at *
  obtain ⟨s1, s2, s3, s4⟩ := unhide HSC _ (Below.refl _ w)
  go_enter Tryz.func33, Tryz.ntmps33
  go_wp2_with fail
  refine (unhide HSP).mono ?_
  rintro e w1 ⟨rfl, hw1⟩
  obtain rfl := hw1.symm
  go_wp2_with fail
  refine (unhide HT).mono ?_
  rintro e w2 ⟨rfl, hw2⟩
  obtain rfl := hw2.symm
  go_wp2_with fail
  go_ret
  have HZ := unhide HFS _ (Below.refl _ w) []
  exact DRes.no (unhide HX) HZ.2 (by decide) rfl HZ.1.lineAt
 | true =>
  have HX := hide (doLetters_ok (R := R) ho)
  have HT := hide (LtR.ref_ok (Fld.str (fld hd 1)) w hsz (by rw [str_toList]; exact ho))
  rw [str_toList] at HT
  clear hk hrow hc hf h hs1 hne1 HROW HROW0 ho ok hsz hlen HLEN
  generalize Fld.str (fld hd 0) = r0 at *
  generalize Fld.str (fld hd 1) = r1 at *
  go_enter Tryz.func33, Tryz.ntmps33
  go_wp2_with fail
  refine (unhide HSP).mono ?_
  rintro e w1 ⟨rfl, hw1⟩
  obtain rfl := hw1.symm
  go_wp2_with fail
  refine (unhide HT).mono ?_
  rintro e w2 ⟨rfl, b2⟩
  obtain ⟨s1, s2, s3, s4⟩ := unhide HSC _ b2
  have HB2 := hide b2
  clear b2
  go_wp2_with fail
  go_ret
  have HZ := unhide HFS _ (unhide HB2) (Wd.uq [] (fld hd 1))
  exact DRes.yes (unhide HX) HZ.2 HZ.1
theorem hd_least {B rb : Nat} {w : World} {R : Rdr} {P : DPts} {v : Value} {A : List (Nat × List Bs)} (h : DAt B w rb R P v A) (hd : List Bs) (hv : Value) (hrow : RowIn B w hv hd) (hlen : hd.length = 2) (hf : ∀ f ∈ hd, f.length ≤ 65536 ∧ f ≠ []) (hk : fld hd 0 = [67, 79, 77, 80, 79, 85, 78, 68, 77, 73, 78]) :
  Calls Tryz.prog 33 #[ptr rb, hv] w (DRes B rb v A w (doLeast R (fld hd 1))) := by
 have HROW0 := hide hrow
 obtain ⟨g, cap, rfl, hg, hgn, hc⟩ := hrow.get
 have q0 := hc 0 (by omega)
 have q1 := hc 1 (by omega)
 have hs1 := (hf _ (List.mem_of_getElem? (fld_get (row := hd) (i := 1) (by omega)))).1
 have hne1 := (hf _ (List.mem_of_getElem? (fld_get (row := hd) (i := 1) (by omega)))).2
 have HROW := hide (show RowIn B w (.slice (some ⟨g, 0, none⟩) hd.length cap) hd from unhide HROW0)
 have HSP := hide (special_any (Fld.str (fld hd 0)) w)
 have hsp0 : spN (Fld.str (fld hd 0)).data.toList = -1 := by rw [str_toList, hk]; decide
 rw [hsp0] at HSP
 clear hsp0
 have HH := hide h
 have HBW : Hid (∀ w1, Below w.heap.size w w1 → Below B w w1) := fun w1 b => b.mono h.base
 have HC1 : Hid (∀ w1, Below w.heap.size w w1 → w1.cell? ⟨g, 1, none⟩ = some (.string (Fld.str (fld hd 1)))) := fun w1 b => ((b.mono h.base).cell (p := ⟨g, 1, none⟩) hg).trans (hc 1 (by omega))
 obtain ⟨d0, -⟩ := h.cells
 have hrb := h.lt
 have hfb := h.file.lt
 have hgw : g < w.heap.size := Nat.lt_of_lt_of_le hg h.base
 have HLEN := hide hlen
 have t_FLAG := lst_f (s := Fld.str (fld hd 0)) (l := [70, 76, 65, 71]) (by rw [str_toList, hk]; decide)
 have t_SET := lst_f (s := Fld.str (fld hd 0)) (l := [83, 69, 84]) (by rw [str_toList, hk]; decide)
 have t_TRY := lst_f (s := Fld.str (fld hd 0)) (l := [84, 82, 89]) (by rw [str_toList, hk]; decide)
 have t_COMPOUNDMIN := lst_t (s := Fld.str (fld hd 0)) (l := [67, 79, 77, 80, 79, 85, 78, 68, 77, 73, 78]) (by rw [str_toList, hk])
 have HN := hide (fun W => NumW.ref_any (Fld.str (fld hd 1)) 64 W (by rw [fstr_wd, Wd.str_size]; unfold maxLen; omega) (by decide) (by decide))
 rw [str_toList] at HN
 have hnum : numb R.line (fld hd 1) 64 = if Num.numE (fld hd 1) 64 = 0 then .ok (Num.numN (fld hd 1) 64).toNat else .error (R.line, 13) := rfl
 have HL := hide h.lineAt
 obtain ⟨k0, -, -, k8, -, -, -, -, kz⟩ := h.file.cells
 have ok := h.file.ok
 have HFS := hide (fun (n : Nat) => h.fset (Below.refl _ w) (F' := { R.file with least := n }) 8 (.int .i64 (n : Nat)) rfl rfl rfl rfl rfl ⟨ok.kind, ok.spec, ok.specB, ok.cls, ok.reps, ok.ali, ok.aliS, ok.rul, ok.len⟩)
 rw [hlen] at hgn ⊢
 by_cases hne : Num.numE (fld hd 1) 64 = 0
 ·obtain ⟨n1, n2⟩ := num_pos (m := 64) hne
  have n1 : Num.numN (fld hd 1) 64 = ((Num.numN (fld hd 1) 64).toNat : Nat) := n1
  rw [if_pos hne] at hnum
  rw [hne, n1] at HN
  generalize (Num.numN (fld hd 1) 64).toNat = n at *
  by_cases h0 : n = 0
  ·subst h0
   have HX := hide (doLeast_0 hnum)
   clear hk hrow hc hf h hs1 hne1 HROW HROW0 ok hlen HLEN n1 n2 hne hnum
   generalize Fld.str (fld hd 0) = r0 at *
   generalize Fld.str (fld hd 1) = r1 at *
   go_enter Tryz.func33, Tryz.ntmps33
   go_wp2_with fail
   refine (unhide HSP).mono ?_
   rintro e w1 ⟨rfl, hw1⟩
   obtain rfl := hw1.symm
   go_wp2_with fail
   refine (unhide HN _).mono ?_
   rintro e w2 ⟨rfl, hw2⟩
   obtain rfl := hw2.symm
   go_wp2_with fail
   go_ret
   exact DRes.no (unhide HX) (Below.refl _ _) (by decide) rfl (unhide HL)
  ·have HX := hide (doLeast_ok hnum h0)
   have hn0 : ((n : Int) == 0) = false := by rw [beq_eq_false_iff_ne]; omega
   clear hk hrow hc hf h hs1 hne1 HROW HROW0 ok hlen HLEN n1 n2 hne hnum h0
   generalize Fld.str (fld hd 0) = r0 at *
   generalize Fld.str (fld hd 1) = r1 at *
   go_enter Tryz.func33, Tryz.ntmps33
   go_wp2_with fail
   refine (unhide HSP).mono ?_
   rintro e w1 ⟨rfl, hw1⟩
   obtain rfl := hw1.symm
   go_wp2_with fail
   refine (unhide HN _).mono ?_
   rintro e w2 ⟨rfl, hw2⟩
   obtain rfl := hw2.symm
   go_wp2_with fail
   go_ret
   exact DRes.yes (unhide HX) (unhide HFS n).2 (unhide HFS n).1
 ·have HX := hide (doLeast_n (R := R) (f := fld hd 1) (e := (R.line, 13)) (by rw [hnum, if_neg hne]))
  have hn13 : Num.numE (fld hd 1) 64 = 13 := (numE_or _ _).resolve_left hne
  rw [hn13] at HN
  clear hk hrow hc hf h hs1 hne1 HROW HROW0 ok hlen HLEN hne hnum hn13
  generalize Num.numN (fld hd 1) 64 = nn at *
  generalize Fld.str (fld hd 0) = r0 at *
  generalize Fld.str (fld hd 1) = r1 at *
  go_enter Tryz.func33, Tryz.ntmps33
  go_wp2_with fail
  refine (unhide HSP).mono ?_
  rintro e w1 ⟨rfl, hw1⟩
  obtain rfl := hw1.symm
  go_wp2_with fail
  refine (unhide HN _).mono ?_
  rintro e w2 ⟨rfl, hw2⟩
  obtain rfl := hw2.symm
  go_wp2_with fail
  go_ret
  exact DRes.no (unhide HX) (Below.refl _ _) (by decide) rfl (unhide HL)
end Af
end Go.Proofs.YtmhegbeemgagkaaGreatDoor
