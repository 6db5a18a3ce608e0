import Derived.Test.YtidhbhdcoanfcaaGreatDoorGq35
set_option maxHeartbeats 8000000
set_option maxRecDepth 100000
namespace Go.Proofs.YtidhbhdcoanfcaaGreatDoor
open Go.RowKit
namespace Af
open RowB
theorem ents_code {F : Fil} {n : Nat} : ∀ {R : List (Nat × List Bs)} {E : List Ent} {er : Er}, ents F n R E = .error er → er.2 ≠ 0
 | [], E, er, h => by cases h
 | (l, row) :: t, E, er, h => by
  rw [ents] at h
  split at h
  ·injection h with h; subst h; simp
  ·cases hx : entRow F row with
   | error c =>
    rw [hx] at h
    injection h with h
    subst h
    exact entRow_code hx
   | ok x =>
    rw [hx] at h
    exact ents_code h
theorem dicR_nil {F : Fil} {s : Bs} (hs : ¬ 65536 < s.length) (h : Rw.rowsOf s = []) : dicR F s = .error ((Ln.linesOf s).length + 1, 116) := by
 unfold dicR
 rw [if_neg hs, h]
theorem dicR_cons {F : Fil} {s : Bs} {l : Nat} {row : List Bs} {t : List (Nat × List Bs)} (hs : ¬ 65536 < s.length) (h : Rw.rowsOf s = (l, row) :: t) : dicR F s = match cntX l row with
  | .error e => .error e
  | .ok n => match ents F n t [] with
   | .error e => .error e
   | .ok E => if E.length < n then .error ((Ln.linesOf s).length + 1, 116) else .ok E := by
 unfold dicR cntX
 rw [if_neg hs, h]
 by_cases h1 : row.length ≠ 1
 ·simp only [if_pos h1]
 ·simp only [if_neg h1]
  cases numb l (fld row 0) 8192 with
  | error e => rfl
  | ok n =>
   simp only
   cases ents F n t [] <;> rfl
theorem cntE_nn (row : List Bs) : 0 ≤ cntE row := by
 unfold cntE Num.numE
 repeat' split
 all_goals decide
theorem EnI.c7 {n0 rb wb mb l : Nat} {w wr : World} {F : Fil} {P : Pts} {E : List Ent} {Q : WPts} (h : EnI n0 w wr rb wb mb F P l E Q) : wr.cell? ⟨rb, 7, none⟩ = some (.int .i64 (l : Nat)) ∧ wr.cell? ⟨rb, 6, none⟩ = some (.pointer (some ⟨wb, 0, none⟩)) ∧ (∀ k, wr.frozen? ⟨rb, k, none⟩ = false) ∧ rb < wr.heap.size := by
 have := h.rdr
 refine ⟨?_, ?_, fun k => ?_, lt_some this⟩ <;> simp [World.cell?, World.frozen?, this, rdC]
abbrev ReadC (rb : Nat) (s : ByteArray) (n0 wb mb : Nat) (w : World) (F : Fil) (P : Pts) (X : Except Er (List Ent)) : Prop := Calls Tryz.prog 47 #[ptr rb, .string s] w (EnRes n0 w rb wb mb F P X)
theorem dread_long {n0 rb wb mb : Nat} {w : World} {F : Fil} {P : Pts} {Q0 : WPts} {s : ByteArray} {X : Except Er (List Ent)} (h0 : EnI n0 w w rb wb mb F P 0 [] Q0) (hs : 65536 < (s.size : Int)) (hX : X = .error (0, 10)) : ReadC rb s n0 wb mb w F P X := by
 have HS := hide (fun W => RowW.rows_long s W hs)
 have H0 := hide h0
 have HX := hide hX
 clear h0 hX
 go_enter Tryz.func47, Tryz.ntmps47
 go_wp2_with (go_at_call 62; refine (unhide HS _).mono ?_; rintro e w2 ⟨rfl, hw⟩; obtain rfl := hw.symm)
 go_ret
 exact EnRes.no (l := 0) (c := 10) (unhide HX) (unhide H0)
structure RdH (B n0 : Nat) (w : World) (rb wb mb : Nat) (F : Fil) (P : Pts) (s : ByteArray) (N : Nat) (R : List (Nat × List Bs)) : Prop where
 rows : ∃ (_ : World → Prop), True ∧ Calls Tryz.prog 62 #[.string s] w fun e w' => ∃ ao cap, e = .returned (.tuple #[.slice ao R.length cap, .int .i64 0]) ∧ RowsAt B w' (.slice ao R.length cap) R ∧ Below w.heap.size w w'
 line : ∀ W, Below w.heap.size w W → Calls Tryz.prog 63 #[.string s] W fun e w' => e = .returned (.int .i64 ((N : Int) + 1)) ∧ Below W.heap.size W w'
theorem dread_nil {B n0 rb wb mb N : Nat} {w : World} {F : Fil} {P : Pts} {Q0 : WPts} {s : ByteArray} {X : Except Er (List Ent)} (h0 : EnI n0 w w rb wb mb F P 0 [] Q0) (h : RdH B n0 w rb wb mb F P s N []) (hX : X = .error (N + 1, 116)) : ReadC rb s n0 wb mb w F P X := by
 obtain ⟨-, -, hR⟩ := h.rows
 have HR := hide hR
 have HL := hide h.line
 have H0 := hide h0
 have HX := hide hX
 clear h0 hX h hR
 go_enter Tryz.func47, Tryz.ntmps47
 go_wp2_with (first
  | (go_at_call 62; refine (unhide HR).mono ?_; rintro e w2 ⟨ao, cap, rfl, hra, b2⟩; have HB2 := hide b2; clear hra b2)
  | (go_at_call 63; refine (unhide HL _ (unhide HB2)).mono ?_; rintro e w3 ⟨rfl, b3⟩; have HI3 := hide ((unhide H0).below (btr (unhide HB2) b3)); obtain ⟨c7, c6, cz, clt⟩ := (unhide HI3).c7; clear b3))
 go_ret
 exact EnRes.no (l := N + 1) (c := 116) (unhide HX) ((unhide HI3).line (N + 1))
theorem dread_count {B n0 rb wb mb N l : Nat} {w : World} {F : Fil} {P : Pts} {Q0 : WPts} {s : ByteArray} {row : List Bs} {t : List (Nat × List Bs)} {X : Except Er (List Ent)} (h0 : EnI n0 w w rb wb mb F P 0 [] Q0) (h : RdH B n0 w rb wb mb F P s N ((l, row) :: t)) (hRk : RowsOk ((l, row) :: t)) (hc : cntE row ≠ 0) (hX : X = .error (l, (cntE row).toNat)) : ReadC rb s n0 wb mb w F P X := by
 have hcb : (cntE row == 0) = false := by simpa using hc
 have hcn : (((cntE row).toNat : Nat) : Int) = cntE row := by have := cntE_nn row; omega
 have HCN := hide hcn
 clear hc hcn
 obtain ⟨-, -, hR⟩ := h.rows
 rw [List.length_cons] at hR
 have HR := hide hR
 have HL := hide h.line
 have H0 := hide h0
 have HX := hide hX
 have HRK := hide hRk
 clear h0 hX h hR hRk
 go_enter Tryz.func47, Tryz.ntmps47
 go_wp2_with fail
 refine (unhide HR).mono ?_
 rintro e w2 ⟨ao, cap, rfl, hra, b2⟩
 have HB2 := hide b2
 have HRA := hide hra
 clear hra b2
 go_wp2_with fail
 refine (unhide HL _ (unhide HB2)).mono ?_
 rintro e w3 ⟨rfl, b3⟩
 have HI3 := hide ((unhide H0).below (btr (unhide HB2) b3))
 have hra3 : RowsAt B w3 (.slice ao (t.length + 1) cap) ((l, row) :: t) := rows_kept (unhide HRA) (below_kept b3) (below_kept b3)
 obtain ⟨g, off, cap', fv, e1, c1, c2, r3, r4, r5, -, r7, ⟨curg, r8⟩, r9⟩ := rows_tail hra3
 injection e1 with e1 e2 e3
 subst e1
 subst e3
 obtain ⟨gf, cf, rfl, hgf, hfl, hfc, -, -⟩ := str_cells r5
 unfold maxLen at c2
 obtain ⟨c7, c6, cz, clt⟩ := (unhide HI3).c7
 -- the line is told
 have HI4 := hide ((unhide HI3).line l)
 have hgr : g ≠ rb := by
  rintro rfl
  have := (unhide HI3).rdr
  rw [r8] at this
  injection this with this
  injection this with _ this _
  exact absurd this (by decide)
 have s4 : StrRow B (w3.setCell ⟨rb, 7, none⟩ (.int .i64 (l : Nat))) (.slice (some ⟨gf, 0, none⟩) row.length cf) (row.map Fld.str) := by
  refine str_kept r5 fun g' cur q => (kp_set w3 rb 7 _).2 g' (lt_some q) ?_
  rintro rfl
  have := (unhide HI3).rdr
  rw [q] at this
  injection this with this
  injection this with _ this _
  exact absurd this (by decide)
 have r94 : ∀ ao c, (0 < t.length → ao = some ⟨g, off + 2, none⟩) → t.length ≤ c → c ≤ maxLen → (ao = none → c = 0) → RowsAt B (w3.setCell ⟨rb, 7, none⟩ (.int .i64 (l : Nat))) (.slice ao t.length c) t := by
  intro ao c q1 q2 q3 q4
  refine rows_kept (r9 ao c q1 q2 q3 q4) (fun g' cur q => (kp_set w3 rb 7 _).2 g' (lt_some q) ?_) (fun g' cur q => (kp_set w3 rb 7 _).2 g' (lt_some q) ?_)
  all_goals
   rintro rfl
   have := (unhide HI3).rdr
   rw [q] at this
   injection this with this
   injection this with _ this _
   exact absurd this (by decide)
 have HS4 := hide s4
 have HR94 := hide r94
 have HB3 := hide b3
 have hrk := unhide HRK _ List.mem_cons_self
 have HRC := hide (fun W => fun (hS : StrRow B W (.slice (some ⟨gf, 0, none⟩) row.length cf) (row.map Fld.str)) => readCount_any hS hrk.2.2)
 clear hra3 r5 r8 r9 s4 r94 b3 hrk
 go_wp2_with fail
 refine (unhide HRC _ (unhide HS4)).mono ?_
 rintro e w5 ⟨rfl, hw⟩
 obtain rfl := hw.symm
 generalize cntN row = cn at *
 generalize cntE row = ce at *
 go_wp2
 go_ret
 have := EnRes.no (l := l) (c := ce.toNat) (unhide HX) (unhide HI4)
 rw [unhide HCN] at this
 exact this
theorem EnI.fresh {n0 rb wb mb l : Nat} {w W : World} {F : Fil} {P : Pts} {E : List Ent} {Q : WPts} (h : EnI n0 w W rb wb mb F P l E Q) : EnI n0 W W rb wb mb F P l E Q := ⟨Kq.refl _ _ _, Below.refl _ _, h.rbN, h.rdr, h.wa, h.mbq⟩
theorem EnI.trans {n0 rb wb mb l l2 : Nat} {w W W2 : World} {F : Fil} {P : Pts} {E E2 : List Ent} {Q Q2 : WPts} (h : EnI n0 w W rb wb mb F P l E Q) (k : EnI n0 W W2 rb wb mb F P l2 E2 Q2) : EnI n0 w W2 rb wb mb F P l2 E2 Q2 := ⟨h.kq.trans k.kq, h.low.trans k.low, k.rbN, k.rdr, k.wa, k.mbq⟩
theorem EnRes.from {n0 rb wb mb l : Nat} {w W W2 : World} {F : Fil} {P : Pts} {E : List Ent} {Q : WPts} {X : Except Er (List Ent)} {e : Ending} (h : EnI n0 w W rb wb mb F P l E Q) (k : EnRes n0 W rb wb mb F P X e W2) : EnRes n0 w rb wb mb F P X e W2 := by
 obtain ⟨l2, E2, Q2, k1, k2⟩ := k
 exact ⟨l2, E2, Q2, h.trans k1, k2⟩
theorem dread_bad {B n0 rb wb mb N l : Nat} {w : World} {F : Fil} {P : Pts} {Q0 : WPts} {s : ByteArray} {row : List Bs} {t : List (Nat × List Bs)} {X : Except Er (List Ent)} (h0 : EnI n0 w w rb wb mb F P 0 [] Q0) (h : RdH B n0 w rb wb mb F P s N ((l, row) :: t)) (hRk : RowsOk ((l, row) :: t)) (hF : FAt B w F P) (hM : Mx B w) (hBn : B ≤ n0) (hN : Np (fun a => ∀ x ∈ a, 0 ≤ x ∧ x ≤ 65535) F) (hp : P.pm ≠ mb) {n : Nat} (hc : cntE row = 0) (hn : cntN row = (n : Nat)) (hn2 : n ≤ 8192) {l2 c2 : Nat} (hE : ents F n t [] = .error (l2, c2)) (hX : X = .error (l2, c2)) : ReadC rb s n0 wb mb w F P X := by
 have HF := hide hF
 have HM := hide hM
 have HN := hide hN
 have HP := hide hp
 clear hF hM hN hp
 have hcb : ((c2 : Int) == 0) = false := by
  have := ents_code hE
  simpa using this
 have HE := hide hE
 clear hE
 obtain ⟨-, -, hR⟩ := h.rows
 rw [List.length_cons] at hR
 have HR := hide hR
 have HL := hide h.line
 have H0 := hide h0
 have HX := hide hX
 have HRK := hide hRk
 clear h0 hX h hR hRk
 go_enter Tryz.func47, Tryz.ntmps47
 go_wp2_with fail
 refine (unhide HR).mono ?_
 rintro e w2 ⟨ao, cap, rfl, hra, b2⟩
 have HB2 := hide b2
 have HRA := hide hra
 clear hra b2
 go_wp2_with fail
 refine (unhide HL _ (unhide HB2)).mono ?_
 rintro e w3 ⟨rfl, b3⟩
 have HI3 := hide ((unhide H0).below (btr (unhide HB2) b3))
 have hra3 : RowsAt B w3 (.slice ao (t.length + 1) cap) ((l, row) :: t) := rows_kept (unhide HRA) (below_kept b3) (below_kept b3)
 obtain ⟨g, off, cap', fv, e1, c1, c2, r3, r4, r5, -, r7, ⟨curg, r8⟩, r9⟩ := rows_tail hra3
 injection e1 with e1 e2 e3
 subst e1
 subst e3
 obtain ⟨gf, cf, rfl, hgf, hfl, hfc, -, -⟩ := str_cells r5
 unfold maxLen at c2
 obtain ⟨c7, c6, cz, clt⟩ := (unhide HI3).c7
 -- the line is told
 have HI4 := hide ((unhide HI3).line l)
 have hgr : g ≠ rb := by
  rintro rfl
  have := (unhide HI3).rdr
  rw [r8] at this
  injection this with this
  injection this with _ this _
  exact absurd this (by decide)
 have s4 : StrRow B (w3.setCell ⟨rb, 7, none⟩ (.int .i64 (l : Nat))) (.slice (some ⟨gf, 0, none⟩) row.length cf) (row.map Fld.str) := by
  refine str_kept r5 fun g' cur q => (kp_set w3 rb 7 _).2 g' (lt_some q) ?_
  rintro rfl
  have := (unhide HI3).rdr
  rw [q] at this
  injection this with this
  injection this with _ this _
  exact absurd this (by decide)
 have r94 : ∀ ao c, (0 < t.length → ao = some ⟨g, off + 2, none⟩) → t.length ≤ c → c ≤ maxLen → (ao = none → c = 0) → RowsAt B (w3.setCell ⟨rb, 7, none⟩ (.int .i64 (l : Nat))) (.slice ao t.length c) t := by
  intro ao c q1 q2 q3 q4
  refine rows_kept (r9 ao c q1 q2 q3 q4) (fun g' cur q => (kp_set w3 rb 7 _).2 g' (lt_some q) ?_) (fun g' cur q => (kp_set w3 rb 7 _).2 g' (lt_some q) ?_)
  all_goals
   rintro rfl
   have := (unhide HI3).rdr
   rw [q] at this
   injection this with this
   injection this with _ this _
   exact absurd this (by decide)
 have HS4 := hide s4
 have HR94 := hide r94
 have HB3 := hide b3
 have hrk := unhide HRK _ List.mem_cons_self
 have HRC := hide (fun W => fun (hS : StrRow B W (.slice (some ⟨gf, 0, none⟩) row.length cf) (row.map Fld.str)) => readCount_any hS hrk.2.2)
 clear hra3 r5 r8 r9 s4 r94 b3 hrk
 go_wp2_with fail
 refine gen_call ?_
 intro V hV
 rw [← hV] at HS4 HR94 HI4
 clear hV
 refine (unhide HRC _ (unhide HS4)).mono ?_
 rintro e w5 ⟨rfl, hw⟩
 obtain rfl := hw.symm
 rw [hc, hn]
 have HEN := hide (fun ao c q1 q2 q3 q4 => readEntries_any (n := n) ((unhide HI4).dh (unhide HF) (unhide HP)).file ((unhide HM).low ((unhide HI4).low.mono hBn)) hBn (unhide HN) (unhide HP) (unhide HI4).fresh (unhide HR94 ao c q1 q2 q3 q4) (fun p hp => unhide HRK p (List.mem_cons_of_mem _ hp)) hn2)
 clear HRC HS4 hc hn HR94 c7 c6 cz clt
 go_wp2_with fail
 ·refine (unhide HEN (some ⟨g, off, none⟩) 0 (fun h => by omega) (by omega) (by unfold maxLen; omega) (fun e => rfl)).mono ?_
  rintro e w6 hr6
  have hr7 := EnRes.from (unhide HI4) hr6
  rw [unhide HE] at hr7
  obtain ⟨l', E', Q', hI', rfl, rfl⟩ := hr7
  have HI' := hide hI'
  clear hr6 hI'
  go_wp2
  go_ret
  exact EnRes.no (unhide HX) (unhide HI')
 ·refine (unhide HEN (some ⟨g, off + 2, none⟩) (cap - 1) (fun h => rfl) (by omega) (by unfold maxLen; omega) (fun e => by cases e)).mono ?_
  rintro e w6 hr6
  have hr7 := EnRes.from (unhide HI4) hr6
  rw [unhide HE] at hr7
  obtain ⟨l', E', Q', hI', rfl, rfl⟩ := hr7
  have HI' := hide hI'
  clear hr6 hI'
  go_wp2
  go_ret
  exact EnRes.no (unhide HX) (unhide HI')
theorem dread_few {B n0 rb wb mb N l : Nat} {w : World} {F : Fil} {P : Pts} {Q0 : WPts} {s : ByteArray} {row : List Bs} {t : List (Nat × List Bs)} {X : Except Er (List Ent)} (h0 : EnI n0 w w rb wb mb F P 0 [] Q0) (h : RdH B n0 w rb wb mb F P s N ((l, row) :: t)) (hRk : RowsOk ((l, row) :: t)) (hF : FAt B w F P) (hM : Mx B w) (hBn : B ≤ n0) (hN : Np (fun a => ∀ x ∈ a, 0 ≤ x ∧ x ≤ 65535) F) (hp : P.pm ≠ mb) {n : Nat} (hc : cntE row = 0) (hn : cntN row = (n : Nat)) (hn2 : n ≤ 8192) {E : List Ent} (hE : ents F n t [] = .ok E) (hlt : E.length < n) (hX : X = .error (N + 1, 116)) : ReadC rb s n0 wb mb w F P X := by
 have HF := hide hF
 have HM := hide hM
 have HN := hide hN
 have HP := hide hp
 clear hF hM hN hp
 have hlz : (E.length : Int) < (n : Int) := by omega
 have HE := hide hE
 clear hE hlt
 obtain ⟨-, -, hR⟩ := h.rows
 rw [List.length_cons] at hR
 have HR := hide hR
 have HL := hide h.line
 have H0 := hide h0
 have HX := hide hX
 have HRK := hide hRk
 clear h0 hX h hR hRk
 go_enter Tryz.func47, Tryz.ntmps47
 go_wp2_with fail
 refine (unhide HR).mono ?_
 rintro e w2 ⟨ao, cap, rfl, hra, b2⟩
 have HB2 := hide b2
 have HRA := hide hra
 clear hra b2
 go_wp2_with fail
 refine (unhide HL _ (unhide HB2)).mono ?_
 rintro e w3 ⟨rfl, b3⟩
 have HI3 := hide ((unhide H0).below (btr (unhide HB2) b3))
 have hra3 : RowsAt B w3 (.slice ao (t.length + 1) cap) ((l, row) :: t) := rows_kept (unhide HRA) (below_kept b3) (below_kept b3)
 obtain ⟨g, off, cap', fv, e1, c1, c2, r3, r4, r5, -, r7, ⟨curg, r8⟩, r9⟩ := rows_tail hra3
 injection e1 with e1 e2 e3
 subst e1
 subst e3
 obtain ⟨gf, cf, rfl, hgf, hfl, hfc, -, -⟩ := str_cells r5
 unfold maxLen at c2
 obtain ⟨c7, c6, cz, clt⟩ := (unhide HI3).c7
 -- the line is told
 have HI4 := hide ((unhide HI3).line l)
 have hgr : g ≠ rb := by
  rintro rfl
  have := (unhide HI3).rdr
  rw [r8] at this
  injection this with this
  injection this with _ this _
  exact absurd this (by decide)
 have s4 : StrRow B (w3.setCell ⟨rb, 7, none⟩ (.int .i64 (l : Nat))) (.slice (some ⟨gf, 0, none⟩) row.length cf) (row.map Fld.str) := by
  refine str_kept r5 fun g' cur q => (kp_set w3 rb 7 _).2 g' (lt_some q) ?_
  rintro rfl
  have := (unhide HI3).rdr
  rw [q] at this
  injection this with this
  injection this with _ this _
  exact absurd this (by decide)
 have r94 : ∀ ao c, (0 < t.length → ao = some ⟨g, off + 2, none⟩) → t.length ≤ c → c ≤ maxLen → (ao = none → c = 0) → RowsAt B (w3.setCell ⟨rb, 7, none⟩ (.int .i64 (l : Nat))) (.slice ao t.length c) t := by
  intro ao c q1 q2 q3 q4
  refine rows_kept (r9 ao c q1 q2 q3 q4) (fun g' cur q => (kp_set w3 rb 7 _).2 g' (lt_some q) ?_) (fun g' cur q => (kp_set w3 rb 7 _).2 g' (lt_some q) ?_)
  all_goals
   rintro rfl
   have := (unhide HI3).rdr
   rw [q] at this
   injection this with this
   injection this with _ this _
   exact absurd this (by decide)
 have HS4 := hide s4
 have HR94 := hide r94
 have HB3 := hide b3
 have hrk := unhide HRK _ List.mem_cons_self
 have HRC := hide (fun W => fun (hS : StrRow B W (.slice (some ⟨gf, 0, none⟩) row.length cf) (row.map Fld.str)) => readCount_any hS hrk.2.2)
 clear hra3 r5 r8 r9 s4 r94 b3 hrk
 go_wp2_with fail
 refine gen_call ?_
 intro V hV
 rw [← hV] at HS4 HR94 HI4
 clear hV
 refine (unhide HRC _ (unhide HS4)).mono ?_
 rintro e w5 ⟨rfl, hw⟩
 obtain rfl := hw.symm
 rw [hc, hn]
 have HEN := hide (fun ao c q1 q2 q3 q4 => readEntries_any (n := n) ((unhide HI4).dh (unhide HF) (unhide HP)).file ((unhide HM).low ((unhide HI4).low.mono hBn)) hBn (unhide HN) (unhide HP) (unhide HI4).fresh (unhide HR94 ao c q1 q2 q3 q4) (fun p hp => unhide HRK p (List.mem_cons_of_mem _ hp)) hn2)
 clear HRC HS4 hc hn HR94 c7 c6 cz clt
 go_wp2_with fail
 ·refine (unhide HEN (some ⟨g, off, none⟩) 0 (fun h => by omega) (by omega) (by unfold maxLen; omega) (fun e => rfl)).mono ?_
  rintro e w6 hr6
  have hr7 := EnRes.from (unhide HI4) hr6
  rw [unhide HE] at hr7
  obtain ⟨l', E', Q', hI', rfl, rfl⟩ := hr7
  have HI' := hide hI'
  have HLE := hide (len_any hI'.wa)
  obtain ⟨c7, c6, cz, clt⟩ := hI'.c7
  clear hr6 hI'
  go_wp2_with fail
  refine (unhide HLE).mono ?_
  rintro e w7 ⟨rfl, hw7⟩
  obtain rfl := hw7.symm
  go_wp2
  go_ret
  exact EnRes.no (l := N + 1) (c := 116) (unhide HX) ((unhide HI').line (N + 1))
 ·refine (unhide HEN (some ⟨g, off + 2, none⟩) (cap - 1) (fun h => rfl) (by omega) (by unfold maxLen; omega) (fun e => by cases e)).mono ?_
  rintro e w6 hr6
  have hr7 := EnRes.from (unhide HI4) hr6
  rw [unhide HE] at hr7
  obtain ⟨l', E', Q', hI', rfl, rfl⟩ := hr7
  have HI' := hide hI'
  have HLE := hide (len_any hI'.wa)
  obtain ⟨c7, c6, cz, clt⟩ := hI'.c7
  clear hr6 hI'
  go_wp2_with fail
  refine (unhide HLE).mono ?_
  rintro e w7 ⟨rfl, hw7⟩
  obtain rfl := hw7.symm
  go_wp2
  go_ret
  exact EnRes.no (l := N + 1) (c := 116) (unhide HX) ((unhide HI').line (N + 1))
theorem dread_all {B n0 rb wb mb N l : Nat} {w : World} {F : Fil} {P : Pts} {Q0 : WPts} {s : ByteArray} {row : List Bs} {t : List (Nat × List Bs)} {X : Except Er (List Ent)} (h0 : EnI n0 w w rb wb mb F P 0 [] Q0) (h : RdH B n0 w rb wb mb F P s N ((l, row) :: t)) (hRk : RowsOk ((l, row) :: t)) (hF : FAt B w F P) (hM : Mx B w) (hBn : B ≤ n0) (hN : Np (fun a => ∀ x ∈ a, 0 ≤ x ∧ x ≤ 65535) F) (hp : P.pm ≠ mb) {n : Nat} (hc : cntE row = 0) (hn : cntN row = (n : Nat)) (hn2 : n ≤ 8192) {E : List Ent} (hE : ents F n t [] = .ok E) (hlt : ¬ E.length < n) (hX : X = .ok E) : ReadC rb s n0 wb mb w F P X := by
 have HF := hide hF
 have HM := hide hM
 have HN := hide hN
 have HP := hide hp
 clear hF hM hN hp
 have hlz : ¬ (E.length : Int) < (n : Int) := by omega
 have HE := hide hE
 clear hE hlt
 obtain ⟨-, -, hR⟩ := h.rows
 rw [List.length_cons] at hR
 have HR := hide hR
 have HL := hide h.line
 have H0 := hide h0
 have HX := hide hX
 have HRK := hide hRk
 clear h0 hX h hR hRk
 go_enter Tryz.func47, Tryz.ntmps47
 go_wp2_with fail
 refine (unhide HR).mono ?_
 rintro e w2 ⟨ao, cap, rfl, hra, b2⟩
 have HB2 := hide b2
 have HRA := hide hra
 clear hra b2
 go_wp2_with fail
 refine (unhide HL _ (unhide HB2)).mono ?_
 rintro e w3 ⟨rfl, b3⟩
 have HI3 := hide ((unhide H0).below (btr (unhide HB2) b3))
 have hra3 : RowsAt B w3 (.slice ao (t.length + 1) cap) ((l, row) :: t) := rows_kept (unhide HRA) (below_kept b3) (below_kept b3)
 obtain ⟨g, off, cap', fv, e1, c1, c2, r3, r4, r5, -, r7, ⟨curg, r8⟩, r9⟩ := rows_tail hra3
 injection e1 with e1 e2 e3
 subst e1
 subst e3
 obtain ⟨gf, cf, rfl, hgf, hfl, hfc, -, -⟩ := str_cells r5
 unfold maxLen at c2
 obtain ⟨c7, c6, cz, clt⟩ := (unhide HI3).c7
 -- the line is told
 have HI4 := hide ((unhide HI3).line l)
 have hgr : g ≠ rb := by
  rintro rfl
  have := (unhide HI3).rdr
  rw [r8] at this
  injection this with this
  injection this with _ this _
  exact absurd this (by decide)
 have s4 : StrRow B (w3.setCell ⟨rb, 7, none⟩ (.int .i64 (l : Nat))) (.slice (some ⟨gf, 0, none⟩) row.length cf) (row.map Fld.str) := by
  refine str_kept r5 fun g' cur q => (kp_set w3 rb 7 _).2 g' (lt_some q) ?_
  rintro rfl
  have := (unhide HI3).rdr
  rw [q] at this
  injection this with this
  injection this with _ this _
  exact absurd this (by decide)
 have r94 : ∀ ao c, (0 < t.length → ao = some ⟨g, off + 2, none⟩) → t.length ≤ c → c ≤ maxLen → (ao = none → c = 0) → RowsAt B (w3.setCell ⟨rb, 7, none⟩ (.int .i64 (l : Nat))) (.slice ao t.length c) t := by
  intro ao c q1 q2 q3 q4
  refine rows_kept (r9 ao c q1 q2 q3 q4) (fun g' cur q => (kp_set w3 rb 7 _).2 g' (lt_some q) ?_) (fun g' cur q => (kp_set w3 rb 7 _).2 g' (lt_some q) ?_)
  all_goals
   rintro rfl
   have := (unhide HI3).rdr
   rw [q] at this
   injection this with this
   injection this with _ this _
   exact absurd this (by decide)
 have HS4 := hide s4
 have HR94 := hide r94
 have HB3 := hide b3
 have hrk := unhide HRK _ List.mem_cons_self
 have HRC := hide (fun W => fun (hS : StrRow B W (.slice (some ⟨gf, 0, none⟩) row.length cf) (row.map Fld.str)) => readCount_any hS hrk.2.2)
 clear hra3 r5 r8 r9 s4 r94 b3 hrk
 go_wp2_with fail
 refine gen_call ?_
 intro V hV
 rw [← hV] at HS4 HR94 HI4
 clear hV
 refine (unhide HRC _ (unhide HS4)).mono ?_
 rintro e w5 ⟨rfl, hw⟩
 obtain rfl := hw.symm
 rw [hc, hn]
 have HEN := hide (fun ao c q1 q2 q3 q4 => readEntries_any (n := n) ((unhide HI4).dh (unhide HF) (unhide HP)).file ((unhide HM).low ((unhide HI4).low.mono hBn)) hBn (unhide HN) (unhide HP) (unhide HI4).fresh (unhide HR94 ao c q1 q2 q3 q4) (fun p hp => unhide HRK p (List.mem_cons_of_mem _ hp)) hn2)
 clear HRC HS4 hc hn HR94 c7 c6 cz clt
 go_wp2_with fail
 ·refine (unhide HEN (some ⟨g, off, none⟩) 0 (fun h => by omega) (by omega) (by unfold maxLen; omega) (fun e => rfl)).mono ?_
  rintro e w6 hr6
  have hr7 := EnRes.from (unhide HI4) hr6
  rw [unhide HE] at hr7
  obtain ⟨l', E', Q', hI', rfl, rfl⟩ := hr7
  have HI' := hide hI'
  have HLE := hide (len_any hI'.wa)
  obtain ⟨c7, c6, cz, clt⟩ := hI'.c7
  clear hr6 hI'
  go_wp2_with fail
  refine (unhide HLE).mono ?_
  rintro e w7 ⟨rfl, hw7⟩
  obtain rfl := hw7.symm
  go_wp2
  go_ret
  exact EnRes.yes (unhide HX) (unhide HI')
 ·refine (unhide HEN (some ⟨g, off + 2, none⟩) (cap - 1) (fun h => rfl) (by omega) (by unfold maxLen; omega) (fun e => by cases e)).mono ?_
  rintro e w6 hr6
  have hr7 := EnRes.from (unhide HI4) hr6
  rw [unhide HE] at hr7
  obtain ⟨l', E', Q', hI', rfl, rfl⟩ := hr7
  have HI' := hide hI'
  have HLE := hide (len_any hI'.wa)
  obtain ⟨c7, c6, cz, clt⟩ := hI'.c7
  clear hr6 hI'
  go_wp2_with fail
  refine (unhide HLE).mono ?_
  rintro e w7 ⟨rfl, hw7⟩
  obtain rfl := hw7.symm
  go_wp2
  go_ret
  exact EnRes.yes (unhide HX) (unhide HI')
theorem dread_any {B n0 rb wb mb : Nat} {w : World} {F : Fil} {P : Pts} {Q0 : WPts} (h0 : EnI n0 w w rb wb mb F P 0 [] Q0) (hF : FAt B w F P) (hM : Mx B w) (hBn : B ≤ n0) (hN : Np (fun a => ∀ x ∈ a, 0 ≤ x ∧ x ≤ 65535) F) (hp : P.pm ≠ mb) (s : ByteArray) : ReadC rb s n0 wb mb w F P (dicR F s.data.toList) := by
 have hz : s.data.toList.length = s.size := by simp
 by_cases hq : 65536 < s.size
 ·exact dread_long h0 (by omega) (by unfold dicR; rw [if_pos (by omega)])
 ·have hql : ¬ 65536 < s.data.toList.length := by omega
  have hMe : ∀ W, Below w.heap.size w W → EachW.MaxIs W := fun W b => (hM.low (b.mono (Nat.le_trans hBn h0.wa.base))).ea
  have hB : B ≤ w.heap.size := Nat.le_trans hBn h0.wa.base
  have hok := rows_ok s.data.toList (by omega)
  have hH : RdH B n0 w rb wb mb F P s (Ln.linesOf s.data.toList).length (Rw.rowsOf s.data.toList) := by
   refine ⟨⟨fun _ => True, trivial, (RowW.rows_short s w (by omega) (hMe w (Below.refl _ _))).mono ?_⟩, fun W b => (lineBehind_any s W (by omega) (hMe W b)).mono ?_⟩
   ·rintro e w' ⟨v, rfl, hv, b⟩
    have hv2 := rowsAt_of hv hB (fun p hp => (hok p hp).2.1)
    obtain ⟨ao, cap, rfl, -⟩ := id hv2
    exact ⟨ao, cap, rfl, hv2, b⟩
   ·rintro e w' ⟨rfl, b⟩
    exact ⟨rfl, b⟩
  cases hr : Rw.rowsOf s.data.toList with
  | nil =>
   rw [hr] at hH
   exact dread_nil h0 hH (dicR_nil hql hr)
  | cons p t =>
   obtain ⟨l, row⟩ := p
   rw [hr] at hH hok
   have hd := dicR_cons (F := F) hql hr
   rw [cntX_eq] at hd
   by_cases hc : cntE row = 0
   ·rw [if_pos hc] at hd
    simp only at hd
    have h1 : row.length = 1 := by
     unfold cntE at hc
     split at hc
     ·exact absurd hc (by decide)
     ·rename_i h; simpa using h
    have hcn : cntN row = (((cntN row).toNat : Nat) : Int) := by unfold cntN; rw [if_neg (by simp [h1])]; exact numN_cast.symm
    have hn2 : (cntN row).toNat ≤ 8192 := by
     have hh : numb l (fld row 0) 8192 = .ok (cntN row).toNat := by
      have := cntX_eq l row
      rw [if_pos hc] at this
      unfold cntX at this
      rwa [if_neg (by simp [h1])] at this
     exact numb_le hh
    cases he : ents F (cntN row).toNat t [] with
    | error er =>
     rw [he] at hd
     exact dread_bad h0 hH hok hF hM hBn hN hp hc hcn hn2 (l2 := er.1) (c2 := er.2) he hd
    | ok E =>
     rw [he] at hd
     simp only at hd
     by_cases hlt : E.length < (cntN row).toNat
     ·rw [if_pos hlt] at hd
      exact dread_few h0 hH hok hF hM hBn hN hp hc hcn hn2 he hlt hd
     ·rw [if_neg hlt] at hd
      exact dread_all h0 hH hok hF hM hBn hN hp hc hcn hn2 he hlt hd
   ·rw [if_neg hc] at hd
    exact dread_count h0 hH hok hc hd
theorem numM_nil (nf : Bs → Value) : numM [] nf = fun _ => none := by
 funext k
 cases k <;> simp [numM]
theorem MapF.lit (w : World) : MapF (w.alloc (.map #[] 0)) 9 w.heap.size 0 (numM [] (fun _ => .slice none 0 0)) := by
 rw [numM_nil]
 exact MapF.made w 9
theorem new_reader {w1 w w' : World} {F : Fil} {P : Pts} (k : Below w.heap.size w w1) (hw' : w' = ((w1.alloc (.map #[] 0)).alloc (.cells #[.slice none 0 0, .map (some w1.heap.size)] 120)).alloc (.cells (rdC P.fb (w1.heap.size + 1) 0 F) 116)) :
  EnI w.heap.size w' w' (w1.heap.size + 2) (w1.heap.size + 1) w1.heap.size F P 0 [] ⟨.slice none 0 0, w1.heap.size, [], fun _ => .slice none 0 0⟩ ∧ Below w.heap.size w w' := by
 subst hw'
 have hs := k.size
 have b1 : Below (w1.alloc (.map #[] 0)).heap.size (w1.alloc (.map #[] 0)) (((w1.alloc (.map #[] 0)).alloc (.cells #[.slice none 0 0, .map (some w1.heap.size)] 120)).alloc (.cells (rdC P.fb (w1.heap.size + 1) 0 F) 116)) := ((Below.refl _ _).alloc (Nat.le_refl _) _).alloc (by simp) _
 have b2 : Below ((w1.alloc (.map #[] 0)).alloc (.cells #[.slice none 0 0, .map (some w1.heap.size)] 120)).heap.size ((w1.alloc (.map #[] 0)).alloc (.cells #[.slice none 0 0, .map (some w1.heap.size)] 120)) (((w1.alloc (.map #[] 0)).alloc (.cells #[.slice none 0 0, .map (some w1.heap.size)] 120)).alloc (.cells (rdC P.fb (w1.heap.size + 1) 0 F) 116)) := (Below.refl _ _).alloc (Nat.le_refl _) _
 have n1 := alloc_new (w1.alloc (.map #[] 0)) (.cells #[.slice none 0 0, .map (some w1.heap.size)] 120)
 have n2 := alloc_new ((w1.alloc (.map #[] 0)).alloc (.cells #[.slice none 0 0, .map (some w1.heap.size)] 120)) (.cells (rdC P.fb (w1.heap.size + 1) 0 F) 116)
 simp only [World.size_alloc] at n1 n2 b1 b2
 refine ⟨⟨Kq.refl _ _ _, Below.refl _ _, by omega, n2, ⟨by omega, hs, by simp; omega, (b2.block _ (by omega)).trans n1, ⟨rfl, .inl ⟨rfl, rfl⟩⟩, ⟨rfl, fun i v x a b => (by cases a)⟩, ⟨0, Nat.le_refl _, (MapF.lit w1).kept (b1.block _ (by omega))⟩, fun s h => (by cases h), by simp⟩, rfl⟩, ?_⟩
 exact (k.alloc hs _).alloc (by simp; omega) _ |>.alloc (by simp; omega) _
theorem field3 (a b c s0 s1 s2 s3 s4 l vr va vc vu : Value) (W : World) : (Instr.field 43 (.agg #[a, b, c, s0, s1, s2, s3, s4, l, vr, va, vc, vu]) 3).run Tryz.prog W = .ok (.agg #[s0, s1, s2, s3, s4]) W := by kernel_rfl
theorem newDic_any {B : Nat} {w : World} {F : Fil} {P : Pts} (h : FAt B w F P) (hS : Np Sd F) (hcn : F.classes.length ≤ 1048577) :
  Calls Tryz.prog 46 #[.pointer (some ⟨P.fb, 0, none⟩)] w fun e w' => ∃ rb wb mb Q, e = .returned (ptr rb) ∧ EnI w.heap.size w' w' rb wb mb F P 0 [] Q ∧ w.heap.size ≤ mb ∧ Below w.heap.size w w' := by
 have HA := hide (Affixes_any h hS hcn)
 have HF3 := field3
 have hmm := @run_makeMap Tryz.prog
 have HN := hide (fun w1 w' (k : Below w.heap.size w w1) e => new_reader (F := F) (P := P) (w1 := w1) (w' := w') k e)
 clear h hS hcn
 go_enter Tryz.func46, Tryz.ntmps46
 go_wp2_with (go_at_call 14; refine (unhide HA).mono ?_; rintro e w2 ⟨b2, v, rfl, ⟨vr, va, vc, vu, av, nv, rfl, -⟩⟩; have HB2 := hide b2; clear b2; unfold axL)
 go_ret
 obtain ⟨q1, q2⟩ := unhide HN w2 _ (unhide HB2) rfl
 exact ⟨_, _, _, _, rfl, q1, (unhide HB2).size, q2⟩
def DRes (w : World) (X : Except Er (List Ent)) (e : Ending) (w' : World) : Prop :=
 Below w.heap.size w w' ∧ match X with
 | .ok E => ∃ n0 wb Q, w.heap.size ≤ n0 ∧ e = .returned (.tuple #[.pointer (some ⟨wb, 0, none⟩), zF]) ∧ WA n0 w' wb E E Q
 | .error er => e = .returned (.tuple #[.pointer none, .agg #[.int .i64 2, .int .i64 (er.1 : Nat), .int .i64 (er.2 : Nat)]])
theorem dicR_code {F : Fil} {s : Bs} {er : Er} (h : dicR F s = .error er) : er.2 ≠ 0 := by
 by_cases hs : 65536 < s.length
 ·unfold dicR at h
  rw [if_pos hs] at h
  injection h with h
  subst h
  simp
 ·cases hr : Rw.rowsOf s with
  | nil =>
   rw [dicR_nil hs hr] at h
   injection h with h
   subst h
   simp
  | cons p t =>
   obtain ⟨l, row⟩ := p
   rw [dicR_cons hs hr, cntX_eq] at h
   by_cases hc : cntE row = 0
   ·rw [if_pos hc] at h
    simp only at h
    cases he : ents F (cntN row).toNat t [] with
    | error e2 =>
     rw [he] at h
     injection h with h
     subst h
     exact ents_code he
    | ok E =>
     rw [he] at h
     simp only at h
     split at h
     ·injection h with h; subst h; simp
     ·cases h
   ·rw [if_neg hc] at h
    injection h with h
    subst h
    have := cntE_nn row
    show (cntE row).toNat ≠ 0
    omega
def swr (w : World) (b : Nat) (x y z : Value) : World := ((w.setCell ⟨b, 0, none⟩ x).setCell ⟨b, 1, none⟩ y).setCell ⟨b, 2, none⟩ z
theorem swr_facts {w : World} {b n0 : Nat} {a0 a1 a2 : Value} (h : w.heap[b]? = some (.cells #[a0, a1, a2] 31 (0, 0))) (hb : n0 ≤ b) (x y z : Value) : (swr w b x y z).heap[b]? = some (.cells #[x, y, z] 31 (0, 0)) ∧ Below n0 w (swr w b x y z) ∧ Kp b w (swr w b x y z) := by
 refine ⟨?_, (((Below.refl _ _).setCell (p := ⟨b, 0, none⟩) hb x).setCell (p := ⟨b, 1, none⟩) hb y).setCell (p := ⟨b, 2, none⟩) hb z, kp_trans (kp_trans (kp_set w b 0 x) (kp_set _ b 1 y)) (kp_set _ b 2 z)⟩
 unfold swr
 rw [set_heap1 (set_heap1 (set_heap1 h x) y) z]
 rfl
theorem DRes.no {w w' : World} {X : Except Er (List Ent)} {l c : Nat} (h : X = .error (l, c)) (k : Below w.heap.size w w') : DRes w X (.returned (.tuple #[.pointer none, .agg #[.int .i64 2, .int .i64 (l : Nat), .int .i64 (c : Nat)]])) w' := by
 subst h
 exact ⟨k, rfl⟩
theorem DRes.yes {w w' : World} {X : Except Er (List Ent)} {E : List Ent} {n0 wb : Nat} {Q : WPts} (h : X = .ok E) (k : Below w.heap.size w w') (hn : w.heap.size ≤ n0) (hw : WA n0 w' wb E E Q) : DRes w X (.returned (.tuple #[.pointer (some ⟨wb, 0, none⟩), .agg #[.int .i64 0, .int .i64 0, .int .i64 0]])) w' := by
 subst h
 exact ⟨k, n0, wb, Q, hn, rfl, hw⟩
theorem dicRead_any {B : Nat} {w : World} {F : Fil} {P : Pts} (hF : FAt B w F P) (hM : Mx B w) (hB : B ≤ w.heap.size) (hS : Np Sd F) (hN : Np (fun a => ∀ x ∈ a, 0 ≤ x ∧ x ≤ 65535) F) (hcn : F.classes.length ≤ 1048577) (s : ByteArray) :
  Calls Tryz.prog 18 #[.pointer (some ⟨P.fb, 0, none⟩), .string s] w (DRes w (dicR F s.data.toList)) := by
 have b1 : Below w.heap.size w (w.alloc (.cells #[.int .i64 0, .int .i64 0, .int .i64 0] 31)) := (Below.refl _ _).alloc (Nat.le_refl _) _
 have hF1 := hF.below b1
 have hpm : P.pm < w.heap.size := by obtain ⟨n, -, hm⟩ := hF.plc; exact hm.lt
 have HN : Hid (Calls Tryz.prog 46 #[.pointer (some ⟨P.fb, 0, none⟩)] (w.alloc (.cells #[.int .i64 0, .int .i64 0, .int .i64 0] 31)) fun e w' => ∃ rb wb mb Q, e = .returned (ptr rb) ∧ EnI (w.heap.size + 1) w' w' rb wb mb F P 0 [] Q ∧ w.heap.size + 1 ≤ mb ∧ Below (w.heap.size + 1) (w.alloc (.cells #[.int .i64 0, .int .i64 0, .int .i64 0] 31)) w') := by
  have := newDic_any hF1 hS hcn
  rw [World.size_alloc] at this
  exact this
 have HV := hide (alloc_new w (.cells #[.int .i64 0, .int .i64 0, .int .i64 0] 31))
 have HR := hide (fun rb wb mb Q w2 (hI : EnI (w.heap.size + 1) w2 w2 rb wb mb F P 0 [] Q) (hm : w.heap.size + 1 ≤ mb) (b2 : Below (w.heap.size + 1) (w.alloc (.cells #[.int .i64 0, .int .i64 0, .int .i64 0] 31)) w2) =>
  (show ReadC rb s (w.heap.size + 1) wb mb w2 F P (dicR F s.data.toList) from by
   have b3 : Below w.heap.size w w2 := b1.trans (b2.mono (by omega))
   exact dread_any hI (hF.below b3) (hM.low (b3.mono hB)) (by omega) hN (by omega) s))
 have HB1 := hide b1
 clear b1 hF1 hF hM hS hN hcn hpm
 cases hx : dicR F s.data.toList with
 | error er =>
  have hc0 := dicR_code hx
  have hcb : ((er.2 : Int) == 0) = false := by simpa using hc0
  have HX := hide hx
  clear hx hc0
  go_enter Tryz.func18, Tryz.ntmps18
  go_wp2_with fail
  refine (unhide HN).mono ?_
  rintro e w2 ⟨rb, wb, mb, Q, rfl, hI, hm, b2⟩
  have HRR := hide (unhide HR rb wb mb Q w2 hI hm b2)
  have HB2 := hide b2
  clear hI hm b2
  go_wp2_with fail
  refine (unhide HRR).mono ?_
  rintro e w3 hr3
  rw [unhide HX] at hr3
  obtain ⟨l', E', Q', hI', rfl, rfl⟩ := hr3
  obtain ⟨c7, c6, cz, clt⟩ := hI'.c7
  have hb3 : Below (w.heap.size + 1) (w.alloc (.cells #[.int .i64 0, .int .i64 0, .int .i64 0] 31)) w3 := (unhide HB2).trans hI'.low
  have hv3 := (hb3.block w.heap.size (by omega)).trans (unhide HV)
  have HB3 := hide ((unhide HB1).trans (hb3.mono (by omega)))
  obtain ⟨v0, v1, v2, vz⟩ := fault3 hv3
  have hvl := lt_some hv3
  have HV3 := hide hv3
  clear hI' hb3 hv3 HN HR HV HRR HB2 HB1
  go_wp2
  refine Lst.region_last (ops1 := ?ops1) (o := ?op1) (S := fun w' => w'.cell? ⟨rb, 7, none⟩ = some (.int .i64 (er.1 : Nat))) (by kernel_rfl) ?hp1 ?hb1 ?hk1 (by exact c7) ?hn1
  case hp1 => (simp only [List.pop_toArray, List.dropLast_cons_cons, List.dropLast_singleton]; rfl)
  case hb1 => (simp only [List.back?_toArray, List.getLast?_cons_cons, List.getLast?_singleton]; rfl)
  case hk1 => kernel_rfl
  intro hHeld
  refine wpAnyH_take (i := 6) (v := ?v2) (by simp only [List.getElem?_toArray, List.getElem?_cons_succ, List.getElem?_cons_zero]; rfl) (by kernel_rfl) (by kernel_rfl) (by kernel_rfl) (by exact fun _ _ _ h => h) (Or.inl ⟨by rfl, ?hy2⟩) (by assumption) ?_
  case hy2 => (intro w hSw; (try dsimp only at hSw); go_simp; first | done | (with_reducible rfl))
  (try simp only [Act.put, List.setIfInBounds_toArray, List.set_cons_zero, List.set_cons_succ])
  refine wpAnyH_take (i := 0) (v := ?v3) (by simp only [List.getElem?_toArray, List.getElem?_cons_zero]; rfl) (by kernel_rfl) (by kernel_rfl) (by kernel_rfl) (by exact fun _ _ _ h => h) (Or.inl ⟨by rfl, ?hy3⟩) (by assumption) ?_
  case hy3 => (intro w hSw; (try dsimp only at hSw); go_simp; first | done | (with_reducible rfl))
  (try simp only [Act.put, List.setIfInBounds_toArray, List.set_cons_zero, List.set_cons_succ])
  refine wpAnyH_take (i := 1) (v := ?v4) (by simp only [List.getElem?_toArray, List.getElem?_cons_succ, List.getElem?_cons_zero]; rfl) (by kernel_rfl) (by kernel_rfl) (by kernel_rfl) (by exact fun _ _ _ h => h) (Or.inl ⟨by rfl, ?hy4⟩) (by assumption) ?_
  case hy4 => (intro w hSw; (try dsimp only at hSw); go_simp; first | done | (with_reducible rfl))
  (try simp only [Act.put, List.setIfInBounds_toArray, List.set_cons_zero, List.set_cons_succ])
  refine wpAnyH_take (i := 2) (v := ?v5) (by simp only [List.getElem?_toArray, List.getElem?_cons_succ, List.getElem?_cons_zero]; rfl) (by kernel_rfl) (by kernel_rfl) (by kernel_rfl) (by exact fun _ _ _ h => h) (Or.inl ⟨by rfl, ?hy5⟩) (by assumption) ?_
  case hy5 => (intro w hSw; (try dsimp only at hSw); go_simp; first | done | (with_reducible rfl))
  (try simp only [Act.put, List.setIfInBounds_toArray, List.set_cons_zero, List.set_cons_succ])
  refine wpAnyH_take (i := 3) (v := ?v6) (by simp only [List.getElem?_toArray, List.getElem?_cons_succ, List.getElem?_cons_zero]; rfl) (by kernel_rfl) (by kernel_rfl) (by kernel_rfl) (by exact fun _ _ _ h => h) (Or.inl ⟨by rfl, ?hy6⟩) (by assumption) ?_
  case hy6 => (intro w hSw; (try dsimp only at hSw); go_simp; first | done | (with_reducible rfl))
  (try simp only [Act.put, List.setIfInBounds_toArray, List.set_cons_zero, List.set_cons_succ])
  refine wpAnyH_take (i := 4) (v := ?v7) (by simp only [List.getElem?_toArray, List.getElem?_cons_succ, List.getElem?_cons_zero]; rfl) (by kernel_rfl) (by kernel_rfl) (by kernel_rfl) (by exact fun _ _ _ h => h) (Or.inl ⟨by rfl, ?hy7⟩) (by assumption) ?_
  case hy7 => (intro w hSw; (try dsimp only at hSw); go_simp; first | done | (with_reducible rfl))
  (try simp only [Act.put, List.setIfInBounds_toArray, List.set_cons_zero, List.set_cons_succ])
  refine wpAnyH_take (i := 5) (v := ?v8) (by simp only [List.getElem?_toArray, List.getElem?_cons_succ, List.getElem?_cons_zero]; rfl) (by kernel_rfl) (by kernel_rfl) (by kernel_rfl) (by exact fun _ _ _ h => h) (Or.inl ⟨by rfl, ?hy8⟩) (by assumption) ?_
  case hy8 => (intro w hSw; (try dsimp only at hSw); go_simp; first | done | (with_reducible rfl))
  (try simp only [Act.put, List.setIfInBounds_toArray, List.set_cons_zero, List.set_cons_succ])
  refine wpAnyH_done (by kernel_rfl) ?_ _
  show Oper.wp _ _ _ _ _ _
  go_simp
  rename_i K2 hK2
  apply hK2
  refine gen_world ?_
  intro V hV
  obtain ⟨f1, f2, f3⟩ := swr_facts (n0 := w.heap.size) (unhide HV3) (Nat.le_refl _) (.int .i64 2) (.int .i64 (er.1 : Nat)) (.int .i64 (er.2 : Nat))
  have HF : Hid (V.heap[w.heap.size]? = some (.cells #[.int .i64 2, .int .i64 (er.1 : Nat), .int .i64 (er.2 : Nat)] 31 (0, 0)) ∧ Below w.heap.size w V) := by
   rw [hV]
   exact ⟨f1, ((unhide HB3).trans f2).drew⟩
  clear hV f1 f2 f3
  obtain ⟨m0, m1, m2, mz⟩ := fault3 (unhide HF).1
  go_wp2
  refine bodyPost_ret (v := .tuple #[.pointer none, .agg #[.int .i64 2, .int .i64 (er.1 : Nat), .int .i64 (er.2 : Nat)]]) (by simp [results, Tryz.results18, go_sem, m0, m1, m2]) rfl ?_
  exact DRes.no rfl (unhide HF).2
 | ok E =>
  have HX := hide hx
  clear hx
  go_enter Tryz.func18, Tryz.ntmps18
  go_wp2_with fail
  refine (unhide HN).mono ?_
  rintro e w2 ⟨rb, wb, mb, Q, rfl, hI, hm, b2⟩
  have HRR := hide (unhide HR rb wb mb Q w2 hI hm b2)
  have HB2 := hide b2
  clear hI hm b2
  go_wp2_with fail
  refine (unhide HRR).mono ?_
  rintro e w3 hr3
  rw [unhide HX] at hr3
  obtain ⟨l', E', Q', hI', rfl, rfl⟩ := hr3
  obtain ⟨c7, c6, cz, clt⟩ := hI'.c7
  have hb3 : Below (w.heap.size + 1) (w.alloc (.cells #[.int .i64 0, .int .i64 0, .int .i64 0] 31)) w3 := (unhide HB2).trans hI'.low
  have hv3 := (hb3.block w.heap.size (by omega)).trans (unhide HV)
  have HB3 := hide ((unhide HB1).trans (hb3.mono (by omega)))
  obtain ⟨v0, v1, v2, vz⟩ := fault3 hv3
  have hvl := lt_some hv3
  have HV3 := hide hv3
  have HW3 := hide hI'.wa
  clear hI' hb3 hv3 HN HR HV HRR HB2 HB1
  obtain ⟨f1, f2, f3⟩ := swr_facts (n0 := w.heap.size) (unhide HV3) (Nat.le_refl _) (.int .i64 0) (.int .i64 0) (.int .i64 0)
  obtain ⟨m0, m1, m2, mz⟩ := fault3 f1
  have kz : Kq [31] noM w3 (swr w3 w.heap.size (.int .i64 0) (.int .i64 0) (.int .i64 0)) := Kq.kp f3 (unhide HV3) (by simp)
  have HWF := hide ((unhide HW3).frame kz (by decide) (by decide) (by decide) (by decide) (fun q => q))
  have HBF := hide ((unhide HB3).trans f2)
  clear f1 f2 f3 kz
  go_wp2
  show bodyPost _ _ _ Exit.ret _ (swr w3 w.heap.size (.int .i64 0) (.int .i64 0) (.int .i64 0))
  refine bodyPost_ret (v := .tuple #[.pointer (some ⟨wb, 0, none⟩), .agg #[.int .i64 0, .int .i64 0, .int .i64 0]]) (by simp [results, Tryz.results18, go_sem, m0, m1, m2]) rfl ?_
  exact DRes.yes rfl (unhide HBF) (by omega) (unhide HWF)
end Af
end Go.Proofs.YtidhbhdcoanfcaaGreatDoor
namespace Go.Proofs
open Go.Shelf
def Tryz.laysCl_ent_ren : Go.Shelf.Ren := ⟨fun | 41 => 48 | n => n, fun | 4 => 4 | 22 => 51 | 23 => 56 | n => n, fun | n => n⟩
theorem Tryz.laysCl_ent : Go.Proofs.SlLaysE0.n41 Tryz.prog Tryz.laysCl_ent_ren := {
 mixed := by kernel_rfl
 f41 := ⟨"slices.Clone[[]hornbook/api.Entry,hornbook/api.Entry]", by decide, Tryz.func48.trans (congrArg some (by kernel_rfl))⟩
 t4 := Tryz.underlying4
 a4 := Tryz.isAgg4
 z4 := Tryz.sizeOf4
 v4 := Tryz.zeroValue4
 t22 := Tryz.underlying51
 a22 := Tryz.isAgg51
 z22 := Tryz.sizeOf51
 v22 := Tryz.zeroValue51 }
end Go.Proofs
namespace Go.Proofs.YtidhbhdcoanfcaaGreatDoor
open Go.RowKit
namespace Af
open RowB
theorem clone_ent {B n : Nat} {w : World} {v : Value} {xs : List Value} (h : w.ownsRow B 56 2 v n xs) (h1 : ∀ u ∈ xs, u.oneCell' = true) (hn : n ≤ 1048577) : Calls Tryz.prog 48 #[v] w fun e w' => ∃ v', e = .returned v' ∧ w'.ownsRow w.heap.size 56 2 v' n xs ∧ Below w.heap.size w w' := by
 obtain ⟨i, hi, hz'⟩ := Option.map_eq_some_iff.1 infoE
 simp only [Prod.mk.injEq] at hz'
 obtain ⟨hz0, hz1, hz2⟩ := hz'
 obtain ⟨hl, ⟨rfl, rfl⟩ | ⟨g, cap, cur, rfl, hg, hh, hc, hm, hs, ht⟩⟩ := h
 ·refine (AnyE.slices_Clone_nil Tryz.laysCl_ent 0 0 w).mono ?_
  rintro e w' ⟨rfl, rfl⟩
  have : xs = [] := by cases xs with | nil => rfl | cons _ _ => simp at hl
  subst this
  exact ⟨_, rfl, World.ownsRow_nil _ _ _ _, Below.refl _ _⟩
 ·refine (AnyE.slices_Clone Tryz.laysCl_ent i _ 2 40 hi hz0 hz1 hz2 rfl (by decide) Tryz.sizeOf56 g 0 n cap xs w hl (by omega) (by omega) (fun j u hj => ?_) h1).mono ?_
  ·have hjl := (List.getElem?_eq_some_iff.1 hj).1
   rw [← ht, List.getElem?_take] at hj
   split at hj
   ·simpa [World.cell?, hh] using hj
   ·cases hj
  ·rintro e w' ⟨v', rfl, o, -, b⟩
   exact ⟨v', rfl, o, b⟩
def EntR (n : Nat) (W : World) (E : List Ent) (v : Value) (fv : List Value) (j : Nat) : Prop := W.ownsRow n 56 2 v E.length ((E.zip fv).flatMap fun p => entC p.1 p.2) ∧ fv.length = E.length ∧ ∀ (i : Nat) u x, fv[i]? = some u → E[i]? = some x → FNx (if i < j then n else 0) W u x.flags
theorem EntR.kq {n j : Nat} {W W' : World} {E : List Ent} {v : Value} {fv : List Value} {T : List TypeId} {M : Nat → Prop} (h : EntR n W E v fv j) (k : Kq T M W W') (ht : 56 ∉ T) (ht2 : 36 ∉ T) : EntR n W' E v fv j := ⟨own_kq h.1 k ht, h.2.1, fun i u a q1 q2 => fnx_kq (h.2.2 i u a q1 q2) k ht2⟩
theorem zipE_set {u : Value} : ∀ (rs : List Ent) (nv : List Value) (j : Nat), j < rs.length → nv.length = rs.length → ((rs.zip (nv.set j u)).flatMap fun p => entC p.1 p.2) = ((rs.zip nv).flatMap fun p => entC p.1 p.2).set (j * 2 + 1) u
 | [], _, _, h, _ => by simp at h
 | r :: rs, [], _, _, h => by simp at h
 | r :: rs, v :: nv, 0, h, h2 => by
  simp [entC]
 | r :: rs, v :: nv, j + 1, h, h2 => by
  have ih := zipE_set (u := u) rs nv j (by simpa using h) (by simpa using h2)
  simp only [List.set_cons_succ, List.zip_cons_cons, List.flatMap_cons, ih]
  rw [List.set_append_right _ _ (by simp [entC]; omega)]
  congr 2
  simp [entC]
  omega
theorem EntR.put {n0 j : Nat} {W W' : World} {E : List Ent} {g cap : Nat} {nv : List Value} {u : Value} {r : Ent} (h : EntR n0 W E (.slice (some ⟨g, 0, none⟩) E.length cap) nv j) (hr : E[j]? = some r) (hW : W' = W.setCell ⟨g, j * 2 + 1, none⟩ u) (hu : FNx n0 W u r.flags) : EntR n0 W' E (.slice (some ⟨g, 0, none⟩) E.length cap) (nv.set j u) (j + 1) ∧ Kq [56] noM W W' ∧ n0 ≤ g := by
 subst hW
 obtain ⟨cur, hh, hg⟩ := own_blk h.1
 have k : Kq [56] noM W (W.setCell ⟨g, j * 2 + 1, none⟩ u) := Kq.kp (kp_set _ _ _ _) hh (by simp)
 have hj := (List.getElem?_eq_some_iff.1 hr).1
 refine ⟨⟨?_, by simpa using h.2.1, fun i v q h1 h2 => ?_⟩, k, hg⟩
 ·rw [zipE_set _ _ _ hj h.2.1]
  exact own_set h.1 _ (by omega) u
 ·by_cases hi : i = j
  ·subst hi
   rw [List.getElem?_set_self (by rw [h.2.1]; exact hj)] at h1
   injection h1 with h1
   subst h1
   rw [hr] at h2
   injection h2 with h2
   subst h2
   rw [if_pos (by omega)]
   exact fnx_kq hu k (by decide)
  ·rw [List.getElem?_set_ne (fun e => hi e.symm)] at h1
   have := fnx_kq (h.2.2 i v q h1 h2) k (by decide)
   by_cases q1 : i < j
   ·rw [if_pos q1] at this
    rw [if_pos (by omega)]
    exact this
   ·rw [if_neg q1] at this
    rw [if_neg (by omega)]
    exact this
theorem ent_one {rs : List Ent} {nv : List Value} (h : ∀ v ∈ nv, v.oneCell' = true) : ∀ u ∈ (rs.zip nv).flatMap fun p => entC p.1 p.2, u.oneCell' = true := by
 intro u hu
 obtain ⟨p, hp, hu⟩ := List.mem_flatMap.1 hu
 simp only [entC, List.mem_cons, List.not_mem_nil, or_false] at hu
 rcases hu with rfl | rfl
 ·rfl
 ·exact h _ (List.of_mem_zip hp).2
theorem flatE_get {E : List Ent} {fv : List Value} (_h2 : fv.length = E.length) {j : Nat} {x : Ent} {u : Value} (hx : E[j]? = some x) (hu : fv[j]? = some u) : ((E.zip fv).flatMap fun p => entC p.1 p.2)[j * 2]? = some (.string (Wd.str x.word)) ∧ ((E.zip fv).flatMap fun p => entC p.1 p.2)[j * 2 + 1]? = some u := by
 have hz : (E.zip fv)[j]? = some (x, u) := by
  rw [List.getElem?_zip_eq_some]
  exact ⟨hx, hu⟩
 have h0 := flat_get (f := fun p : Ent × Value => entC p.1 p.2) (m := 2) (fun _ => rfl) (k := 0) hz (by omega)
 have h1 := flat_get (f := fun p : Ent × Value => entC p.1 p.2) (m := 2) (fun _ => rfl) (k := 1) hz (by omega)
 exact ⟨by simpa [entC] using h0, by simpa [entC] using h1⟩
def EsRes (w : World) (E : List Ent) (e : Ending) (w' : World) : Prop := Below w.heap.size w w' ∧ ∃ v fv, e = .returned v ∧ EntR w.heap.size w' E v fv E.length
theorem entries_any {n wb : Nat} {w : World} {E : List Ent} {Q : WPts} (h : WA n w wb E E Q) (hfl : ∀ x ∈ E, x.flags.length ≤ 1048577) : Calls Tryz.prog 20 #[ptr wb] w (EsRes w E) := by
 obtain ⟨d0, -, -⟩ := h.cells
 have hlt := h.lt
 obtain ⟨ea, ec, ee⟩ := own_slice h.ents
 have HE := hide (clone_ent h.ents (ent_one (fun v hv => by
  obtain ⟨i, hi⟩ := List.getElem?_of_mem hv
  have hil := (List.getElem?_eq_some_iff.1 hi).1
  rw [h.fvs.1] at hil
  exact fnx_one (h.fvs.2 i v _ hi (List.getElem?_eq_getElem hil)))) (by have := h.few; omega))
 rw [ee] at d0 HE
 have HF := hide h.fvs
 have HL := hide hfl
 have few := h.few
 clear h ee hfl
 obtain ⟨m, hm⟩ : ∃ m, E.length = m := ⟨_, rfl⟩
 have HM := hide hm
 rw [hm] at HE d0 few
 clear hm
 go_enter Tryz.func20, Tryz.ntmps20
 go_wp2_with (go_at_call 48; refine (unhide HE).mono ?_; rintro e w2 ⟨v, rfl, o2, b2⟩; have HO2 := hide o2; have HB2 := hide b2; obtain ⟨va, vc, rfl⟩ := own_slice o2; clear o2 b2)
 go_loopw [15] (fun s15 wr => ∃ j : Nat, s15 = .int .i64 j ∧ j ≤ m ∧ Hid (Below w.heap.size w wr ∧ ∃ fv, EntR w.heap.size wr E (.slice va m vc) fv j)) (fun s15 _ => m - (intOf s15).toNat)
 case atStart => exact ⟨0, rfl, Nat.zero_le _, ⟨unhide HB2, Q.fv, ⟨by rw [unhide HM]; exact unhide HO2, (unhide HF).1, fun i u x a b => by rw [if_neg (by omega)]; exact fnx_below (fnx_low ((unhide HF).2 i u x a b) (Nat.zero_le _)) (unhide HB2)⟩⟩⟩
 case round =>
  obtain ⟨j, rfl, hj, HR⟩ := hrel
  by_cases hlt2 : j < m
  ·have hltz : (j : Int) < (m : Int) := by omega
   obtain ⟨hb, fv, hE⟩ := unhide HR
   obtain ⟨x, hx⟩ : ∃ x, E[j]? = some x := ⟨_, List.getElem?_eq_getElem (by rw [unhide HM]; exact hlt2)⟩
   obtain ⟨u, hu⟩ : ∃ u, fv[j]? = some u := ⟨_, List.getElem?_eq_getElem (by rw [hE.2.1, unhide HM]; exact hlt2)⟩
   obtain ⟨gv, cv, ev, -, hgl, -, -, hcur, hcl⟩ := own_at hE.1 (by rw [unhide HM]; omega)
   injection ev with ev1 ev2 ev3
   clear ev2
   subst ev1
   subst ev3
   obtain ⟨k0, k1⟩ := flatE_get hE.2.1 hx hu
   have q0 := (hcl (j * 2) (by rw [unhide HM]; omega)).trans k0
   have q1 := (hcl (j * 2 + 1) (by rw [unhide HM]; omega)).trans k1
   have hfn := hE.2.2 j u x hu hx
   rw [if_neg (by omega)] at hfn
   obtain ⟨ua, un, uc, rfl⟩ := fnx_slice hfn
   have b1 : Below wr.heap.size wr (wr.alloc (.cells #[.string (Wd.str x.word), .slice ua un uc] 56)) := (Below.refl _ _).alloc (Nat.le_refl _) _
   have HCL := hide (fun W (b : Below wr.heap.size wr W) => clone_flg (w := W) (fnx_own (fnx_below hfn b)) (enc_one _) (unhide HL x (List.mem_of_getElem? hx)))
   have HST : Hid (∀ W w3 u, Below wr.heap.size wr W → w3.ownsRow W.heap.size 36 1 u x.flags.length (x.flags.map So.encF) → Below W.heap.size W w3 → ∀ W', W' = w3.setCell ⟨gv, j * 2 + 1, none⟩ u → Below w.heap.size w W' ∧ ∃ fv', EntR w.heap.size W' E (.slice (some ⟨gv, 0, none⟩) m vc) fv' (j + 1)) := by
    intro W w3 u hW o3 b3 W' hW'
    have bb : Below wr.heap.size wr w3 := hW.trans (b3.mono hW.size)
    have h4 := hE.kq (Kq.below (T := []) (M := noM) bb) (by simp) (by simp)
    rw [← unhide HM] at h4
    have hu2 : FNx w.heap.size w3 u x.flags := fnx_low (own_fnx o3) (Nat.le_trans hb.size hW.size)
    obtain ⟨r1, r2, r3⟩ := h4.put hx hW' hu2
    rw [unhide HM] at r1
    refine ⟨?_, _, r1⟩
    rw [hW']
    exact (hb.trans (bb.mono hb.size)).setCell (p := ⟨gv, j * 2 + 1, none⟩) r3 _
   have HRW : Hid (∀ W w3, Below wr.heap.size wr W → Below W.heap.size W w3 → w3.cell? ⟨gv, j * 2 + 1, none⟩ = some (.slice ua un uc) ∧ w3.frozen? ⟨gv, j * 2 + 1, none⟩ = false ∧ gv < w3.heap.size) := by
    intro W w3 hW b3
    have bb : Below wr.heap.size wr w3 := hW.trans (b3.mono hW.size)
    obtain ⟨cur, hcu⟩ := hcur
    have hcur3 := (below_kept bb _ _ hcu).trans hcu
    exact ⟨(bb.cell (p := ⟨gv, j * 2 + 1, none⟩) hgl).trans q1, by simp [World.frozen?, hcur3], lt_some hcur3⟩
   have HB1 := hide b1
   clear HR hE hb hx hu hcl k0 k1 hfn b1 hcur
   generalize Wd.str x.word = sx at *
   go_wp2_with (go_at_call 40; refine (unhide HCL _ (by first | exact unhide HB1 | exact (unhide HB1).drew)).mono ?_; rintro e w3 ⟨u, rfl, o3, b3⟩; obtain ⟨x1, x2, x3⟩ := unhide HRW _ _ (by first | exact unhide HB1 | exact (unhide HB1).drew) b3; have HNX := hide (unhide HST _ _ _ (by first | exact unhide HB1 | exact (unhide HB1).drew) o3 b3); obtain ⟨au, cu2, rfl⟩ := own_slice o3; clear o3 b3)
   go_roundw
   case rel => exact ⟨j + 1, by go_num, by omega, unhide HNX _ rfl⟩
   case measure => simp [intOf]; omega
  ·obtain rfl : j = m := by omega
   have hltz : ¬ (j : Int) < (j : Int) := by omega
   go_wp2
   go_ret
   obtain ⟨hb, fv, hE⟩ := unhide HR
   exact ⟨hb, _, fv, rfl, by rw [unhide HM]; exact hE⟩
end Af
namespace Af
def wkT2 : Bs := [83, 70, 88, 32, 65, 32, 89, 32, 48, 10]
def wkD : Bs := [50, 10, 102, 108, 121, 47, 65, 10, 105, 110, 92, 47, 111, 117, 116, 10]
def wkF2 : Fil := ⟨1, [], [], [0, 0, 0, 0, 0], 3, [], [], [⟨65, 2, true, 0, 0⟩], []⟩
theorem wk_aff2 : affR wkT2 = .ok wkF2 := by kernel_rfl
theorem wk_dic : dicR wkF2 wkD = .ok [⟨[102, 108, 121], [65]⟩, ⟨[105, 110, 47, 111, 117, 116], []⟩] := by kernel_rfl
theorem ents_np {p : List Int → Prop} {F : Fil} (p0 : p []) (pf : ∀ s, p (flgS F s)) : ∀ {R : List (Nat × List Bs)} {n : Nat} {E E' : List Ent}, ents F n R E = .ok E' → (∀ x ∈ E, p x.flags) → ∀ x ∈ E', p x.flags
 | [], n, E, E', h, hE => by
  injection h with h
  subst h
  exact hE
 | (l, row) :: t, n, E, E', h, hE => by
  rw [ents] at h
  split at h
  ·cases h
  ·cases hx : entRow F row with
   | error c => rw [hx] at h; cases h
   | ok x =>
    rw [hx] at h
    refine ents_np p0 pf h fun y hy => ?_
    rcases List.mem_append.1 hy with q | q
    ·exact hE y q
    ·simp at q
     subst q
     unfold entRow at hx
     split at hx
     ·cases hx
     ·unfold entE at hx
      split at hx
      ·cases hx
      ·split at hx
       ·cases hx
       ·split at hx
        ·injection hx with hx; subst hx; exact p0
        ·split at hx
         ·cases hx
         ·injection hx with hx; subst hx; exact pf _
theorem dicR_np {p : List Int → Prop} {F : Fil} {s : Bs} {E : List Ent} (p0 : p []) (pf : ∀ s, p (flgS F s)) (h : dicR F s = .ok E) : ∀ x ∈ E, p x.flags := by
 by_cases hs : 65536 < s.length
 ·unfold dicR at h
  rw [if_pos hs] at h
  cases h
 ·cases hr : Rw.rowsOf s with
  | nil => rw [dicR_nil hs hr] at h; cases h
  | cons q t =>
   obtain ⟨l, row⟩ := q
   rw [dicR_cons hs hr] at h
   cases hc : cntX l row with
   | error e => rw [hc] at h; cases h
   | ok n =>
    rw [hc] at h
    simp only at h
    cases he : ents F n t [] with
    | error e => rw [he] at h; cases h
    | ok E2 =>
     rw [he] at h
     simp only at h
     split at h
     ·cases h
     ·injection h with h
      subst h
      exact ents_np p0 pf he (fun x hx => by cases hx)
theorem dicR_len {F : Fil} {s : Bs} {E : List Ent} (hS : Np Sd F) (h : dicR F s = .ok E) : ∀ x ∈ E, x.flags.length ≤ 1048577 := by
 intro x hx
 have := dicR_np (p := fun a => a.length ≤ 1048577) (by simp) (fun t => by
  have := flgS_np (p := Sd) (F := F) ⟨rfl, by simp⟩ (fun k s => ?_) hS t
  ·have := this.2; omega
  ·by_cases he : So.rE k s = 0
   ·refine ⟨(rS_set k s he).1, ?_⟩
    unfold So.rS
    rw [if_pos he]
    have hl := (So.setOf_set (So.vals k s)).len
    have : (So.vals k s).length ≤ 64 := by
     unfold So.rE So.readE at he
     repeat (split at he <;> first | omega | skip)
    omega
   ·unfold So.rS
    rw [if_neg he]
    exact ⟨rfl, by simp⟩) h
 exact this x hx
theorem dic_of {B : Nat} {w : World} {F : Fil} {P : Pts} {a : Bs} (ha : affR a = .ok F) (hF : FAt B w F P) (hM : Mx B w) (hB : B ≤ w.heap.size) (s : ByteArray) : Calls Tryz.prog 18 #[.pointer (some ⟨P.fb, 0, none⟩), .string s] w (DRes w (dicR F s.data.toList)) :=
 dicRead_any hF hM hB (affR_sets ha) (affR_small ha) (Nat.le_trans (affR_cls ha) (by decide)) s
open RowB FldW
def EnA (W : World) (v : Value) (E : List Ent) : Prop := ∃ ao cap, v = .slice ao E.length cap ∧ E.length ≤ cap ∧ cap ≤ maxLen ∧ ∀ (i : Nat) x, E[i]? = some x → ∃ g fl, ao = some ⟨g, 0, none⟩ ∧ g < W.heap.size ∧ W.cell? ⟨g, i * 2, none⟩ = some (.string (Wd.str x.word)) ∧ W.cell? ⟨g, i * 2 + 1, none⟩ = some fl ∧ So.FArg W fl x.flags
theorem EnA.below {W W' : World} {v : Value} {E : List Ent} (h : EnA W v E) (k : Below W.heap.size W W') : EnA W' v E := by
 obtain ⟨ao, cap, e, h1, h2, h3⟩ := h
 refine ⟨ao, cap, e, h1, h2, fun i x hx => ?_⟩
 obtain ⟨g, fl, e1, e2, e3, e4, e5⟩ := h3 i x hx
 exact ⟨g, fl, e1, Nat.lt_of_lt_of_le e2 k.size, (k.cell (p := ⟨g, i * 2, none⟩) e2).trans e3, (k.cell (p := ⟨g, i * 2 + 1, none⟩) e2).trans e4, e5.below k⟩
theorem EntR.ena {n : Nat} {W : World} {E : List Ent} {v : Value} {fv : List Value} (h : EntR n W E v fv E.length) : EnA W v E := by
 obtain ⟨ao, cap, rfl, h1, h2⟩ := own_len h.1
 refine ⟨ao, cap, rfl, h1, h2, fun i x hx => ?_⟩
 have hi := (List.getElem?_eq_some_iff.1 hx).1
 obtain ⟨u, hu⟩ : ∃ u, fv[i]? = some u := ⟨_, List.getElem?_eq_getElem (by rw [h.2.1]; exact hi)⟩
 obtain ⟨g, cap2, e, -, hg, -, -, -, hcl⟩ := own_at h.1 (by omega)
 injection e with e1 e2 e3
 subst e1
 obtain ⟨k0, k1⟩ := flatE_get h.2.1 hx hu
 have hf := h.2.2 i u x hu hx
 exact ⟨g, u, rfl, hg, (hcl (i * 2) (by omega)).trans k0, (hcl (i * 2 + 1) (by omega)).trans k1, FNx.arg hf⟩
theorem entryIs_any {w : World} {s : ByteArray} {v u : Value} {L : List Int} (h1 : So.FArg w v L) (h2 : So.FArg w u L) :
  Calls Tryz.prog 21 #[.agg #[.string s, v], .agg #[.string s, u]] w fun e w' => e = .returned (.bool true) ∧ Below w.heap.size w w' := by
 have HF := hide (And.intro h1 h2)
 obtain ⟨ao, cap, rfl, hcp, hm, -, -⟩ := h1
 obtain ⟨ao2, cap2, rfl, -, hm2, -, -⟩ := h2
 unfold maxLen at hm hm2
 generalize hnn : L.length = n at *
 have HN := hide hnn
 clear hnn
 go_enter Tryz.func21, Tryz.ntmps21
 go_wp2
 have b1 : Below w.heap.size w ((w.alloc (.cells #[.string s, .slice ao n cap] 56)).alloc (.cells #[.string s, .slice ao2 n cap2] 56)) := ((Below.refl _ _).alloc (Nat.le_refl _) _).alloc (by simp) _
 have HA := hide (And.intro ((unhide HF).1.below b1) ((unhide HF).2.below b1))
 have m1 := alloc_heap1 (alloc_new w (.cells #[.string s, .slice ao n cap] 56)) (.cells #[.string s, .slice ao2 n cap2] 56)
 have m2 := alloc_new (w.alloc (.cells #[.string s, .slice ao n cap] 56)) (.cells #[.string s, .slice ao2 n cap2] 56)
 rw [World.size_alloc] at m2
 have HB1 := hide b1
 refine gen_world ?_
 intro V hV
 rw [← hV] at m1 m2 HA HB1
 have k1 : V.cell? ⟨w.heap.size, 1, none⟩ = some (.slice ao n cap) := by simp [World.cell?, m1]
 have k2 : V.cell? ⟨w.heap.size + 1, 1, none⟩ = some (.slice ao2 n cap2) := by simp [World.cell?, m2]
 clear hV m1 m2 b1 HF
 go_loopw [23] (fun s23 wr => ∃ k q : Nat, k ≤ n ∧ s23 = .int .i64 k ∧ wr = V.drewN q) (fun s23 _ => n - (intOf s23).toNat)
 case atStart => exact ⟨0, 0, Nat.zero_le _, rfl, rfl⟩
 case round =>
  obtain ⟨k, q, hk, rfl, rfl⟩ := hrel
  by_cases hlt : k < n
  ·have hltz : (k : Int) < (n : Int) := by omega
   obtain ⟨x, hx⟩ : ∃ x, L[k]? = some x := ⟨_, List.getElem?_eq_getElem (by rw [unhide HN]; exact hlt)⟩
   obtain ⟨⟨ao', cap', e1, -, -, -, hc1⟩, ⟨ao2', cap2', e2, -, -, -, hc2⟩⟩ := unhide HA
   injection e1 with e1
   injection e2 with e2
   subst e1
   subst e2
   obtain ⟨g, off, rfl, hg, hcc⟩ := hc1 (by rw [unhide HN]; omega)
   obtain ⟨g2, off2, rfl, hg2, hcc2⟩ := hc2 (by rw [unhide HN]; omega)
   have c1 := hcc k x hx
   have c2 := hcc2 k x hx
   unfold So.encF at c1 c2
   clear hc1 hc2 hcc hcc2 hx
   go_wp2
   go_quiet (fail)
   go_wp2
   go_roundw
   case rel => exact ⟨k + 1, _, by omega, by go_num, rfl⟩
   case measure => simp [intOf]; omega
  ·have hltz : ¬ (k : Int) < (n : Int) := by omega
   go_wp2
   go_ret
   exact ⟨rfl, (unhide HB1).trans ((So.drew_below _ _ _).mono (unhide HB1).size)⟩
end Af
namespace Af
open RowB
theorem wk_ents {n : Nat} {W : World} {v : Value} {fv : List Value} (h : EntR n W [⟨[102, 108, 121], [65]⟩, ⟨[105, 110, 47, 111, 117, 116], []⟩] v fv 2) : ∃ g cap g1 c1, v = .slice (some ⟨g, 0, none⟩) 2 cap ∧ g < W.heap.size ∧ W.cell? ⟨g, 0, none⟩ = some (.string ⟨#[102, 108, 121]⟩) ∧ W.cell? ⟨g, 1, none⟩ = some (.slice (some ⟨g1, 0, none⟩) 1 c1) ∧ W.cell? ⟨g, 2, none⟩ = some (.string ⟨#[105, 110, 47, 111, 117, 116]⟩) ∧ W.cell? ⟨g1, 0, none⟩ = some (.int .u16 65) ∧ g1 < W.heap.size := by
 obtain ⟨h1, h2, h3⟩ := h
 obtain ⟨g, cap, rfl, -, hg, -, -, -, hcl⟩ := own_at h1 (by decide)
 match fv, h2 with
 | [u0, u1], _ =>
  have f0 := h3 0 u0 _ rfl rfl
  rcases f0 with ⟨-, q⟩ | f0
  ·cases q
  ·obtain ⟨g1, c1, e1, -, hg1, -, -, hc⟩ := So.FRow.cells f0
   subst e1
   refine ⟨g, cap, g1, c1, rfl, hg, hcl 0 (by decide), hcl 1 (by decide), hcl 2 (by decide), ?_, hg1⟩
   have := hc 0 (by simp)
   simp [So.encF] at this
   exact this.1
theorem wakes12_any (w : World) (hM : Mx w.heap.size w) : Calls Tryz.prog 15 #[] w fun e w' => e = .returned (.bool true) ∧ Below w.heap.size w w' := by
 have HR : Hid (Calls Tryz.prog 12 #[.string ⟨#[83, 70, 88, 32, 65, 32, 89, 32, 48, 10]⟩] w fun e w' => Below w.heap.size w w' ∧ ∃ f, e = .returned (.tuple #[.pointer (some ⟨f, 0, none⟩), .agg #[.int .i64 0, .int .i64 0, .int .i64 0]]) ∧ Hid (∀ W, Below w'.heap.size w' W → Calls Tryz.prog 18 #[.pointer (some ⟨f, 0, none⟩), .string ⟨#[50, 10, 102, 108, 121, 47, 65, 10, 105, 110, 92, 47, 111, 117, 116, 10]⟩] W fun e W' => Below W.heap.size W W' ∧ ∃ wb, e = .returned (.tuple #[.pointer (some ⟨wb, 0, none⟩), .agg #[.int .i64 0, .int .i64 0, .int .i64 0]]) ∧ Hid (∀ V, Below W'.heap.size W' V → Calls Tryz.prog 24 #[.pointer (some ⟨wb, 0, none⟩)] V (fun e V' => e = .returned (.int .i64 2) ∧ V' = V) ∧ Calls Tryz.prog 20 #[.pointer (some ⟨wb, 0, none⟩)] V fun e V' => Below V.heap.size V V' ∧ ∃ g cap g1 c1, e = .returned (.slice (some ⟨g, 0, none⟩) 2 cap) ∧ g < V'.heap.size ∧ V'.cell? ⟨g, 0, none⟩ = some (.string ⟨#[102, 108, 121]⟩) ∧ V'.cell? ⟨g, 1, none⟩ = some (.slice (some ⟨g1, 0, none⟩) 1 c1) ∧ V'.cell? ⟨g, 2, none⟩ = some (.string ⟨#[105, 110, 47, 111, 117, 116]⟩) ∧ V'.cell? ⟨g1, 0, none⟩ = some (.int .u16 65) ∧ g1 < V'.heap.size))) := by
  refine (Read_any _ w hM).mono ?_
  rintro e w' ⟨b, h⟩
  have hk : affR (⟨#[83, 70, 88, 32, 65, 32, 89, 32, 48, 10]⟩ : ByteArray).data.toList = .ok wkF2 := wk_aff2
  rw [hk] at h
  obtain ⟨B, P, hB, rfl, hF⟩ := h
  refine ⟨b, _, rfl, fun W bW => ?_⟩
  have hFB : B ≤ w'.heap.size := Nat.le_of_lt (Nat.lt_of_le_of_lt hF.fbB (lt_some hF.fil))
  have hMB : Mx B W := by
   obtain ⟨m1, m2⟩ := (hM.low b).low (bW.mono b.size)
   exact ⟨Nat.lt_of_lt_of_le m1 hB, m2⟩
  have hd := dic_of wk_aff2 (hF.below bW) hMB (Nat.le_trans hFB bW.size) ⟨#[50, 10, 102, 108, 121, 47, 65, 10, 105, 110, 92, 47, 111, 117, 116, 10]⟩
  have hk2 : dicR wkF2 (⟨#[50, 10, 102, 108, 121, 47, 65, 10, 105, 110, 92, 47, 111, 117, 116, 10]⟩ : ByteArray).data.toList = .ok [⟨[102, 108, 121], [65]⟩, ⟨[105, 110, 47, 111, 117, 116], []⟩] := wk_dic
  rw [hk2] at hd
  refine hd.mono ?_
  rintro e W' ⟨b2, n0, wb, Q, -, rfl, hW⟩
  refine ⟨b2, wb, rfl, fun V bV => ⟨len_any (hW.below bV), (entries_any (hW.below bV) (dicR_len (affR_sets wk_aff2) wk_dic)).mono ?_⟩⟩
  rintro e V' ⟨b3, v, fv, rfl, hE⟩
  obtain ⟨g, cap, g1, c1, rfl, k1, k2, k3, k4, k5, k6⟩ := wk_ents hE
  exact ⟨b3, g, cap, g1, c1, rfl, k1, k2, k3, k4, k5, k6⟩
 clear hM
 go_enter Tryz.func15, Tryz.ntmps15
 go_wp2_with (first
  | (go_at_call 12; refine (unhide HR).mono ?_; rintro e w1 ⟨b1, f, rfl, HA⟩; have HB1 := hide b1; clear b1)
  | (go_at_call 18; refine (unhide HA _ (by (repeat (first | exact Below.refl _ _ | refine Below.drew ?_ | refine Below.alloc ?_ (by first | (simp; done) | (simp; omega)) _ | refine Below.setCell ?_ (by first | (simp; done) | (simp; omega)) _)))).mono ?_; rintro e w2 ⟨b2, wb, rfl, HD⟩; have HB2 := hide ((unhide HB1).trans ((((Below.refl _ _).alloc (Nat.le_refl _) _).trans (b2.mono (by simp))).mono (unhide HB1).size)); clear b2)
  | (go_at_call 24; refine (unhide HD _ (by (repeat (first | exact Below.refl _ _ | refine Below.drew ?_ | refine Below.alloc ?_ (by first | (simp; done) | (simp; omega)) _ | refine Below.setCell ?_ (by first | (simp; done) | (simp; omega)) _)))).1.mono ?_; rintro e w3 ⟨rfl, hw3⟩; obtain rfl := hw3.symm)
  | (go_at_call 20; refine (unhide HD _ (by (repeat (first | exact Below.refl _ _ | refine Below.drew ?_ | refine Below.alloc ?_ (by first | (simp; done) | (simp; omega)) _ | refine Below.setCell ?_ (by first | (simp; done) | (simp; omega)) _)))).2.mono ?_; rintro e w4 ⟨b4, g, cap, g1, c1, rfl, k1, k2, k3, k4, k5, k6⟩; have HB4 := hide ((unhide HB2).trans ((((Below.refl _ _).alloc (Nat.le_refl _) _).trans (b4.mono (by simp))).mono (unhide HB2).size)); clear b4))
 go_ret
 exact ⟨rfl, unhide HB4⟩
end Af
end Go.Proofs.YtidhbhdcoanfcaaGreatDoor
