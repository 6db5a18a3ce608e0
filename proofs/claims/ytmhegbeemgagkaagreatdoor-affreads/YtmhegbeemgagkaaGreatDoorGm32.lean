import Derived.Test.YtmhegbeemgagkaaGreatDoorJc4
set_option maxHeartbeats 8000000
set_option maxRecDepth 100000
namespace Go.Proofs.YtmhegbeemgagkaaGreatDoor
open Go.RowKit
namespace Af
open RowB
def stepX (inn : Rdr → List Bs → Except Er Rdr) (beg : List Bs) (R : Rdr) : Except Er Rdr := match Af.grow R beg with
 | .error e => .error e
 | .ok (row, R1) => inn R1 row
def begOf (hd : List Bs) : List Bs := if hd.length = 4 then [fld hd 0, fld hd 1] else [fld hd 0]
theorem step_g {inn : Rdr → List Bs → Except Er Rdr} {beg : List Bs} {R : Rdr} {e : Er} (h : Af.grow R beg = .error e) : stepX inn beg R = .error e := by unfold stepX; rw [h]
theorem step_k {inn : Rdr → List Bs → Except Er Rdr} {beg row : List Bs} {R R1 : Rdr} (h : Af.grow R beg = .ok (row, R1)) : stepX inn beg R = inn R1 row := by unfold stepX; rw [h]
structure GrpIn (B rb n : Nat) (v : Value) (A : List (Nat × List Bs)) (hd : List Bs) (inn : Rdr → List Bs → Except Er Rdr) (Q : Rdr → Nat → Prop) : Prop where
 keep : ∀ (R R1 R' : Rdr) (row : List Bs) (j : Nat), Q R j → Af.grow R (begOf hd) = .ok (row, R1) → inn R1 row = .ok R' → Q R' (j + 1)
 call : ∀ (j : Nat), j < n → ∀ (R R1 : Rdr) (row : List Bs), Q R j → Af.grow R (begOf hd) = .ok (row, R1) → ∀ (W : World) (P : DPts) (rv : Value), DAt B W rb R1 P v A → RowIn B W rv row → (∀ f ∈ row, f.length ≤ 65536 ∧ f ≠ []) → row ≠ [] → fld row 0 = fld hd 0 → Calls Tryz.prog 97 #[ptr rb, rv] W (DRes B rb v A W (inn R1 row))
def GS (B rb : Nat) (w W : World) (v : Value) (A : List (Nat × List Bs)) (R : Rdr) (hd : List Bs) (inn : Rdr → List Bs → Except Er Rdr) (Q : Rdr → Nat → Prop) (j : Nat) : Prop :=
 ∃ Rj Pj, DAt B W rb Rj Pj v A ∧ Below B w W ∧ times (stepX inn (begOf hd)) j R = .ok Rj ∧ Q Rj j
theorem beg_take {row hd : List Bs} (hlen : hd.length = 2 ∨ hd.length = 4) (hr : row ≠ []) : row.take (begOf hd).length = begOf hd ↔ (fld row 0 = fld hd 0 ∧ (hd.length = 4 → 2 ≤ row.length ∧ fld row 1 = fld hd 1)) := by
 unfold begOf
 rcases row with _ | ⟨x, _ | ⟨y, t⟩⟩
 ·exact absurd rfl hr
 ·rcases hlen with h | h
  ·simp [h, fld]
  ·simp [h, fld]
 ·rcases hlen with h | h
  ·simp [h, fld]
  ·simp [h, fld]
theorem group_doc {B rb n : Nat} {w : World} {R : Rdr} {P : DPts} {v : Value} {A : List (Nat × List Bs)} {inn : Rdr → List Bs → Except Er Rdr} {Q : Rdr → Nat → Prop} (h : DAt B w rb R P v A) (hd : List Bs) (hv : Value) (hrow : RowIn B w hv hd) (hlen : hd.length = 2 ∨ hd.length = 4) (hn : n ≤ 1024) (hI : GrpIn B rb n v A hd inn Q) (hQ : Q R 0) :
  Calls Tryz.prog 65 #[ptr rb, hv, .int .i64 (n : Nat)] w (DRes B rb v A w (times (stepX inn (begOf hd)) n R)) := by
 obtain ⟨gh, ch, rfl, hgh, hghn, hhc⟩ := hrow.get
 have HHC : Hid (∀ W, Below B w W → ∀ i, i < hd.length → W.cell? ⟨gh, i, none⟩ = some (.string (Fld.str (fld hd i)))) := fun W b i hi => (b.cell (p := ⟨gh, i, none⟩) hgh).trans (hhc i hi)
 have HST : Hid (GS B rb w w v A R hd inn Q 0) := ⟨R, P, h, Below.refl _ _, rfl, hQ⟩
 have HI := hide hI
 have HLEN := hide hlen
 have HBT := hide (fun row hr => beg_take (row := row) hlen hr)
 have hgr : gh ≠ rb := by have := h.rbB; omega
 have hgr2 : rb ≠ gh := fun e => hgr e.symm
 have hrbB := h.rbB
 clear hrow hhc h hI hQ
 obtain ⟨m, hm⟩ : ∃ m, hd.length = m := ⟨_, rfl⟩
 rw [hm] at hlen hghn HHC ⊢
 have HM := hide hm
 clear hm
 go_enter Tryz.func65, Tryz.ntmps65
 go_wp2
 go_loopw [7, 8, 9] (fun s7 _ _ wr => ∃ j : Nat, s7 = .int .i64 j ∧ j ≤ n ∧ Hid (GS B rb w wr v A R hd inn Q j)) (fun s7 _ _ _ => n - (intOf s7).toNat)
 case atStart => exact ⟨0, rfl, Nat.zero_le _, HST⟩
 case round =>
  obtain ⟨j, rfl, hj, HR⟩ := hrel
  by_cases hjn : j < n
  ·have hji : (j : Int) < (n : Int) := by omega
   obtain ⟨Rj, Pj, hA, hB, ht, hq⟩ := unhide HR
   have HA := hide hA
   have HB := hide hB
   have HT := hide ht
   have HQ := hide hq
   have hrb := hA.lt
   obtain ⟨d0, d1, d2, d3, d4, d5, df⟩ := hA.cells
   clear HR hB ht hq HST
   rcases hR : Rj.rows with _ | ⟨⟨l, row⟩, t⟩
   ·obtain ⟨ep, ao, cap, ev, hA6⟩ := hA.last hR
    rw [ev] at d1
    rw [ep] at d2
    have HX := hide (times_err (unhide HT) (step_g (inn := inn) (grow_none (beg := begOf hd) hR)) hjn)
    have HLN := hide (fun q => (hA.below (So.drew_low wr q)).line Rj.behind hA.few.2.1)
    have HBQ := hide (fun q => (So.drew_low wr q).mono hA.base)
    have hge : (A.length : Int) ≤ (A.length : Int) := by omega
    clear hA hR d0 d4
    go_wp2_with fail
    go_quiet (fail)
    go_wp2_with fail
    go_ret
    exact DRes.no (unhide HX) (((unhide HB).trans (unhide HBQ nq)).trans (unhide HLN nq).2) (by decide) rfl (by simpa using (unhide HLN nq).1.cells.2.2.2.2.2.1)
   ·obtain ⟨gr, cap, fv, ev, hAl, hpl, hgrB, r0, r1, hrI, hrn, hrf⟩ := hA.row hR
    rw [ev] at d1
    rw [Nat.mul_comm] at r0 r1
    have HRI := hide hrI
    obtain ⟨gf, cf, rfl, hgf, hfn, hfc⟩ := hrI.get
    have hpi : (Pj.pos : Int) < (A.length : Int) := by omega
    have hpg : decide (A.length ≤ Pj.pos) = false := by rw [decide_eq_false_iff_not]; omega
    have hp0 : ¬ (Pj.pos : Int) < 0 := by omega
    have hpm : (Pj.pos : Int) + 1 ≤ 9223372036854775807 := by omega
    have n1 : rb ≠ gr := by omega
    have n2 : gr ≠ rb := by omega
    have n3 : rb ≠ gf := by omega
    have n4 : gf ≠ rb := by omega
    have HNX : Hid (∀ q, DAt B (((wr.drewN q).setCell ⟨rb, 5, none⟩ (.int .i64 (l : Nat))).setCell ⟨rb, 2, none⟩ (.int .i64 ((Pj.pos : Int) + 1))) rb { Rj with rows := t, line := l } { Pj with pos := Pj.pos + 1 } v A ∧ Below B wr (((wr.drewN q).setCell ⟨rb, 5, none⟩ (.int .i64 (l : Nat))).setCell ⟨rb, 2, none⟩ (.int .i64 ((Pj.pos : Int) + 1)))) := fun q => by
     have := (hA.below (So.drew_low wr q)).next hR
     rw [show ((Pj.pos + 1 : Nat) : Int) = (Pj.pos : Int) + 1 by omega] at this
     exact ⟨this.1, ((So.drew_low wr q).mono hA.base).trans this.2⟩
    have HGO := hide (fun (e : row.take (begOf hd).length = begOf hd) => grow_ok (R := Rj) hR e)
    have HGN := hide (fun (e : ¬ row.take (begOf hd).length = begOf hd) => times_err (unhide HT) (step_g (inn := inn) (grow_no (R := Rj) hR e)) hjn)
    have HRF := hide hrf
    have HRN := hide hrn
    have hrlen : 0 < row.length := List.length_pos_iff.2 hrn
    clear hA ev hrI hrf hrn hfc
    go_wp2_with fail
    go_quiet (fail)
    generalize nq = q1
    go_wp2_with fail
    go_quiet (fail)
    generalize nq = q2
    go_wp2_with fail
    go_region
    go_wp2_with fail
    have HA1 := hide (unhide HNX (q1 + q2 + 1)).1
    have HB1 := hide ((unhide HB).trans (unhide HNX (q1 + q2 + 1)).2)
    have HRI1 := hide ((unhide HRI).below (unhide HNX (q1 + q2 + 1)).2)
    generalize ((wr.drewN (q1 + q2 + 1)).setCell ⟨rb, 5, none⟩ (.int .i64 (l : Nat))).setCell ⟨rb, 2, none⟩ (.int .i64 ((Pj.pos : Int) + 1)) = W1 at *
    clear HNX r0 r1 d0 d1 d2 d3 d4 d5 df
    have hfc := (unhide HRI1).has
    have f0 := hfc 0 hrlen
    have h0 := unhide HHC W1 (unhide HB1) 0 (by omega)
    have HBQ1 := hide (fun q => (So.drew_low W1 q))
    have HFC := hide hfc
    clear hfc
    by_cases hk : fld row 0 = fld hd 0
    ·rw [hk] at f0
     go_quiet (fail)
     generalize nq = q3
     go_wp2_with fail
     rcases hlen with rfl | rfl
     ·have HGK := hide (unhide HGO ((unhide HBT row (unhide HRN)).2 ⟨hk, fun q => by rw [unhide HM] at q; omega⟩))
      clear HGO HGN
      go_quiet (fail)
      go_wp2_with fail
      have HC := hide ((unhide HI).call j hjn Rj _ row (unhide HQ) (unhide HGK))
      generalize nq = q4
      refine (unhide HC (W1.drewN (q3 + q4)) _ _ ((unhide HA1).below (So.drew_low W1 _)) ((unhide HRI1).below ((So.drew_low W1 _).mono (unhide HA1).base)) (unhide HRF) (unhide HRN) hk).mono ?_
      rintro e w5 ⟨b5, hres⟩
      have HB5 := hide (((unhide HB1).trans ((So.drew_low W1 (q3 + q4)).mono (unhide HA1).base)).trans b5)
      cases hin : inn { Rj with rows := t, line := l } row with
      | error er =>
       obtain ⟨l', c⟩ := er
       rw [hin] at hres
       obtain ⟨rfl, hc0, hln⟩ := hres
       have HLN := hide hln
       have HC0 := hide hc0
       have hcz : ((c : Int) == 0) = false := by rw [beq_eq_false_iff_ne]; simp at hc0; omega
       have hcz2 : ((c : Int) != 0) = true := by rw [bne, hcz]; rfl
       have HX := hide (times_err (unhide HT) ((step_k (unhide HGK)).trans hin) hjn)
       clear hin hln hc0 b5
       go_wp2_with fail
       go_ret
       exact DRes.no (unhide HX) (unhide HB5) (unhide HC0) rfl (unhide HLN)
      | ok R' =>
       rw [hin] at hres
       obtain ⟨rfl, P', hA'⟩ := hres
       have HS2 : Hid (GS B rb w w5 v A R hd inn Q (j + 1)) := ⟨R', P', hA', unhide HB5, times_ok (unhide HT) ((step_k (unhide HGK)).trans hin), (unhide HI).keep Rj _ R' row j (unhide HQ) (unhide HGK) hin⟩
       clear hin hA' b5
       go_wp2_with fail
       go_roundw
       case rel => exact ⟨j + 1, by go_num, by omega, HS2⟩
       case measure => simp [intOf]; omega
     ·by_cases hl2 : row.length < 2
      ·have HX := hide (unhide HGN (fun e => by have := ((unhide HBT row (unhide HRN)).1 e).2 (unhide HM); omega))
       have hli : (row.length : Int) < 2 := by omega
       clear HGO HGN
       go_quiet (fail)
       go_wp2_with fail
       go_ret
       exact DRes.no (unhide HX) ((unhide HB1).trans ((btr (So.drew_low W1 q3) (So.drew_low (W1.drewN q3) nq)).mono (unhide HA1).base)) (by decide) rfl ((unhide HA1).below (btr (So.drew_low W1 q3) (So.drew_low (W1.drewN q3) nq))).lineAt
      ·have hli : ¬ (row.length : Int) < 2 := by omega
       have hld : decide (row.length < 2) = false := by rw [decide_eq_false_iff_not]; exact hl2
       have f1 := unhide HFC 1 (by omega)
       have h1 := unhide HHC W1 (unhide HB1) 1 (by omega)
       have hl1 : (1 : Int) < (row.length : Int) := by omega
       by_cases hk1 : fld row 1 = fld hd 1
       ·have HGK := hide (unhide HGO ((unhide HBT row (unhide HRN)).2 ⟨hk, fun _ => ⟨by omega, hk1⟩⟩))
        rw [hk1] at f1
        clear HGO HGN
        go_quiet (fail)
        go_wp2_with fail
        have HC := hide ((unhide HI).call j hjn Rj _ row (unhide HQ) (unhide HGK))
        generalize nq = q4
        refine (unhide HC (W1.drewN (q3 + q4)) _ _ ((unhide HA1).below (So.drew_low W1 _)) ((unhide HRI1).below ((So.drew_low W1 _).mono (unhide HA1).base)) (unhide HRF) (unhide HRN) hk).mono ?_
        rintro e w5 ⟨b5, hres⟩
        have HB5 := hide (((unhide HB1).trans ((So.drew_low W1 (q3 + q4)).mono (unhide HA1).base)).trans b5)
        cases hin : inn { Rj with rows := t, line := l } row with
        | error er =>
         obtain ⟨l', c⟩ := er
         rw [hin] at hres
         obtain ⟨rfl, hc0, hln⟩ := hres
         have HLN := hide hln
         have HC0 := hide hc0
         have hcz : ((c : Int) == 0) = false := by rw [beq_eq_false_iff_ne]; simp at hc0; omega
         have hcz2 : ((c : Int) != 0) = true := by rw [bne, hcz]; rfl
         have HX := hide (times_err (unhide HT) ((step_k (unhide HGK)).trans hin) hjn)
         clear hin hln hc0 b5
         go_wp2_with fail
         go_ret
         exact DRes.no (unhide HX) (unhide HB5) (unhide HC0) rfl (unhide HLN)
        | ok R' =>
         rw [hin] at hres
         obtain ⟨rfl, P', hA'⟩ := hres
         have HS2 : Hid (GS B rb w w5 v A R hd inn Q (j + 1)) := ⟨R', P', hA', unhide HB5, times_ok (unhide HT) ((step_k (unhide HGK)).trans hin), (unhide HI).keep Rj _ R' row j (unhide HQ) (unhide HGK) hin⟩
         clear hin hA' b5
         go_wp2_with fail
         go_roundw
         case rel => exact ⟨j + 1, by go_num, by omega, HS2⟩
         case measure => simp [intOf]; omega
       ·have HX := hide (unhide HGN (fun e => hk1 (((unhide HBT row (unhide HRN)).1 e).2 (unhide HM)).2))
        have hz1 : ((Fld.str (fld row 1)).toList == (Fld.str (fld hd 1)).toList) = false := by rw [Lib.toList_data, Lib.toList_data, str_toList, str_toList, beq_eq_false_iff_ne]; exact hk1
        have hz2 : ((Fld.str (fld row 1)).toList != (Fld.str (fld hd 1)).toList) = true := by rw [bne, hz1]; rfl
        clear HGO HGN
        go_quiet (fail)
        go_wp2_with fail
        go_ret
        exact DRes.no (unhide HX) ((unhide HB1).trans ((So.drew_low W1 (q3 + nq)).mono (unhide HA1).base)) (by decide) rfl ((unhide HA1).below (So.drew_low W1 (q3 + nq))).lineAt
    ·have hz1 : ((Fld.str (fld row 0)).toList == (Fld.str (fld hd 0)).toList) = false := by rw [Lib.toList_data, Lib.toList_data, str_toList, str_toList, beq_eq_false_iff_ne]; exact hk
     have hz2 : ((Fld.str (fld row 0)).toList != (Fld.str (fld hd 0)).toList) = true := by rw [bne, hz1]; rfl
     have HX := hide (unhide HGN (fun e => hk ((unhide HBT row (unhide HRN)).1 e).1))
     go_quiet (fail)
     go_wp2_with fail
     go_ret
     exact DRes.no (unhide HX) ((unhide HB1).trans ((So.drew_low W1 nq).mono (unhide HA1).base)) (by decide) rfl ((unhide HA1).below (So.drew_low W1 nq)).lineAt
  ·obtain rfl : j = n := by omega
   have hji : ¬ (j : Int) < (j : Int) := by omega
   obtain ⟨Rj, Pj, hA, hB, ht, hq⟩ := unhide HR
   have HA := hide hA
   have HB := hide hB
   have HT := hide ht
   clear HR hA hB ht hq HST
   go_wp2_with fail
   go_ret
   exact DRes.yes (unhide HT) (unhide HB) (unhide HA)
theorem DRes.fin {B rb : Nat} {v : Value} {A : List (Nat × List Bs)} {W w' : World} {X : Except Er Rdr} {e : Ending} (h : DRes B rb v A W X e w') : ∃ c : Int, e = .returned (.int .i64 c) ∧ ∀ w0, Below B w0 W → DRes B rb v A w0 X (.returned (.int .i64 c)) w' := by
 obtain ⟨b, h⟩ := h
 cases X with
 | ok R' =>
  obtain ⟨rfl, P', hA⟩ := h
  exact ⟨0, rfl, fun w0 b0 => DRes.yes rfl (b0.trans b) hA⟩
 | error er =>
  obtain ⟨l, c⟩ := er
  obtain ⟨rfl, h0, hl⟩ := h
  exact ⟨_, rfl, fun w0 b0 => DRes.no rfl (b0.trans b) h0 rfl hl⟩
theorem rulStep_step (beg : List Bs) (c : Cls) (R : Rdr) : rulStep beg c R = stepX (rulX c) beg R := by
 unfold rulStep stepX rulX
 cases Af.grow R beg with
 | error e => rfl
 | ok p => rfl
def QC (R : Rdr) (c : Cls) (R' : Rdr) (j : Nat) : Prop := R'.file.rules.length = R.file.rules.length + j ∧ R'.file.classes = R.file.classes ++ [c]
theorem grp_cls {B rb n : Nat} {v : Value} {A : List (Nat × List Bs)} {hd : List Bs} {R : Rdr} {c : Cls} (hk : fld hd 0 = [80, 70, 88] ∨ fld hd 0 = [83, 70, 88]) (hn : R.file.rules.length + n ≤ 1024) : GrpIn B rb n v A hd (rulX c) (QC R c) := by
 refine ⟨fun R0 R1 R' row j hq hg hx => ?_, fun j hj R0 R1 row hq hg W P rv hA hrI hfew hne h0 => ?_⟩
 ·obtain ⟨l, t, -, -, -, e, -, -⟩ := grow_rows hg
  unfold rulX at hx
  split at hx
  ·cases hx
  ·injection hx with hx
   subst hx
   refine ⟨?_, ?_⟩
   ·show (R1.file.rules ++ [_]).length = _
    rw [e, List.length_append, hq.1, List.length_singleton]
    omega
   ·show R1.file.classes = _
    rw [e]
    exact hq.2
 ·obtain ⟨l, t, -, -, -, e, -, -⟩ := grow_rows hg
  have h1 : R1.file.classes = R.file.classes ++ [c] := by rw [e]; exact hq.2
  refine inner_rul (i := R.file.classes.length) hA row rv hrI hfew hne ?_ ?_ ?_ ?_ ?_
  ·rw [h0]; rcases hk with q | q <;> rw [q] <;> decide
  ·rw [h0]; rcases hk with q | q <;> rw [q] <;> decide
  ·rw [h1]; simp
  ·rw [h1]; simp
  ·rw [e, hq.1]; omega
theorem fr_bound {R : Rdr} {s : Bs} (h : (frN R.file s).2 = 0) : newFlag R s = .ok (frN R.file s).1 ∧ 1 ≤ (frN R.file s).1 ∧ (frN R.file s).1 ≤ 65535 := by
 have e := fr_eq R s
 rw [if_pos h] at e
 have p := newFlag_pos e
 exact ⟨e, p.1, p.2.1⟩
theorem cls_grown {B rb cb : Nat} {w W5 : World} {R : Rdr} {P : DPts} {v : Value} {A : List (Nat × List Bs)} {c : Cls} (h : DAt B w rb R P v A) (hc : 1 ≤ c.flag ∧ c.flag ≤ 65535) (b5 : Below w.heap.size w W5) (hcb : w.heap.size ≤ cb) (hblk : W5.heap[cb]? = some (.cells (dclsC c).toArray 52 (0, 0))) (hcn : R.file.classes.length ≤ 65536) :
  ∃ av cv a6 c6 w6, Hid (W5.cell? ⟨rb, 0, none⟩ = some (.pointer (some ⟨P.fb, 0, none⟩)) ∧ W5.cell? ⟨P.fb, 11, none⟩ = some (.slice av R.file.classes.length cv) ∧ CCells W5 cb c) ∧ Hid ((W5.alloc (.cells #[.int .i64 c.flag, .int .i64 c.kind, .bool c.cross, .int .i64 (c.first : Nat), .int .i64 (c.count : Nat)] 52)).drew.cell? ⟨rb, 0, none⟩ = some (.pointer (some ⟨P.fb, 0, none⟩)) ∧ (W5.alloc (.cells #[.int .i64 c.flag, .int .i64 c.kind, .bool c.cross, .int .i64 (c.first : Nat), .int .i64 (c.count : Nat)] 52)).drew.cell? ⟨P.fb, 11, none⟩ = some (.slice av R.file.classes.length cv) ∧ CCells (W5.alloc (.cells #[.int .i64 c.flag, .int .i64 c.kind, .bool c.cross, .int .i64 (c.first : Nat), .int .i64 (c.count : Nat)] 52)).drew cb c) ∧ Hid (w6.cell? ⟨rb, 0, none⟩ = some (.pointer (some ⟨P.fb, 0, none⟩)) ∧ w6.cell? ⟨P.fb, 11, none⟩ = some (.slice av R.file.classes.length cv) ∧ CCells w6 cb c) ∧ Hid (w6.frozen? ⟨P.fb, 11, none⟩ = false ∧ P.fb < w6.heap.size) ∧ Hid ((Builtin.append_ #[94, 94] 94 #[.slice av R.file.classes.length cv, .slice (some ⟨W5.heap.size, 0, none⟩) 1 1]).run Tryz.prog (W5.alloc (.cells #[.int .i64 c.flag, .int .i64 c.kind, .bool c.cross, .int .i64 (c.first : Nat), .int .i64 (c.count : Nat)] 52)).drew = .ok (.slice a6 (R.file.classes.length + 1) c6) w6) ∧ Hid (DAt B (w6.setCell ⟨P.fb, 11, none⟩ (.slice a6 (R.file.classes.length + 1) c6)) rb { R with file := { R.file with classes := R.file.classes ++ [c] } } { P with vc := .slice a6 (R.file.classes.length + 1) c6 } v A ∧ Below B w (w6.setCell ⟨P.fb, 11, none⟩ (.slice a6 (R.file.classes.length + 1) c6))) := by
 have h5 := h.below b5
 have k115 := h5.file.cells.2.2.2.2.2.2.1
 obtain ⟨av, cv, ev, -, -⟩ := own_len h5.file.clss
 have hcb5 : cb < W5.heap.size := lt_some hblk
 have hne : P.vc.ownBlock ≠ some cb := fun q => by
  have := (h.file.clss.lt _ q).2
  omega
 obtain ⟨a6, c6, w6, hap, o6, k6, l6, b6⟩ := push1 (B := B) (w := W5) (X := (W5.alloc (.cells #[.int .i64 c.flag, .int .i64 c.kind, .bool c.cross, .int .i64 (c.first : Nat), .int .i64 (c.count : Nat)] 52)).drew) (t := 94) (v := P.vc) (news := dclsC c) Tryz.underlying94 infoDC rfl (by decide) h5.file.clss h5.base (((Below.refl _ _).alloc (Nat.le_refl _) _).drew) (alloc_new W5 _) rfl (by simp [dclsC, Value.oneCell']) (by omega) (by decide) 94
 rw [ev] at k115 hap
 have hf6 := (k6.cells _ _ _ _ h5.file.fil (by decide)).trans h5.file.fil
 have hr6 := (k6.cells _ _ _ _ h5.rdr (by decide)).trans h5.rdr
 have HBA := fun (a : Nat) (i : Nat) (ha : a < W5.heap.size) => ((Below.refl W5.heap.size W5).alloc (Nat.le_refl _) (.cells #[.int .i64 c.flag, .int .i64 c.kind, .bool c.cross, .int .i64 (c.first : Nat), .int .i64 (c.count : Nat)] 52)).drew.cell (p := ⟨a, i, none⟩) ha
 refine ⟨av, cv, a6, c6, w6, ⟨h5.cells.1, k115, cblk_all hblk⟩, ⟨(HBA rb 0 h5.lt).trans h5.cells.1, (HBA P.fb 11 h5.file.lt).trans k115, cblk_all (alloc_heap1 hblk _)⟩, ⟨by simp [World.cell?, hr6, drdrC], ?_, cblk_all ((b6 cb hcb5 hne).trans hblk)⟩, ⟨by simp [World.frozen?, hf6], lt_some hf6⟩, hap, h.addCls c hc b5 k6 l6 o6⟩
 rw [← ev]
 simp [World.cell?, hf6, dfilC]
theorem class_doc {B rb : Nat} {w : World} {R : Rdr} {P : DPts} {v : Value} {A : List (Nat × List Bs)} (h : DAt B w rb R P v A) (k : Int) (hd : List Bs) (hv : Value) (hrow : RowIn B w hv hd) (hlen : hd.length = 4) (hf : ∀ f ∈ hd, f.length ≤ 65536 ∧ f ≠ []) (hk : (fld hd 0 = [80, 70, 88] ∧ k = 1) ∨ (fld hd 0 = [83, 70, 88] ∧ k = 2)) (hcn : R.file.classes.length ≤ 65536) :
  Calls Tryz.prog 66 #[ptr rb, hv] w (DRes B rb v A w (doClass k R hd)) := by
 obtain ⟨d0, -⟩ := h.cells
 have HROW0 := hide hrow
 obtain ⟨g, cap, rfl, hg, hgn, hc⟩ := hrow.get
 have HROW := hide (show RowIn B w (.slice (some ⟨g, 0, none⟩) hd.length cap) hd from unhide HROW0)
 have HC : Hid (∀ W, Below w.heap.size w W → ∀ i, i < 4 → W.cell? ⟨g, i, none⟩ = some (.string (Fld.str (fld hd i)))) := fun W b i hi => ((b.mono h.base).cell (p := ⟨g, i, none⟩) hg).trans (hc i (by omega))
 have hsz := fun i (hi : i < 4) => (hf _ (List.mem_of_getElem? (fld_get (row := hd) (i := i) (by omega)))).1
 have HFR := hide (fresh_doc h (Fld.str (fld hd 1)) (by rw [fstr_wd, Wd.str_size]; have := hsz 1 (by decide); unfold maxLen; omega))
 rw [str_toList] at HFR
 have HN := hide (fun W => NumW.ref_any (Fld.str (fld hd 3)) 1024 W (by rw [fstr_wd, Wd.str_size]; have := hsz 3 (by decide); unfold maxLen; omega) (by decide) (by decide))
 rw [str_toList] at HN
 have HH := hide h
 have HBW : Hid (∀ w1, Below w.heap.size w w1 → Below B w w1) := fun w1 b => b.mono h.base
 have HLEN := hide hlen
 have HKK : Hid (fld hd 0 = [80, 70, 88] ∨ fld hd 0 = [83, 70, 88]) := hk.imp And.left And.left
 have c1 := unhide HC w (Below.refl _ _) 1 (by decide)
 have hgw : g < w.heap.size := Nat.lt_of_lt_of_le hg h.base
 have hnum : numb R.line (fld hd 3) 1024 = if Num.numE (fld hd 3) 1024 = 0 then .ok (Num.numN (fld hd 3) 1024).toNat else .error (R.line, 13) := rfl
 have HDK := hide hk
 rw [hlen] at hgn ⊢
 clear hrow hc hsz h
 by_cases hfe : (frN R.file (fld hd 1)).2 = 0
 ·obtain ⟨hnf, hx1, hx2⟩ := fr_bound hfe
  have HFP := hide (And.intro hx1 hx2)
  by_cases hyn : fld hd 2 ≠ [89] ∧ fld hd 2 ≠ [78]
  ·have HX := hide (doClass_v (k := k) hnf hyn)
   have t1 := lst_f (s := Fld.str (fld hd 2)) (l := [89]) (by rw [str_toList]; exact hyn.1)
   have t2 := lst_f (s := Fld.str (fld hd 2)) (l := [78]) (by rw [str_toList]; exact hyn.2)
   have t3 : ((Fld.str (fld hd 2)).toList != [89]) = true := by rw [bne, t1]; rfl
   have t4 : ((Fld.str (fld hd 2)).toList != [78]) = true := by rw [bne, t2]; rfl
   rw [hfe] at HFR
   clear hnf hx1 hx2 hyn hnum hfe hk
   generalize (frN R.file (fld hd 1)).1 = x at *
   go_enter Tryz.func66, Tryz.ntmps66
   go_wp2_with fail
   refine (unhide HFR).mono ?_
   rintro e w2 ⟨rfl, b2⟩
   have HB2 := hide b2
   have c2 := unhide HC _ b2 2 (by decide)
   have HA2 := hide ((unhide HH).below b2).lineAt
   clear b2
   go_wp2_with fail
   go_ret
   exact DRes.no (unhide HX) (unhide HBW _ (unhide HB2)) (by decide) rfl (unhide HA2)
  ·by_cases hne : Num.numE (fld hd 3) 1024 = 0
   ·obtain ⟨n1, n2⟩ := num_pos (m := 1024) hne
    have n1 : Num.numN (fld hd 3) 1024 = ((Num.numN (fld hd 3) 1024).toNat : Nat) := n1
    rw [if_pos hne] at hnum
    have HXM := hide (fun h4 => doClass_m (k := k) hnf hyn hnum h4)
    have HXT0 := hide (fun h4 => doClass_t (k := k) hnf hyn hnum h4)
    have n2 : (Num.numN (fld hd 3) 1024).toNat ≤ 1024 := n2
    rw [hne, n1] at HN
    generalize (Num.numN (fld hd 3) 1024).toNat = n at *
    rw [hfe] at HFR
    have HYN := hide hyn
    clear hnf hx1 hx2 hnum hfe hk hne n1 hyn
    generalize (frN R.file (fld hd 1)).1 = x at *
    have HN2 := hide n2
    by_cases h4 : 1024 < R.file.rules.length + n
    ·have HX := hide (unhide HXM h4)
     have h4i : (1024 : Int) < (R.file.rules.length : Int) + (n : Int) := by omega
     have hri := (unhide HH).file.ok.rul
     clear HXM HXT0 HN2
     by_cases hY : fld hd 2 = [89]
     ·have t1 := lst_t (s := Fld.str (fld hd 2)) (l := [89]) (by rw [str_toList]; exact hY)
      have t3 : ((Fld.str (fld hd 2)).toList != [89]) = false := by rw [bne, t1]; rfl
      clear hY
      go_enter Tryz.func66, Tryz.ntmps66
      go_wp2_with fail
      refine (unhide HFR).mono ?_
      rintro e w2 ⟨rfl, b2⟩
      have HB2 := hide b2
      have c0 := unhide HC _ b2 0 (by decide)
      have c2 := unhide HC _ b2 2 (by decide)
      have c3 := unhide HC _ b2 3 (by decide)
      have HA2 := hide ((unhide HH).below b2)
      have hrb2 := (unhide HA2).lt
      have hfb2 := (unhide HA2).file.lt
      have hg2 : g < w2.heap.size := Nat.lt_of_lt_of_le hgw b2.size
      have d02 := (unhide HA2).cells.1
      have k122 := (unhide HA2).file.cells.2.2.2.2.2.2.2.1
      obtain ⟨au, cu, eu, -, -⟩ := own_len (unhide HA2).file.ruls
      rw [eu] at k122
      clear b2
      go_wp2_with fail
      refine (unhide HN _).mono ?_
      rintro e w2 ⟨rfl, rfl⟩
      go_wp2_with fail
      go_ret
      exact DRes.no (unhide HX) (unhide HBW _ (unhide HB2)) (by decide) rfl (unhide HA2).lineAt
     ·have hNN : fld hd 2 = [78] := Classical.byContradiction fun q => unhide HYN ⟨hY, q⟩
      have t1 := lst_f (s := Fld.str (fld hd 2)) (l := [89]) (by rw [str_toList]; exact hY)
      have t2 := lst_t (s := Fld.str (fld hd 2)) (l := [78]) (by rw [str_toList]; exact hNN)
      have t3 : ((Fld.str (fld hd 2)).toList != [89]) = true := by rw [bne, t1]; rfl
      have t4 : ((Fld.str (fld hd 2)).toList != [78]) = false := by rw [bne, t2]; rfl
      clear hY hNN
      go_enter Tryz.func66, Tryz.ntmps66
      go_wp2_with fail
      refine (unhide HFR).mono ?_
      rintro e w2 ⟨rfl, b2⟩
      have HB2 := hide b2
      have c0 := unhide HC _ b2 0 (by decide)
      have c2 := unhide HC _ b2 2 (by decide)
      have c3 := unhide HC _ b2 3 (by decide)
      have HA2 := hide ((unhide HH).below b2)
      have hrb2 := (unhide HA2).lt
      have hfb2 := (unhide HA2).file.lt
      have hg2 : g < w2.heap.size := Nat.lt_of_lt_of_le hgw b2.size
      have d02 := (unhide HA2).cells.1
      have k122 := (unhide HA2).file.cells.2.2.2.2.2.2.2.1
      obtain ⟨au, cu, eu, -, -⟩ := own_len (unhide HA2).file.ruls
      rw [eu] at k122
      clear b2
      go_wp2_with fail
      refine (unhide HN _).mono ?_
      rintro e w2 ⟨rfl, rfl⟩
      go_wp2_with fail
      go_ret
      exact DRes.no (unhide HX) (unhide HBW _ (unhide HB2)) (by decide) rfl (unhide HA2).lineAt
    ·have HN1 : Hid (R.file.rules.length + n ≤ 1024) := Nat.le_of_not_lt h4
     have HXT : Hid (∀ (k' : Int) (b : Bool), (((fld hd 0 = [80, 70, 88] ∧ k' = 1) ∨ (fld hd 0 = [83, 70, 88] ∧ k' = 2)) ∧ (fld hd 2 == [89]) = b) → doClass k R hd = times (stepX (rulX ⟨x, k', b, R.file.rules.length, n⟩) (begOf hd)) n { R with file := { R.file with classes := R.file.classes ++ [⟨x, k', b, R.file.rules.length, n⟩] } }) := by
      rintro k' b ⟨q1, q2⟩
      have e1 : k = k' := by
       rcases unhide HDK with ⟨a1, a2⟩ | ⟨a1, a2⟩ <;> rcases q1 with ⟨b1, b2⟩ | ⟨b1, b2⟩
       ·rw [a2, b2]
       ·rw [a1] at b1; exact absurd b1 (by decide)
       ·rw [a1] at b1; exact absurd b1 (by decide)
       ·rw [a2, b2]
      rw [unhide HXT0 h4, e1]
      have e2 : cls k' x R hd n = ⟨x, k', b, R.file.rules.length, n⟩ := by rw [← q2]; rfl
      have e3 : begOf hd = [fld hd 0, fld hd 1] := if_pos (unhide HLEN)
      rw [e2, e3]
      rw [show rulStep [fld hd 0, fld hd 1] (⟨x, k', b, R.file.rules.length, n⟩ : Cls) = stepX (rulX ⟨x, k', b, R.file.rules.length, n⟩) [fld hd 0, fld hd 1] from funext (rulStep_step _ _)]
      rfl
     have h4i : ¬ (1024 : Int) < (R.file.rules.length : Int) + (n : Int) := by omega
     clear HXM HXT0
     by_cases hY : fld hd 2 = [89]
     ·have t1 := lst_t (s := Fld.str (fld hd 2)) (l := [89]) (by rw [str_toList]; exact hY)
      have t3 : ((Fld.str (fld hd 2)).toList != [89]) = false := by rw [bne, t1]; rfl
      have HCR : Hid ((fld hd 2 == [89]) = true) := by rw [Hid, hY]; rfl
      clear hY
      go_enter Tryz.func66, Tryz.ntmps66
      go_wp2_with fail
      refine (unhide HFR).mono ?_
      rintro e w2 ⟨rfl, b2⟩
      have HB2 := hide b2
      have c0 := unhide HC _ b2 0 (by decide)
      have c2 := unhide HC _ b2 2 (by decide)
      have c3 := unhide HC _ b2 3 (by decide)
      have HA2 := hide ((unhide HH).below b2)
      have hrb2 := (unhide HA2).lt
      have hfb2 := (unhide HA2).file.lt
      have hg2 : g < w2.heap.size := Nat.lt_of_lt_of_le hgw b2.size
      have d02 := (unhide HA2).cells.1
      have k122 := (unhide HA2).file.cells.2.2.2.2.2.2.2.1
      obtain ⟨au, cu, eu, -, -⟩ := own_len (unhide HA2).file.ruls
      rw [eu] at k122
      clear b2
      go_wp2_with fail
      refine (unhide HN _).mono ?_
      rintro e w2 ⟨rfl, rfl⟩
      go_wp2_with fail
      go_region
      by_cases hP : fld hd 0 = [80, 70, 88]
      ·have t0 := lst_t (s := Fld.str (fld hd 0)) (l := [80, 70, 88]) (by rw [str_toList]; exact hP)
       have HPF := hide hP
       clear hP
       go_wp2_with fail
       obtain ⟨W5, hW5⟩ : ∃ W5, (w2.alloc (.cells #[.int .i64 x, .int .i64 1, .bool true, .int .i64 (R.file.rules.length : Nat), .int .i64 (n : Nat)] 52)).drew = W5 := ⟨_, rfl⟩
       have hblk : W5.heap[w2.heap.size]? = some (.cells (dclsC ⟨x, 1, true, R.file.rules.length, n⟩).toArray 52 (0, 0)) := by
        rw [← hW5]
        exact alloc_new w2 _
       have HB5 : Hid (Below w.heap.size w W5) := by
        rw [← hW5]
        exact (((unhide HB2).alloc (unhide HB2).size _).drew)
       rw [hW5]
       obtain ⟨av, cv, a6, c6, w6, H0, HA, H6, HF6, HAP, HZ⟩ := cls_grown (unhide HH) (c := ⟨x, 1, true, R.file.rules.length, n⟩) (unhide HFP) (unhide HB5) (unhide HB2).size hblk hcn
       have HGR := hide (group_doc (unhide HZ).1 hd (.slice (some ⟨g, 0, none⟩) hd.length cap) ((unhide HROW).below (unhide HZ).2) (.inr (unhide HLEN)) (unhide HN2) (grp_cls (R := R) (c := ⟨x, 1, true, R.file.rules.length, n⟩) (unhide HKK) (unhide HN1)) ⟨rfl, rfl⟩)
       rw [unhide HLEN] at HGR
       have HX5 := hide (unhide HXT 1 true ⟨.inl ⟨unhide HPF, rfl⟩, unhide HCR⟩)
       clear hblk hW5
       refine reg14_wp (c := ⟨x, 1, true, R.file.rules.length, n⟩) H0 HA H6 HF6 HAP _ _ _ _ _ _ _ _ _ _ _ _ _ _ _ _ _ _ _ _ _ _ _ _ _ _ _ _ _ _ _ _ _ _ _ _ _ _ _ _ _ _ _ _ _ _ _ _ _ _ _ _ _ _ _ _ _ _ _ _ _ _ _ _ _ _ _ _ _ _ _ _ _ _ _ _ _ _ _ _ _ _ _ _ _ _ _ _ _ ?_
       rename_i K hK
       intro x71 x72 x73 x74 x75 x76 x77 x78 x79 x80 x81 x82 x83 x84 x85 x86
       apply hK
       go_wp2_with fail
       refine (unhide HGR).mono ?_
       rintro e w8 hres
       obtain ⟨cc, rfl, hfin⟩ := hres.fin
       have HFIN := hide (hfin w (unhide HZ).2)
       clear hfin hres
       go_wp2_with fail
       go_ret
       rw [unhide HX5]
       exact unhide HFIN
      ·have HPF : Hid (fld hd 0 = [83, 70, 88]) := (unhide HKK).resolve_left hP
       have t0 := lst_f (s := Fld.str (fld hd 0)) (l := [80, 70, 88]) (by rw [str_toList]; exact hP)
       clear hP
       go_wp2_with fail
       obtain ⟨W5, hW5⟩ : ∃ W5, (w2.alloc (.cells #[.int .i64 x, .int .i64 2, .bool true, .int .i64 (R.file.rules.length : Nat), .int .i64 (n : Nat)] 52)).drew = W5 := ⟨_, rfl⟩
       have hblk : W5.heap[w2.heap.size]? = some (.cells (dclsC ⟨x, 2, true, R.file.rules.length, n⟩).toArray 52 (0, 0)) := by
        rw [← hW5]
        exact alloc_new w2 _
       have HB5 : Hid (Below w.heap.size w W5) := by
        rw [← hW5]
        exact (((unhide HB2).alloc (unhide HB2).size _).drew)
       rw [hW5]
       obtain ⟨av, cv, a6, c6, w6, H0, HA, H6, HF6, HAP, HZ⟩ := cls_grown (unhide HH) (c := ⟨x, 2, true, R.file.rules.length, n⟩) (unhide HFP) (unhide HB5) (unhide HB2).size hblk hcn
       have HGR := hide (group_doc (unhide HZ).1 hd (.slice (some ⟨g, 0, none⟩) hd.length cap) ((unhide HROW).below (unhide HZ).2) (.inr (unhide HLEN)) (unhide HN2) (grp_cls (R := R) (c := ⟨x, 2, true, R.file.rules.length, n⟩) (unhide HKK) (unhide HN1)) ⟨rfl, rfl⟩)
       rw [unhide HLEN] at HGR
       have HX5 := hide (unhide HXT 2 true ⟨.inr ⟨unhide HPF, rfl⟩, unhide HCR⟩)
       clear hblk hW5
       refine reg14_wp (c := ⟨x, 2, true, R.file.rules.length, n⟩) H0 HA H6 HF6 HAP _ _ _ _ _ _ _ _ _ _ _ _ _ _ _ _ _ _ _ _ _ _ _ _ _ _ _ _ _ _ _ _ _ _ _ _ _ _ _ _ _ _ _ _ _ _ _ _ _ _ _ _ _ _ _ _ _ _ _ _ _ _ _ _ _ _ _ _ _ _ _ _ _ _ _ _ _ _ _ _ _ _ _ _ _ _ _ _ _ ?_
       rename_i K hK
       intro x71 x72 x73 x74 x75 x76 x77 x78 x79 x80 x81 x82 x83 x84 x85 x86
       apply hK
       go_wp2_with fail
       refine (unhide HGR).mono ?_
       rintro e w8 hres
       obtain ⟨cc, rfl, hfin⟩ := hres.fin
       have HFIN := hide (hfin w (unhide HZ).2)
       clear hfin hres
       go_wp2_with fail
       go_ret
       rw [unhide HX5]
       exact unhide HFIN
     ·have hNN : fld hd 2 = [78] := Classical.byContradiction fun q => unhide HYN ⟨hY, q⟩
      have t1 := lst_f (s := Fld.str (fld hd 2)) (l := [89]) (by rw [str_toList]; exact hY)
      have t2 := lst_t (s := Fld.str (fld hd 2)) (l := [78]) (by rw [str_toList]; exact hNN)
      have t3 : ((Fld.str (fld hd 2)).toList != [89]) = true := by rw [bne, t1]; rfl
      have t4 : ((Fld.str (fld hd 2)).toList != [78]) = false := by rw [bne, t2]; rfl
      have HCR : Hid ((fld hd 2 == [89]) = false) := by rw [Hid, hNN]; rfl
      clear hY hNN
      go_enter Tryz.func66, Tryz.ntmps66
      go_wp2_with fail
      refine (unhide HFR).mono ?_
      rintro e w2 ⟨rfl, b2⟩
      have HB2 := hide b2
      have c0 := unhide HC _ b2 0 (by decide)
      have c2 := unhide HC _ b2 2 (by decide)
      have c3 := unhide HC _ b2 3 (by decide)
      have HA2 := hide ((unhide HH).below b2)
      have hrb2 := (unhide HA2).lt
      have hfb2 := (unhide HA2).file.lt
      have hg2 : g < w2.heap.size := Nat.lt_of_lt_of_le hgw b2.size
      have d02 := (unhide HA2).cells.1
      have k122 := (unhide HA2).file.cells.2.2.2.2.2.2.2.1
      obtain ⟨au, cu, eu, -, -⟩ := own_len (unhide HA2).file.ruls
      rw [eu] at k122
      clear b2
      go_wp2_with fail
      refine (unhide HN _).mono ?_
      rintro e w2 ⟨rfl, rfl⟩
      go_wp2_with fail
      go_region
      by_cases hP : fld hd 0 = [80, 70, 88]
      ·have t0 := lst_t (s := Fld.str (fld hd 0)) (l := [80, 70, 88]) (by rw [str_toList]; exact hP)
       have HPF := hide hP
       clear hP
       go_wp2_with fail
       obtain ⟨W5, hW5⟩ : ∃ W5, (w2.alloc (.cells #[.int .i64 x, .int .i64 1, .bool false, .int .i64 (R.file.rules.length : Nat), .int .i64 (n : Nat)] 52)).drew = W5 := ⟨_, rfl⟩
       have hblk : W5.heap[w2.heap.size]? = some (.cells (dclsC ⟨x, 1, false, R.file.rules.length, n⟩).toArray 52 (0, 0)) := by
        rw [← hW5]
        exact alloc_new w2 _
       have HB5 : Hid (Below w.heap.size w W5) := by
        rw [← hW5]
        exact (((unhide HB2).alloc (unhide HB2).size _).drew)
       rw [hW5]
       obtain ⟨av, cv, a6, c6, w6, H0, HA, H6, HF6, HAP, HZ⟩ := cls_grown (unhide HH) (c := ⟨x, 1, false, R.file.rules.length, n⟩) (unhide HFP) (unhide HB5) (unhide HB2).size hblk hcn
       have HGR := hide (group_doc (unhide HZ).1 hd (.slice (some ⟨g, 0, none⟩) hd.length cap) ((unhide HROW).below (unhide HZ).2) (.inr (unhide HLEN)) (unhide HN2) (grp_cls (R := R) (c := ⟨x, 1, false, R.file.rules.length, n⟩) (unhide HKK) (unhide HN1)) ⟨rfl, rfl⟩)
       rw [unhide HLEN] at HGR
       have HX5 := hide (unhide HXT 1 false ⟨.inl ⟨unhide HPF, rfl⟩, unhide HCR⟩)
       clear hblk hW5
       refine reg14_wp (c := ⟨x, 1, false, R.file.rules.length, n⟩) H0 HA H6 HF6 HAP _ _ _ _ _ _ _ _ _ _ _ _ _ _ _ _ _ _ _ _ _ _ _ _ _ _ _ _ _ _ _ _ _ _ _ _ _ _ _ _ _ _ _ _ _ _ _ _ _ _ _ _ _ _ _ _ _ _ _ _ _ _ _ _ _ _ _ _ _ _ _ _ _ _ _ _ _ _ _ _ _ _ _ _ _ _ _ _ _ ?_
       rename_i K hK
       intro x71 x72 x73 x74 x75 x76 x77 x78 x79 x80 x81 x82 x83 x84 x85 x86
       apply hK
       go_wp2_with fail
       refine (unhide HGR).mono ?_
       rintro e w8 hres
       obtain ⟨cc, rfl, hfin⟩ := hres.fin
       have HFIN := hide (hfin w (unhide HZ).2)
       clear hfin hres
       go_wp2_with fail
       go_ret
       rw [unhide HX5]
       exact unhide HFIN
      ·have HPF : Hid (fld hd 0 = [83, 70, 88]) := (unhide HKK).resolve_left hP
       have t0 := lst_f (s := Fld.str (fld hd 0)) (l := [80, 70, 88]) (by rw [str_toList]; exact hP)
       clear hP
       go_wp2_with fail
       obtain ⟨W5, hW5⟩ : ∃ W5, (w2.alloc (.cells #[.int .i64 x, .int .i64 2, .bool false, .int .i64 (R.file.rules.length : Nat), .int .i64 (n : Nat)] 52)).drew = W5 := ⟨_, rfl⟩
       have hblk : W5.heap[w2.heap.size]? = some (.cells (dclsC ⟨x, 2, false, R.file.rules.length, n⟩).toArray 52 (0, 0)) := by
        rw [← hW5]
        exact alloc_new w2 _
       have HB5 : Hid (Below w.heap.size w W5) := by
        rw [← hW5]
        exact (((unhide HB2).alloc (unhide HB2).size _).drew)
       rw [hW5]
       obtain ⟨av, cv, a6, c6, w6, H0, HA, H6, HF6, HAP, HZ⟩ := cls_grown (unhide HH) (c := ⟨x, 2, false, R.file.rules.length, n⟩) (unhide HFP) (unhide HB5) (unhide HB2).size hblk hcn
       have HGR := hide (group_doc (unhide HZ).1 hd (.slice (some ⟨g, 0, none⟩) hd.length cap) ((unhide HROW).below (unhide HZ).2) (.inr (unhide HLEN)) (unhide HN2) (grp_cls (R := R) (c := ⟨x, 2, false, R.file.rules.length, n⟩) (unhide HKK) (unhide HN1)) ⟨rfl, rfl⟩)
       rw [unhide HLEN] at HGR
       have HX5 := hide (unhide HXT 2 false ⟨.inr ⟨unhide HPF, rfl⟩, unhide HCR⟩)
       clear hblk hW5
       refine reg14_wp (c := ⟨x, 2, false, R.file.rules.length, n⟩) H0 HA H6 HF6 HAP _ _ _ _ _ _ _ _ _ _ _ _ _ _ _ _ _ _ _ _ _ _ _ _ _ _ _ _ _ _ _ _ _ _ _ _ _ _ _ _ _ _ _ _ _ _ _ _ _ _ _ _ _ _ _ _ _ _ _ _ _ _ _ _ _ _ _ _ _ _ _ _ _ _ _ _ _ _ _ _ _ _ _ _ _ _ _ _ _ ?_
       rename_i K hK
       intro x71 x72 x73 x74 x75 x76 x77 x78 x79 x80 x81 x82 x83 x84 x85 x86
       apply hK
       go_wp2_with fail
       refine (unhide HGR).mono ?_
       rintro e w8 hres
       obtain ⟨cc, rfl, hfin⟩ := hres.fin
       have HFIN := hide (hfin w (unhide HZ).2)
       clear hfin hres
       go_wp2_with fail
       go_ret
       rw [unhide HX5]
       exact unhide HFIN
   ·have HX := hide (doClass_n (k := k) hnf hyn (by rw [hnum, if_neg hne]))
    have hn13 : Num.numE (fld hd 3) 1024 = 13 := (numE_or _ _).resolve_left hne
    rw [hn13] at HN
    have HYN := hide hyn
    rw [hfe] at HFR
    clear hnf hx1 hx2 hnum hfe hk hne hyn hn13
    generalize (frN R.file (fld hd 1)).1 = x at *
    generalize Num.numN (fld hd 3) 1024 = nn at *
    by_cases hY : fld hd 2 = [89]
    ·have t1 := lst_t (s := Fld.str (fld hd 2)) (l := [89]) (by rw [str_toList]; exact hY)
     have t3 : ((Fld.str (fld hd 2)).toList != [89]) = false := by rw [bne, t1]; rfl
     clear hY
     go_enter Tryz.func66, Tryz.ntmps66
     go_wp2_with fail
     refine (unhide HFR).mono ?_
     rintro e w2 ⟨rfl, b2⟩
     have HB2 := hide b2
     have c0 := unhide HC _ b2 0 (by decide)
     have c2 := unhide HC _ b2 2 (by decide)
     have c3 := unhide HC _ b2 3 (by decide)
     have HA2 := hide ((unhide HH).below b2)
     have hrb2 := (unhide HA2).lt
     have hfb2 := (unhide HA2).file.lt
     have hg2 : g < w2.heap.size := Nat.lt_of_lt_of_le hgw b2.size
     have d02 := (unhide HA2).cells.1
     clear b2
     go_wp2_with fail
     refine (unhide HN _).mono ?_
     rintro e w2 ⟨rfl, rfl⟩
     go_wp2_with fail
     go_ret
     exact DRes.no (unhide HX) (unhide HBW _ (unhide HB2)) (by decide) rfl (unhide HA2).lineAt
    ·have hNN : fld hd 2 = [78] := Classical.byContradiction fun q => unhide HYN ⟨hY, q⟩
     have t1 := lst_f (s := Fld.str (fld hd 2)) (l := [89]) (by rw [str_toList]; exact hY)
     have t2 := lst_t (s := Fld.str (fld hd 2)) (l := [78]) (by rw [str_toList]; exact hNN)
     have t3 : ((Fld.str (fld hd 2)).toList != [89]) = true := by rw [bne, t1]; rfl
     have t4 : ((Fld.str (fld hd 2)).toList != [78]) = false := by rw [bne, t2]; rfl
     clear hY hNN
     go_enter Tryz.func66, Tryz.ntmps66
     go_wp2_with fail
     refine (unhide HFR).mono ?_
     rintro e w2 ⟨rfl, b2⟩
     have HB2 := hide b2
     have c0 := unhide HC _ b2 0 (by decide)
     have c2 := unhide HC _ b2 2 (by decide)
     have c3 := unhide HC _ b2 3 (by decide)
     have HA2 := hide ((unhide HH).below b2)
     have hrb2 := (unhide HA2).lt
     have hfb2 := (unhide HA2).file.lt
     have hg2 : g < w2.heap.size := Nat.lt_of_lt_of_le hgw b2.size
     have d02 := (unhide HA2).cells.1
     clear b2
     go_wp2_with fail
     refine (unhide HN _).mono ?_
     rintro e w2 ⟨rfl, rfl⟩
     go_wp2_with fail
     go_ret
     exact DRes.no (unhide HX) (unhide HBW _ (unhide HB2)) (by decide) rfl (unhide HA2).lineAt
 ·have hne : newFlag R (fld hd 1) = .error (R.line, (frN R.file (fld hd 1)).2.toNat) := by rw [fr_eq, if_neg hfe]
  have HX := hide (doClass_f (k := k) hne)
  have HNZ := hide hfe
  have HPOS := hide (fr_pos R.file (fld hd 1))
  have hez : ((frN R.file (fld hd 1)).2 == 0) = false := by rw [beq_eq_false_iff_ne]; exact hfe
  clear hne hfe hnum hk
  generalize frN R.file (fld hd 1) = fr at *
  obtain ⟨x, ec⟩ := fr
  go_enter Tryz.func66, Tryz.ntmps66
  go_wp2_with fail
  refine (unhide HFR).mono ?_
  rintro e w2 ⟨rfl, b2⟩
  have HB2 := hide b2
  have HA2 := hide ((unhide HH).below b2).lineAt
  clear b2
  go_wp2_with fail
  go_ret
  exact DRes.no (unhide HX) (unhide HBW _ (unhide HB2)) (by have := unhide HNZ; have := unhide HPOS; simp at *; omega) (by have := unhide HPOS; simp at *; omega) (unhide HA2)
end Af
end Go.Proofs.YtmhegbeemgagkaaGreatDoor
