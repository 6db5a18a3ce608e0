import Derived.Test.YtidhbhdcoanfcaaGreatDoorGuBj1
namespace Go.Proofs.YtidhbhdcoanfcaaGreatDoor
open Go.RowKit
namespace Af
open RowB
theorem doClass_f {k : Int} {R : Rdr} {hd : List Bs} {e : Er} (h : newFlag R (fld hd 1) = .error e) : doClass k R hd = .error e := by unfold doClass; rw [h]
theorem doClass_v {k x : Int} {R : Rdr} {hd : List Bs} (h : newFlag R (fld hd 1) = .ok x) (h2 : fld hd 2 ≠ [89] ∧ fld hd 2 ≠ [78]) : doClass k R hd = .error (R.line, 114) := by unfold doClass; rw [h]; simp [h2]
theorem doClass_n {k x : Int} {R : Rdr} {hd : List Bs} {e : Er} (h : newFlag R (fld hd 1) = .ok x) (h2 : ¬ (fld hd 2 ≠ [89] ∧ fld hd 2 ≠ [78])) (h3 : numb R.line (fld hd 3) 1024 = .error e) : doClass k R hd = .error e := by
 unfold doClass
 rw [h]
 simp only
 rw [if_neg h2, h3]
theorem doClass_m {k x : Int} {R : Rdr} {hd : List Bs} {n : Nat} (h : newFlag R (fld hd 1) = .ok x) (h2 : ¬ (fld hd 2 ≠ [89] ∧ fld hd 2 ≠ [78])) (h3 : numb R.line (fld hd 3) 1024 = .ok n) (h4 : 1024 < R.file.rules.length + n) : doClass k R hd = .error (R.line, 117) := by
 unfold doClass
 rw [h]
 simp only
 rw [if_neg h2, h3]
 simp only
 rw [if_pos h4]
def cls (k x : Int) (R : Rdr) (hd : List Bs) (n : Nat) : Cls := ⟨x, k, fld hd 2 == [89], R.file.rules.length, n⟩
theorem doClass_t {k x : Int} {R : Rdr} {hd : List Bs} {n : Nat} (h : newFlag R (fld hd 1) = .ok x) (h2 : ¬ (fld hd 2 ≠ [89] ∧ fld hd 2 ≠ [78])) (h3 : numb R.line (fld hd 3) 1024 = .ok n) (h4 : ¬ 1024 < R.file.rules.length + n) : doClass k R hd = times (rulStep [fld hd 0, fld hd 1] (cls k x R hd n)) n (withC R (cls k x R hd n)) := by
 unfold doClass
 rw [h]
 simp only
 rw [if_neg h2, h3]
 simp only
 rw [if_neg h4]
 rfl
theorem zero33 {w w2 : World} (b : Below (w.alloc (.cells #[.int .u16 0, .int .i64 0, .bool false, .int .i64 0, .int .i64 0] 94)).drew.heap.size (w.alloc (.cells #[.int .u16 0, .int .i64 0, .bool false, .int .i64 0, .int .i64 0] 94)).drew w2) : w2.heap[w.heap.size]? = some (.cells #[.int .u16 0, .int .i64 0, .bool false, .int .i64 0, .int .i64 0] 94 (0, 0)) :=
 (b.block w.heap.size (by show w.heap.size < (w.alloc _).heap.size; simp)).trans (alloc_new w _)
theorem cells33 {w2 : World} {g : Nat} {a b c d e : Value} {t : TypeId} (h : w2.heap[g]? = some (.cells #[a, b, c, d, e] t (0, 0))) : w2.cell? ⟨g, 0, none⟩ = some a ∧ w2.cell? ⟨g, 1, none⟩ = some b ∧ w2.cell? ⟨g, 2, none⟩ = some c ∧ w2.cell? ⟨g, 3, none⟩ = some d ∧ w2.cell? ⟨g, 4, none⟩ = some e ∧ ∀ k, w2.frozen? ⟨g, k, none⟩ = false := by
 simp [World.cell?, World.frozen?, h]
theorem keep5 {w : World} {b : Nat} {a : Addr} {u x0 x1 x2 x3 x4 : Value} (h : w.cell? a = some u) (hne : b ≠ a.block) : (((((w.setCell ⟨b, 0, none⟩ x0).setCell ⟨b, 1, none⟩ x1).setCell ⟨b, 2, none⟩ x2).setCell ⟨b, 3, none⟩ x3).setCell ⟨b, 4, none⟩ x4).cell? a = some u := by
 rw [World.cell?_setCell_far _ _ _ _ hne, World.cell?_setCell_far _ _ _ _ hne, World.cell?_setCell_far _ _ _ _ hne, World.cell?_setCell_far _ _ _ _ hne, World.cell?_setCell_far _ _ _ _ hne]
 exact h
theorem calls_ok {g : FuncId} {args : Array Value} {w W : World} {v : Value} {Q : Ending → World → Prop} (b : Below w.heap.size w W) (h : ∀ W, Below w.heap.size w W → Calls Tryz.prog g args W fun e w' => e = .returned v ∧ Below W.heap.size W w') (k : ∀ w', Below w.heap.size w w' → Below W.heap.size W w' → Q (.returned v) w') : Calls Tryz.prog g args W Q :=
 (h W b).mono fun e w' q => by rw [q.1]; exact k w' (b.trans (q.2.mono b.size)) q.2
set_option maxRecDepth 100000 in
set_option maxHeartbeats 4000000 in
theorem readClass_any {B rb : Nat} {R : Rdr} {P : Pts} {w : World} (h : RAt B w rb R P) (hM : Mx B w) (k : Int) (hd : List Bs) (hv : Value) (hrow : StrRow B w hv (hd.map Fld.str)) (hlen : hd.length = 4) (hf : ∀ f ∈ hd, f.length ≤ 65536) (hcn : R.file.classes.length ≤ 65536) :
  Calls Tryz.prog 80 #[ptr rb, hv, .int .i64 k] w (Res B rb P w (doClass k R hd)) := by
 obtain ⟨d0, -, hl, -, -, -, -⟩ := h.cells
 obtain ⟨-, -, -, -, k12, -, -⟩ := h.file.cells
 have hb := h.lt
 have hfb := h.file.lt
 have HH := hide h
 have HRow := hide hrow
 obtain ⟨g, cap, rfl, hg, h1, h2, -, hcl⟩ := str_cells hrow
 unfold maxLen at h2
 have q1 := hcl 1 _ (fld_get (by omega))
 have hf1 := hf _ (List.mem_of_getElem? (fld_get (row := hd) (i := 1) (by omega)))
 obtain ⟨au, cu, eu, -, -⟩ := own_len h.file.ruls
 rw [eu] at k12
 have HN := hide (fun W (b : Below w.heap.size w W) => newFlag_all (h.below b) (Fld.str (fld hd 1)) (by rw [fstr_wd, Wd.str_size]; omega))
 have e1 : (Fld.str (fld hd 1)).data.toList = fld hd 1 := by simp [Fld.str]
 rw [e1] at HN
 have HHD := hide hf
 have HCN := hide hcn
 have HMX := hide hM
 clear hcn
 have HLN := hide hlen
 have HCL := hide hcl
 have HRW4 : Hid (StrRow B w (.slice (some ⟨g, 0, none⟩) 4 cap) (hd.map Fld.str)) := by rw [← hlen]; exact hrow
 rw [hlen] at h1 ⊢
 clear hcl hf hf1 e1 hrow hlen
 cases hn : newFlag R (fld hd 1) with
 | error er =>
  have HX := hide (doClass_f (k := k) hn)
  have HNN := hide (fun W b => noOf (unhide HN W b) hn)
  clear HN hn h hM eu hl
  generalize Fld.str (fld hd 1) = r1 at *
  generalize R.file.rules.length = nr at *
  go_enter Tryz.func80, Tryz.ntmps80
  go_wp2_with fail
  go_region_held2 (fun w' => w'.cell? ⟨rb, 0, none⟩ = some (.pointer (some ⟨P.fb, 0, none⟩)) ∧ w'.cell? ⟨P.fb, 12, none⟩ = some (.slice au nr cu) ∧ w'.cell? ⟨g, 1, none⟩ = some (.string r1)) (first | exact ⟨d0, k12, q1⟩ | go_keep) (first | (go_at_call 100; refine calls_no2 (.int .u16 0) (by (repeat (first | exact Below.refl _ _ | refine Below.drew ?_ | refine Below.alloc ?_ (by first | (simp; done) | (simp; omega)) _ | refine Below.setCell ?_ (by first | (simp; done) | (simp; omega)) _))) (unhide HNN) (fun w4 b4 => ⟨rfl, Res.no (unhide HX) (Kt.of_below b4 (unhide HH).base)⟩) ?_; intro HF))
  all_goals exact (unhide HF).elim
 | ok x =>
  have HNN := hide (fun W b => okOf (unhide HN W b) hn)
  unfold flgV at HNN
  have HNO := hide hn
  clear HN hn h hM eu hl
  generalize Fld.str (fld hd 1) = r1 at *
  obtain ⟨nr, hnr⟩ : ∃ nr, R.file.rules.length = nr := ⟨_, rfl⟩
  rw [hnr] at k12
  have HNR := hide hnr
  clear hnr
  have HN1 : Hid (w.heap.size ≠ rb) := Nat.ne_of_gt hb
  have HN2 : Hid (w.heap.size ≠ P.fb) := Nat.ne_of_gt hfb
  have HN3 : Hid (w.heap.size ≠ g) := Nat.ne_of_gt hg
  go_enter Tryz.func80, Tryz.ntmps80
  go_wp2_with fail
  rename_i K hK
  have TAIL : Hid (∀ cb V, Hid (Below w.heap.size w V ∧ w.heap.size ≤ cb ∧ V.heap[cb]? = some (.cells #[.int .u16 x, .int .i64 k, .bool false, .int .i64 (nr : Nat), .int .i64 0] 94 (0, 0))) → K { tmps := #[ptr rb, .slice (some ⟨g, 0, none⟩) 4 cap, .int .i64 k, undef, undef, undef, .pointer (some ⟨cb, 0, none⟩), undef, .int .i64 k, ptr rb, .slice (some ⟨g, 0, none⟩) 4 cap, .pointer (some ⟨g, 1, none⟩), .string r1, .int .u16 x, ptr rb, .pointer (some ⟨rb, 0, none⟩), .pointer (some ⟨rb, 0, none⟩), .pointer (some ⟨P.fb, 0, none⟩), .pointer (some ⟨P.fb, 0, none⟩), .pointer (some ⟨P.fb, 0, none⟩), .pointer (some ⟨P.fb, 12, none⟩), .slice au nr cu, .int .i64 (nr : Nat), .agg #[.int .u16 x, .int .i64 k, .bool false, .int .i64 (nr : Nat), .int .i64 0], undef, undef, undef, undef, undef, undef, undef, undef, undef, undef, undef, undef, undef, undef, undef, undef, undef, undef, undef, undef, undef, undef, undef, undef, undef, undef, undef, undef, undef, undef, undef, undef, undef, undef, undef, undef, undef, undef, undef, undef, undef, undef, undef, undef, undef, undef, undef, undef, undef, undef, undef, undef, undef, undef, undef, undef, undef, undef, undef, undef, undef, undef, undef, undef, undef, undef, undef, undef, undef, undef, undef, undef, undef, undef, undef, undef, undef, undef, undef, undef, undef, undef, undef, undef, undef, undef, undef, undef, undef, undef, undef, undef, undef, undef, undef, undef, undef, undef, undef, undef, undef, undef, undef, undef, undef, undef, undef, undef, undef, undef, undef, undef, undef, undef, undef], defers := [] } V) := by
   intro cb V hT
   obtain ⟨bV, hnew, hblk⟩ := unhide hT
   apply hK
   clear hK hT
   clear K
   have HBV := hide bV
   have HBLK := hide hblk
   have q2 := (bV.cell (p := ⟨g, 2, none⟩) hg).trans (unhide HCL 2 _ (fld_get (by rw [unhide HLN]; decide)))
   have q3 := (bV.cell (p := ⟨g, 3, none⟩) hg).trans (unhide HCL 3 _ (fld_get (by rw [unhide HLN]; decide)))
   have hf3 := unhide HHD _ (List.mem_of_getElem? (fld_get (row := hd) (i := 3) (by rw [unhide HLN]; decide)))
   obtain ⟨c0, c1, c2, c3, c4, cf⟩ := cells33 hblk
   have hcbl := lt_some hblk
   have HNE : Hid (cb ≠ g) := by have := hg; exact fun e => by omega
   have e2 : (Fld.str (fld hd 2)).toList = fld hd 2 := by rw [Lib.toList_data]; simp [Fld.str]
   clear d0 k12 q1 bV hblk HNN
   by_cases hyn : fld hd 2 ≠ [89] ∧ fld hd 2 ≠ [78]
   ·
    have HX := hide (doClass_v (k := k) (unhide HNO) hyn)
    have y1 : ((Fld.str (fld hd 2)).toList == [89]) = false := by rw [e2]; simpa using hyn.1
    have y2 : ((Fld.str (fld hd 2)).toList == [78]) = false := by rw [e2]; simpa using hyn.2
    have HV := hide (leaveIf_no rb R.line 114 V (by decide) (by decide) ((unhide HH).below (unhide HBV)).cells.2.2.1)
    clear hyn e2
    generalize Fld.str (fld hd 2) = r2 at *
    go_wp2_with (go_at_call 82; refine (unhide HV).mono ?_; rintro e w4 ⟨rfl, rfl⟩)
    exact ⟨rfl, Res.no (unhide HX) (Kt.of_below (unhide HBV) (unhide HH).base)⟩
   ·have HY := hide hyn
    have HYN : Hid ((((Fld.str (fld hd 2)).toList == [89]) = true ∧ (fld hd 2 == [89]) = true) ∨ (((Fld.str (fld hd 2)).toList == [89]) = false ∧ ((Fld.str (fld hd 2)).toList == [78]) = true ∧ (fld hd 2 == [89]) = false)) := by
     rw [Hid, e2]
     by_cases q : fld hd 2 = [89]
     ·exact .inl ⟨by simpa using q, by simpa using q⟩
     ·refine .inr ⟨by simpa using q, ?_, by simpa using q⟩
      have : fld hd 2 = [78] := Classical.byContradiction fun z => hyn ⟨q, z⟩
      simpa using this
    clear hyn e2
    have HNU := hide (fun W (b : Below w.heap.size w W) => number_any rb R.line (Fld.str (fld hd 3)) 1024 W (by rw [fstr_wd, Wd.str_size]; omega) (by decide) ((unhide HH).below b).cells.2.2.1)
    have e3 : (Fld.str (fld hd 3)).data.toList = fld hd 3 := by simp [Fld.str]
    rw [e3] at HNU
    clear e3 hf3
    generalize Fld.str (fld hd 2) = r2 at *
    generalize Fld.str (fld hd 3) = r3 at *
    have b2 : ∀ v, Below w.heap.size w (V.setCell ⟨cb, 2, none⟩ v) := fun v => (unhide HBV).setCell (p := ⟨cb, 2, none⟩) hnew v
    have HB2 := hide b2
    clear b2
    have q3s : ∀ v, (V.setCell ⟨cb, 2, none⟩ v).cell? ⟨g, 3, none⟩ = some (.string r3) := fun v => by rw [World.cell?_setCell_far _ _ _ _ (unhide HNE)]; exact q3
    cases hnum : numb R.line (fld hd 3) 1024 with
    | error er =>
     have HX := hide (doClass_n (k := k) (unhide HNO) (unhide HY) hnum)
     have HNO2 := hide (fun W b => noOf (unhide HNU W b) hnum)
     clear HNU hnum
     rcases unhide HYN with ⟨y1, y3⟩ | ⟨y1, y2, y3⟩
     all_goals
      clear HYN y3
      go_wp2_with (first | (go_at_call 82; with_reducible (show Calls _ _ #[_, .bool false, .int .i64 114] _ _); refine (leaveIf_ok _ _ _).mono ?_; rintro e w4 ⟨rfl, rfl⟩) | (go_at_call 101; refine (unhide HNO2 _ (unhide HB2 _)).mono ?_; rintro e w4 ⟨rfl, rfl⟩))
      exact ⟨rfl, Res.no (unhide HX) (Kt.of_below (unhide HB2 _) (unhide HH).base)⟩
    | ok n =>
     have HNO2 := hide (fun W b => okOf (unhide HNU W b) hnum)
     have HNB := hide (numb_le hnum)
     by_cases h4 : 1024 < R.file.rules.length + n
     ·
      have HX := hide (doClass_m (k := k) (unhide HNO) (unhide HY) hnum h4)
      have hn1 := unhide HNB
      have hr1 := (unhide HH).file.ok.rul
      rw [unhide HNR] at h4 hr1
      have h4i : (1024 : Int) < (nr : Int) + (n : Int) := by omega
      clear HNU hnum h4
      rcases unhide HYN with ⟨y1, y3⟩ | ⟨y1, y2, y3⟩
      all_goals
       clear HYN y3
       go_wp2_with (first | (go_at_call 82; with_reducible (show Calls _ _ #[_, .bool false, .int .i64 114] _ _); refine (leaveIf_ok _ _ _).mono ?_; rintro e w4 ⟨rfl, rfl⟩) | (go_at_call 101; refine (unhide HNO2 _ (unhide HB2 _)).mono ?_; rintro e w4 ⟨rfl, rfl⟩))
       have b4 := fun v u => (unhide HB2 v).setCell (p := ⟨cb, 4, none⟩) hnew u
       refine (leaveIf_no rb R.line 117 _ (by decide) (by decide) ((unhide HH).below (b4 _ _)).cells.2.2.1).mono ?_
       rintro e w5 ⟨rfl, rfl⟩
       exact ⟨rfl, Res.no (unhide HX) (Kt.of_below (b4 _ _) (unhide HH).base)⟩
     ·have HX := hide (doClass_t (k := k) (unhide HNO) (unhide HY) hnum h4)
      have hn1 := unhide HNB
      have hr1 := (unhide HH).file.ok.rul
      rw [unhide HNR] at h4 hr1
      have h4i : ¬ (1024 : Int) < (nr : Int) + (n : Int) := by omega
      have HS4 := hide h4
      clear HNU hnum h4
      have HCR : Hid (∀ cr V2, (fld hd 2 == [89]) = cr → V2 = (V.setCell ⟨cb, 2, none⟩ (.bool cr)).setCell ⟨cb, 4, none⟩ (.int .i64 (n : Nat)) → Below w.heap.size w V2 ∧ V2.heap[cb]? = some (.cells (clsC (cls k x R hd n)).toArray 94 (0, 0))) := by
       rintro cr V2 hcr rfl
       refine ⟨(unhide HB2 _).setCell (p := ⟨cb, 4, none⟩) hnew _, ?_⟩
       rw [set_heap1 (set_heap1 (unhide HBLK) _)]
       simp [clsC, cls, hcr, unhide HNR]
      rcases unhide HYN with ⟨y1, y3⟩ | ⟨y1, y2, y3⟩
      all_goals
       have HY3 := hide y3
       clear HYN y3
       go_wp2_with (first | (go_at_call 82; with_reducible (show Calls _ _ #[_, .bool false, .int .i64 114] _ _); refine (leaveIf_ok _ _ _).mono ?_; rintro e w4 ⟨rfl, rfl⟩) | (go_at_call 101; refine (unhide HNO2 _ (unhide HB2 _)).mono ?_; rintro e w4 ⟨rfl, rfl⟩))
       refine (leaveIf_f _ _ _ _ (by simp; omega)).mono ?_
       rintro e w5 ⟨rfl, hw5⟩
       rename_i K3 hK3 K2 hK2
       subst w5
       apply hK2
       refine hK3 _ _ ?_
       obtain ⟨bV2, blk2⟩ := unhide HCR _ _ (unhide HY3) rfl
       obtain ⟨x1, x2, x3, x4⟩ := newFlag_pos (unhide HNO)
       refine cls_mid (c := cls k x R hd n) (hd := hd) ((unhide HH).below bV2) (Kt.of_below bV2 (unhide HH).base) (str_kept (unhide HRW4) (below_kept bV2)) (unhide HMX) blk2 ?_ ⟨x1, x2⟩ x3 (unhide HCN) (unhide HLN) ?_ ?_ h1 (by omega) _ _ _ _ _ _ _ _ _ _ _ _ _ _ _ _ _ _ _ _ _ _ _ _ _ _ _ _ _ _ _ _ _ _ _ _ _ _ _ _ _ _ _ _ _ _ _ _ _ _ _ _ _ _ _ _ _ _ _ _ _ _ _ _ _ _ _ _ _ _ _ _ _ _ _ _ _ _ _ _ _ _ _ _ _ _ _ _ _ _ _ _ _ _ _ _ _ _ _ _ _ _ _ _ _ _ _ _ _ _ _ _ _ _ _ _ _ _ _ _ _ _ _ _ _ _ _ _ _ _ _ _ _ _ _ _
       ·intro e
        have := ((unhide HH).file.clss.lt cb e).2
        omega
       ·show R.file.rules.length + n ≤ 1024
        rw [unhide HNR]; omega
       ·exact unhide HX
  clear hK
  go_region_held2 (fun w' => w'.cell? ⟨rb, 0, none⟩ = some (.pointer (some ⟨P.fb, 0, none⟩)) ∧ w'.cell? ⟨P.fb, 12, none⟩ = some (.slice au nr cu) ∧ w'.cell? ⟨g, 1, none⟩ = some (.string r1)) (first | (with_reducible exact ⟨d0', k12', q1'⟩) | (with_reducible exact ⟨keep5 d0' (unhide HN1), keep5 k12' (unhide HN2), keep5 q1' (unhide HN3)⟩) | (with_reducible exact ⟨d0, k12, q1⟩) | go_keep) (first | (go_at_call 100; with_reducible (show Calls _ _ _ (World.drew (World.alloc _ _)) _); refine calls_ok (by (repeat (first | exact Below.refl _ _ | refine Below.drew ?_ | refine Below.alloc ?_ (by first | (simp; done) | (simp; omega)) _ | refine Below.setCell ?_ (by first | (simp; done) | (simp; omega)) _))) (unhide HNN) ?_; intro w2 b2 b3; have HB2 := hide b2; have HZ := hide (zero33 b3); obtain ⟨z0, z1, z2, z3, z4, zf⟩ := cells33 (unhide HZ); have hz2 := lt_some (unhide HZ); have d0' := (b2.cell (p := ⟨rb, 0, none⟩) hb).trans d0; have k12' := (b2.cell (p := ⟨P.fb, 12, none⟩) hfb).trans k12; have q1' := (b2.cell (p := ⟨g, 1, none⟩) hg).trans q1; clear b2 b3) | (go_at_call 100; refine calls_ok (by (repeat (first | exact Below.refl _ _ | refine Below.drew ?_ | refine Below.alloc ?_ (by first | (simp; done) | (simp; omega)) _ | refine Below.setCell ?_ (by first | (simp; done) | (simp; omega)) _))) (unhide HNN) ?_; intro w2 b2 b3; have HB2 := hide b2; have HZ : Hid True := trivial; have d0' := (b2.cell (p := ⟨rb, 0, none⟩) hb).trans d0; have k12' := (b2.cell (p := ⟨P.fb, 12, none⟩) hfb).trans k12; have q1' := (b2.cell (p := ⟨g, 1, none⟩) hg).trans q1; clear b2 b3))
  ·exact unhide TAIL w2.heap.size _ ⟨(unhide HB2).alloc (unhide HB2).size _, (unhide HB2).size, alloc_new w2 _⟩
  ·refine unhide TAIL w.heap.size _ ⟨?_, Nat.le_refl _, ?_⟩
   ·exact (((((unhide HB2).setCell (p := ⟨w.heap.size, 0, none⟩) (Nat.le_refl _) _).setCell (p := ⟨w.heap.size, 1, none⟩) (Nat.le_refl _) _).setCell (p := ⟨w.heap.size, 2, none⟩) (Nat.le_refl _) _).setCell (p := ⟨w.heap.size, 3, none⟩) (Nat.le_refl _) _).setCell (p := ⟨w.heap.size, 4, none⟩) (Nat.le_refl _) _
   ·exact set_heap1 (set_heap1 (set_heap1 (set_heap1 (set_heap1 (unhide HZ) _) _) _) _) _
end Af
end Go.Proofs.YtidhbhdcoanfcaaGreatDoor
