import Derived.Test.YtidhbhdcoanfcaaGreatDoorGq25
set_option maxHeartbeats 8000000
set_option maxRecDepth 100000
namespace Go.Proofs.YtidhbhdcoanfcaaGreatDoor
open Go.RowKit
namespace Af
open RowB
theorem doKind_o {R : Rdr} {f : Bs} (h : (∃ x ∈ R.file.specials, x ≠ 0) ∨ [65, 70] ∈ R.heads ∨ R.file.classes ≠ []) : doKind R f = .error (R.line, 113) := by unfold doKind; rw [if_pos h]
theorem doKind_k {R : Rdr} {f : Bs} (h : ¬ ((∃ x ∈ R.file.specials, x ≠ 0) ∨ [65, 70] ∈ R.heads ∨ R.file.classes ≠ [])) : doKind R f = if f = [115, 104, 111, 114, 116] then .ok { R with file := { R.file with kind := 1 } } else if f = [108, 111, 110, 103] then .ok { R with file := { R.file with kind := 2 } } else if f = [110, 117, 109] then .ok { R with file := { R.file with kind := 3 } } else .error (R.line, 114) := by unfold doKind; rw [if_neg h]
theorem readKind_any {B rb : Nat} {R : Rdr} {P : Pts} {w : World} (h : RAt B w rb R P) (k : Value) (hd : List Bs) (hv : Value) (hrow : StrRow B w hv (hd.map Fld.str)) (hlen : hd.length = 2) :
  Calls Tryz.prog 73 #[ptr rb, hv, k] w (Res B rb P w (doKind R (fld hd 1))) := by
 obtain ⟨d0, -, hl, -, -, -, -⟩ := h.cells
 have hb := h.lt
 have hfb := h.file.lt
 obtain ⟨g, cap, rfl, hg, h1, h2, -, hcl⟩ := str_cells hrow
 unfold maxLen at h2
 have q1 := hcl 1 _ (fld_get (by omega))
 obtain ⟨s0, s1, s2, s3, s4, hsp⟩ := five h.file.ok.spec
 obtain ⟨k3, k4, k5, k6, k7, k0, k11, kz⟩ : w.cell? ⟨P.fb, 3, none⟩ = some (.int .u16 s0) ∧ w.cell? ⟨P.fb, 4, none⟩ = some (.int .u16 s1) ∧ w.cell? ⟨P.fb, 5, none⟩ = some (.int .u16 s2) ∧ w.cell? ⟨P.fb, 6, none⟩ = some (.int .u16 s3) ∧ w.cell? ⟨P.fb, 7, none⟩ = some (.int .u16 s4) ∧ w.cell? ⟨P.fb, 0, none⟩ = some (.int .i64 R.file.kind) ∧ w.cell? ⟨P.fb, 11, none⟩ = some P.vc ∧ ∀ j, w.frozen? ⟨P.fb, j, none⟩ = false := by
  have := h.file.fil
  refine ⟨?_, ?_, ?_, ?_, ?_, ?_, ?_, fun j => ?_⟩ <;> simp [World.cell?, World.frozen?, this, filC, hsp]
 obtain ⟨ac, cc, ec, -, -⟩ := own_len h.file.clss
 rw [ec] at k11
 have HST := hide (stood_any h (⟨#[65, 70]⟩ : ByteArray) (by decide))
 have HKT : Hid (∀ w, Kt B P.pm P.hm w w) := fun w => Kt.refl _ _ _ _
 have HVO := hide (leaveIf_no rb R.line 113 w (by decide) (by decide) hl)
 have HVV := hide (leave_no rb R.line 114 w (by decide) (by decide) hl)
 have h5 := eq5 s0 s1 s2 s3 s4
 have e1 : (Fld.str (fld hd 1)).toList = fld hd 1 := by rw [Lib.toList_data]; simp [Fld.str]
 rw [hlen] at h1 ⊢
 clear hcl hrow hlen ec hl
 have hz : (∃ x ∈ R.file.specials, x ≠ 0) ↔ ¬ (s0 = 0 ∧ s1 = 0 ∧ s2 = 0 ∧ s3 = 0 ∧ s4 = 0) := by
  rw [hsp]
  simp only [List.mem_cons, List.not_mem_nil, or_false]
  constructor
  ·rintro ⟨x, hx, hn⟩ ⟨a, b, c, d, e⟩
   rcases hx with rfl | rfl | rfl | rfl | rfl
   ·exact hn a
   ·exact hn b
   ·exact hn c
   ·exact hn d
   ·exact hn e
  ·intro hn
   by_cases a : s0 = 0
   ·by_cases b : s1 = 0
    ·by_cases c : s2 = 0
     ·by_cases d : s3 = 0
      ·exact ⟨s4, by simp, fun e => hn ⟨a, b, c, d, e⟩⟩
      ·exact ⟨s3, by simp, d⟩
     ·exact ⟨s2, by simp, c⟩
    ·exact ⟨s1, by simp, b⟩
   ·exact ⟨s0, by simp, a⟩
 by_cases hall : s0 = 0 ∧ s1 = 0 ∧ s2 = 0 ∧ s3 = 0 ∧ s4 = 0
 ·simp only [decide_eq_true hall] at h5
  by_cases hst : [65, 70] ∈ R.heads
  ·have HX := hide (doKind_o (f := fld hd 1) (.inr (.inl hst)))
   rw [decide_eq_true hst] at HST
   clear hz hall hst h e1 hsp
   generalize Fld.str (fld hd 1) = r1 at *
   go_enter Tryz.func73, Tryz.ntmps73
   go_wp2_with (first | (go_at_call 83; refine (unhide HST).mono ?_; rintro e w2 ⟨rfl, rfl⟩) | (go_at_call 82; refine (unhide HVO).mono ?_; rintro e w3 ⟨rfl, rfl⟩))
   exact ⟨rfl, Res.no (unhide HX) (unhide HKT _)⟩
  ·rw [decide_eq_false hst] at HST
   by_cases hc : R.file.classes = []
   ·have HKK := doKind_k (R := R) (f := fld hd 1) (by rw [hz]; simp [hall, hst, hc])
    have hc0 : R.file.classes.length = 0 := by rw [hc]; rfl
    rw [hc0] at k11
    have HL := hide (fun W => leaveIf_ok (ptr rb) 113 W)
    have ok := h.file.ok
    clear hz hall hst hc hc0 hsp
    by_cases t0 : fld hd 1 = [115, 104, 111, 114, 116]
    ·rw [if_pos t0] at HKK
     have b0 : ((Fld.str (fld hd 1)).toList == [115, 104, 111, 114, 116]) = true := by rw [e1]; simpa using t0
     have HX := hide HKK
     have HF := hide (h.fset (Below.refl _ w) (F' := { R.file with kind := 1 }) 0 (.int .i64 1) rfl rfl rfl rfl rfl ⟨.inl rfl, ok.spec, ok.specB, ok.cls, ok.reps, ok.ali, ok.aliS, ok.rul, ok.len⟩)
     clear HKK t0 e1 h ok
     generalize Fld.str (fld hd 1) = r1 at *
     go_enter Tryz.func73, Tryz.ntmps73
     go_wp2_with (first | (go_at_call 83; refine (unhide HST).mono ?_; rintro e w2 ⟨rfl, rfl⟩) | (go_at_call 82; with_reducible (show Calls _ _ #[_, .bool false, _] _ _); refine (unhide HL _).mono ?_; rintro e w3 ⟨rfl, rfl⟩))
     first | go_end0 | refine bodyPost_ret (results_none rfl _ _ _) rfl ?_
     exact Res.yes (unhide HX) (unhide HF).2 (unhide HF).1 rfl rfl rfl
    ·by_cases t1 : fld hd 1 = [108, 111, 110, 103]
     ·rw [if_neg t0, if_pos t1] at HKK
      have b0 : ((Fld.str (fld hd 1)).toList == [115, 104, 111, 114, 116]) = false := by rw [e1]; simpa using t0
      have b1 : ((Fld.str (fld hd 1)).toList == [108, 111, 110, 103]) = true := by rw [e1]; simpa using t1
      have HX := hide HKK
      have HF := hide (h.fset (Below.refl _ w) (F' := { R.file with kind := 2 }) 0 (.int .i64 2) rfl rfl rfl rfl rfl ⟨.inr (.inl rfl), ok.spec, ok.specB, ok.cls, ok.reps, ok.ali, ok.aliS, ok.rul, ok.len⟩)
      clear HKK t0 t1 e1 h ok
      generalize Fld.str (fld hd 1) = r1 at *
      go_enter Tryz.func73, Tryz.ntmps73
      go_wp2_with (first | (go_at_call 83; refine (unhide HST).mono ?_; rintro e w2 ⟨rfl, rfl⟩) | (go_at_call 82; with_reducible (show Calls _ _ #[_, .bool false, _] _ _); refine (unhide HL _).mono ?_; rintro e w3 ⟨rfl, rfl⟩))
      first | go_end0 | refine bodyPost_ret (results_none rfl _ _ _) rfl ?_
      exact Res.yes (unhide HX) (unhide HF).2 (unhide HF).1 rfl rfl rfl
     ·by_cases t2 : fld hd 1 = [110, 117, 109]
      ·rw [if_neg t0, if_neg t1, if_pos t2] at HKK
       have b0 : ((Fld.str (fld hd 1)).toList == [115, 104, 111, 114, 116]) = false := by rw [e1]; simpa using t0
       have b1 : ((Fld.str (fld hd 1)).toList == [108, 111, 110, 103]) = false := by rw [e1]; simpa using t1
       have b2 : ((Fld.str (fld hd 1)).toList == [110, 117, 109]) = true := by rw [e1]; simpa using t2
       have HX := hide HKK
       have HF := hide (h.fset (Below.refl _ w) (F' := { R.file with kind := 3 }) 0 (.int .i64 3) rfl rfl rfl rfl rfl ⟨.inr (.inr rfl), ok.spec, ok.specB, ok.cls, ok.reps, ok.ali, ok.aliS, ok.rul, ok.len⟩)
       clear HKK t0 t1 t2 e1 h ok
       generalize Fld.str (fld hd 1) = r1 at *
       go_enter Tryz.func73, Tryz.ntmps73
       go_wp2_with (first | (go_at_call 83; refine (unhide HST).mono ?_; rintro e w2 ⟨rfl, rfl⟩) | (go_at_call 82; with_reducible (show Calls _ _ #[_, .bool false, _] _ _); refine (unhide HL _).mono ?_; rintro e w3 ⟨rfl, rfl⟩))
       first | go_end0 | refine bodyPost_ret (results_none rfl _ _ _) rfl ?_
       exact Res.yes (unhide HX) (unhide HF).2 (unhide HF).1 rfl rfl rfl
      ·rw [if_neg t0, if_neg t1, if_neg t2] at HKK
       have b0 : ((Fld.str (fld hd 1)).toList == [115, 104, 111, 114, 116]) = false := by rw [e1]; simpa using t0
       have b1 : ((Fld.str (fld hd 1)).toList == [108, 111, 110, 103]) = false := by rw [e1]; simpa using t1
       have b2 : ((Fld.str (fld hd 1)).toList == [110, 117, 109]) = false := by rw [e1]; simpa using t2
       have HX := hide HKK
       clear HKK t0 t1 t2 e1 h ok
       generalize Fld.str (fld hd 1) = r1 at *
       go_enter Tryz.func73, Tryz.ntmps73
       go_wp2_with (first | (go_at_call 83; refine (unhide HST).mono ?_; rintro e w2 ⟨rfl, rfl⟩) | (go_at_call 82; with_reducible (show Calls _ _ #[_, .bool false, _] _ _); refine (unhide HL _).mono ?_; rintro e w3 ⟨rfl, rfl⟩) | (go_at_call 72; refine (unhide HVV).mono ?_; rintro e w4 ⟨rfl, rfl⟩))
       exact ⟨rfl, Res.no (unhide HX) (unhide HKT _)⟩
   ·have HX := hide (doKind_o (f := fld hd 1) (.inr (.inr hc)))
    have hcp : 0 < R.file.classes.length := List.length_pos_iff.2 hc
    have hci : (0 : Int) < (R.file.classes.length : Int) := by omega
    clear hz hall hst h e1 hsp hc
    generalize Fld.str (fld hd 1) = r1 at *
    go_enter Tryz.func73, Tryz.ntmps73
    go_wp2_with (first | (go_at_call 83; refine (unhide HST).mono ?_; rintro e w2 ⟨rfl, rfl⟩) | (go_at_call 82; with_reducible (show Calls _ _ #[_, .bool true, _] _ _); refine (unhide HVO).mono ?_; rintro e w3 ⟨rfl, rfl⟩))
    exact ⟨rfl, Res.no (unhide HX) (unhide HKT _)⟩
 ·have HX := hide (doKind_o (f := fld hd 1) (.inl (hz.2 hall)))
  simp only [decide_eq_false hall] at h5
  clear hz hall h e1 hsp
  generalize Fld.str (fld hd 1) = r1 at *
  go_enter Tryz.func73, Tryz.ntmps73
  go_wp2_with (go_at_call 82; refine (unhide HVO).mono ?_; rintro e w3 ⟨rfl, rfl⟩)
  exact ⟨rfl, Res.no (unhide HX) (unhide HKT _)⟩
theorem goesOn_none {F : Fil} {x s : Int} (h : findC F.classes x = none) (hs : F.specials[0]? = some s) : goesOn F x = decide (x = s) := by
 unfold goesOn
 rw [h, hs]
 by_cases e : x = s <;> simp [e]
theorem goesOn_suf {F : Fil} {x : Int} {i : Nat} {c : Cls} (h : findC F.classes x = some i) (hc : F.classes[i]? = some c) (hk : c.kind = 2) : goesOn F x = true := by
 unfold goesOn
 rw [h]
 simp [hc, hk]
theorem goesOn_pre {F : Fil} {x s : Int} {i : Nat} {c : Cls} (h : findC F.classes x = some i) (hc : F.classes[i]? = some c) (hk : c.kind ≠ 2) (hs : F.specials[0]? = some s) : goesOn F x = decide (x = s) := by
 unfold goesOn
 rw [h, hs]
 by_cases e : x = s <;> simp [hc, hk, e]
theorem cannot_any {B rb : Nat} {R : Rdr} {P : Pts} {w : World} (h : RAt B w rb R P) (x : Int) (h0 : 0 ≤ x) (h1 : x ≤ 65535) :
  Calls Tryz.prog 85 #[ptr rb, .int .u16 x] w fun e w' => e = .returned (.bool (!goesOn R.file x)) ∧ Below w.heap.size w w' := by
 obtain ⟨d0, -, -, -, -, -, -⟩ := h.cells
 have hb := h.lt
 obtain ⟨s0, s1, s2, s3, s4, hsp⟩ := five h.file.ok.spec
 have hs0 : R.file.specials[0]? = some s0 := by rw [hsp]; rfl
 have HC : Hid (∀ w0, Below w.heap.size w w0 → w0.cell? ⟨rb, 0, none⟩ = some (.pointer (some ⟨P.fb, 0, none⟩)) ∧ w0.cell? ⟨P.fb, 3, none⟩ = some (.int .u16 s0) ∧ rb < w0.heap.size ∧ P.fb < w0.heap.size) := fun w0 b => by
  have hh := h.below b
  have := hh.file.fil
  exact ⟨hh.cells.1, by simp [World.cell?, this, filC, hsp], hh.lt, hh.file.lt⟩
 cases hf : findC R.file.classes x with
 | none =>
  rw [goesOn_none hf hs0]
  have HCL := hide (class_none h.file x h0 h1 hf)
  unfold noC at HCL
  clear h hf hsp hs0
  go_enter Tryz.func85, Tryz.ntmps85
  go_wp2_with (go_at_call 68; refine (unhide HCL).mono ?_; rintro e w2 ⟨rfl, b2⟩; obtain ⟨f1, f2, f3, f4⟩ := unhide HC _ b2; have HB2 := hide b2; have hsz := b2.size; clear b2)
  go_ret
  refine ⟨?_, (unhide HB2).alloc hsz _⟩
  by_cases e : x = s0 <;> simp [e]
 | some i =>
  obtain ⟨c, hc, -⟩ := findC_get hf
  have HCL := hide (class_some h.file x h0 h1 hf hc)
  unfold clsV at HCL
  by_cases hk : c.kind = 2
  ·rw [goesOn_suf hf hc hk]
   have hkb : (c.kind == 2) = true := by simpa using hk
   clear h hf hsp hs0 hc hk
   go_enter Tryz.func85, Tryz.ntmps85
   go_wp2_with (go_at_call 68; refine (unhide HCL).mono ?_; rintro e w2 ⟨rfl, b2⟩; obtain ⟨f1, f2, f3, f4⟩ := unhide HC _ b2; have HB2 := hide b2; have hsz := b2.size; clear b2)
   go_ret
   exact ⟨rfl, (unhide HB2).alloc hsz _⟩
  ·rw [goesOn_pre hf hc hk hs0]
   have hkb : (c.kind == 2) = false := by simpa using hk
   clear h hf hsp hs0 hc hk
   go_enter Tryz.func85, Tryz.ntmps85
   go_wp2_with (go_at_call 68; refine (unhide HCL).mono ?_; rintro e w2 ⟨rfl, b2⟩; obtain ⟨f1, f2, f3, f4⟩ := unhide HC _ b2; have HB2 := hide b2; have hsz := b2.size; clear b2)
   go_ret
   refine ⟨?_, (unhide HB2).alloc hsz _⟩
   by_cases e : x = s0 <;> simp [e]
theorem indexFunc_any {B rb : Nat} {R : Rdr} {P : Pts} {w : World} (h : RAt B w rb R P) (v : Value) (l : List Int) (hA : So.FArg w v l) (hbd : ∀ x ∈ l, 0 ≤ x ∧ x ≤ 65535) :
  Calls Tryz.prog 107 #[v, .func (.func 85) #[ptr rb] #[]] w fun e w' => (∃ q : Int, e = .returned (.int .i64 q) ∧ (decide (0 ≤ q)) = !(l.all (goesOn R.file))) ∧ Below w.heap.size w w' := by
 have HA := hide hA
 obtain ⟨ao, cap, rfl, hl1, hl2, -, hat⟩ := hA
 unfold maxLen at hl2
 rcases Nat.eq_zero_or_pos l.length with hz | hpos
 ·have hl0 : l = [] := List.length_eq_zero_iff.1 hz
  rw [hz]
  subst hl0
  clear hbd HA hat hl1
  have hltz : ¬ (0 : Int) < 0 := by omega
  go_enter Tryz.func107, Tryz.ntmps107
  go_wp2
  go_loopw [8] (fun s8 wr => s8 = .int .i64 0 ∧ wr = w) (fun _ _ => 0)
  case atStart => exact ⟨rfl, rfl⟩
  case round =>
   obtain ⟨rfl, rfl⟩ := hrel
   go_wp2
   go_ret
   exact ⟨⟨_, rfl, by simp⟩, Below.refl _ _⟩
 obtain ⟨g, off, rfl, hg0, -⟩ := hat hpos
 obtain ⟨n, hn⟩ : ∃ n, l.length = n := ⟨_, rfl⟩
 have HN := hide hn
 have HBD := hide hbd
 have HG := hide (fun W (b : Below w.heap.size w W) x h0 h1 => cannot_any (h.below b) x h0 h1)
 rw [hn] at hl1 ⊢
 clear hn hbd h
 go_enter Tryz.func107, Tryz.ntmps107
 go_wp2
 go_loopw [8] (fun s8 wr => ∃ j : Nat, s8 = .int .i64 j ∧ j ≤ n ∧ Hid (Below w.heap.size w wr ∧ (l.take j).all (goesOn R.file) = true)) (fun s8 _ => n - (intOf s8).toNat)
 case atStart => exact ⟨0, rfl, Nat.zero_le _, ⟨Below.refl _ _, by simp⟩⟩
 case round =>
  obtain ⟨j, rfl, hj, HR⟩ := hrel
  by_cases hlt : j < n
  ·have hltz : (j : Int) < (n : Int) := by omega
   have hj0 : 0 ≤ (j : Int) := by omega
   obtain ⟨y, hy⟩ : ∃ y, l[j]? = some y := ⟨_, List.getElem?_eq_getElem (by rw [unhide HN]; exact hlt)⟩
   obtain ⟨ao', cap', e1, -, -, -, hc⟩ := (unhide HA).below (unhide HR).1
   obtain ⟨g', off', e2, hg, hcc⟩ := hc (by rw [unhide HN]; omega)
   have hcy : wr.cell? ⟨g, off + j, none⟩ = some (So.encF y) := by
    have := hcc j y hy
    rw [e2] at e1
    injection e1 with e1 _ _
    injection e1 with e1
    injection e1 with e3 e4 _
    rw [← e3, ← e4] at this
    exact this
   clear e1 e2 hg
   obtain ⟨y0, y1⟩ := unhide HBD y (List.mem_of_getElem? hy)
   have HC := hide (unhide HG _ (unhide HR).1 y y0 y1)
   have HT : Hid ((l.take (j + 1)).all (goesOn R.file) = ((l.take j).all (goesOn R.file) && goesOn R.file y)) := by
    rw [Hid, List.take_succ_eq_append_getElem (by rw [unhide HN]; exact hlt), (List.getElem?_eq_some_iff.1 hy).2, List.all_append]
    simp
   unfold So.encF at hcy
   have HY := hide hy
   clear hc hcc hy y0 y1
   cases hgo : goesOn R.file y with
   | true =>
    rw [hgo] at HC HT
    clear hgo
    go_wp2_with (go_at_call 85; refine (unhide HC).mono ?_; rintro e w2 ⟨rfl, b2⟩; have HB2 := hide (btr (unhide HR).1 b2); clear b2)
    go_roundw
    case rel => exact ⟨j + 1, by go_num, by omega, ⟨unhide HB2, by rw [unhide HT, (unhide HR).2]; rfl⟩⟩
    case measure => simp [intOf]; omega
   | false =>
    rw [hgo] at HC
    have HAL : Hid (l.all (goesOn R.file) = false) := by
     rw [Hid, List.all_eq_false]
     exact ⟨y, List.mem_of_getElem? (unhide HY), by rw [hgo]; decide⟩
    clear hgo
    go_wp2_with (go_at_call 85; refine (unhide HC).mono ?_; rintro e w2 ⟨rfl, b2⟩; have HB2 := hide (btr (unhide HR).1 b2); clear b2)
    go_ret
    exact ⟨⟨_, rfl, by rw [unhide HAL]; simp⟩, unhide HB2⟩
  ·obtain rfl : j = n := by omega
   have hltz : ¬ (j : Int) < (j : Int) := by omega
   have HAL : Hid (l.all (goesOn R.file) = true) := by
    have := (unhide HR).2
    rwa [List.take_of_length_le (Nat.le_of_eq (unhide HN))] at this
   go_wp2
   go_ret
   exact ⟨⟨_, rfl, by rw [unhide HAL]; decide⟩, (unhide HR).1⟩
theorem containsFunc_any {B rb : Nat} {R : Rdr} {P : Pts} {w : World} (h : RAt B w rb R P) (v : Value) (l : List Int) (hA : So.FArg w v l) (hbd : ∀ x ∈ l, 0 ≤ x ∧ x ≤ 65535) :
  Calls Tryz.prog 84 #[v, .func (.func 85) #[ptr rb] #[]] w fun e w' => e = .returned (.bool (!(l.all (goesOn R.file)))) ∧ Below w.heap.size w w' := by
 have HI := hide (indexFunc_any h v l hA hbd)
 clear h hA hbd
 generalize (!(l.all (goesOn R.file))) = b at *
 go_enter Tryz.func84, Tryz.ntmps84
 go_wp2_with (go_at_call 107; refine (unhide HI).mono ?_; rintro e w2 ⟨⟨q, rfl, hq⟩, b2⟩; have HQ := hide hq; have HB := hide b2; clear hq b2)
 go_ret
 exact ⟨by rw [← unhide HQ]; first | rfl | (simp; done) | (congr), unhide HB⟩
end Af
end Go.Proofs.YtidhbhdcoanfcaaGreatDoor
