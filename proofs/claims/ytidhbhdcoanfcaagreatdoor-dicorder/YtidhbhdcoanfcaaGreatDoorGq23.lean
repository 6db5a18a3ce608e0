import Derived.Test.YtidhbhdcoanfcaaGreatDoorGq22
import Derived.Test.YtidhbhdcoanfcaaGreatDoorShAl2
set_option maxHeartbeats 8000000
set_option maxRecDepth 100000
namespace Go.Proofs
open Go.Shelf
def Tryz.laysCf_ren : Go.Shelf.Ren := ⟨fun | 29 => 116 | 31 => 94 | n => n, fun | 0 => 0 | 3 => 3 | 4 => 4 | 22 => 54 | 23 => 36 | n => n, fun | n => n⟩
theorem Tryz.laysCf : Go.Proofs.SlLaysE.n31 Tryz.prog Tryz.laysCf_ren := {
 mixed := by kernel_rfl
 f29 := ⟨"slices.Index[[]hornbook/api.Flag,hornbook/api.Flag]", by decide, Tryz.func116.trans (congrArg some (by kernel_rfl))⟩
 f31 := ⟨"slices.Contains[[]hornbook/api.Flag,hornbook/api.Flag]", by decide, Tryz.func94.trans (congrArg some (by kernel_rfl))⟩
 t0 := Tryz.underlying0
 a0 := Tryz.isAgg0
 z0 := Tryz.sizeOf0
 v0 := Tryz.zeroValue0
 t3 := Tryz.underlying3
 a3 := Tryz.isAgg3
 z3 := Tryz.sizeOf3
 v3 := Tryz.zeroValue3
 t4 := Tryz.underlying4
 a4 := Tryz.isAgg4
 z4 := Tryz.sizeOf4
 v4 := Tryz.zeroValue4
 t22 := Tryz.underlying54
 a22 := Tryz.isAgg54
 z22 := Tryz.sizeOf54
 v22 := Tryz.zeroValue54
 a23 := Tryz.isAgg36
 z23 := Tryz.sizeOf36 }
open Go.RowKit Go.Lib Go.Sort in
theorem Tryz.flags_Contains (b off n c : Nat) (zs : List Int) (x : Int) (w : World) (hz : n ≤ zs.length) (hbig : n ≤ 9223372036854775807) (hc : ∀ j, j < zs.length → w.cell? ⟨b, off + j, none⟩ = some (.int .u16 zs[j]!)) :
  Calls Tryz.prog 94 #[.slice (some ⟨b, off, none⟩) n c, .int .u16 x] w fun e w' => e = .returned (.bool ((zs.take n).any fun y => decide (x = y))) ∧ w' = w :=
 AnyE.slices_Contains Tryz.laysCf (Value.int .u16) (fun x y => decide (x = y)) (EqlAt.intD _ _ .u16) b off n c zs x w hz hbig hc
end Go.Proofs
namespace Go.Proofs.YtidhbhdcoanfcaaGreatDoor
open Go.RowKit
namespace Af
open RowB
theorem below_drewN (B : Nat) (w : World) (m : Nat) : Below B w (w.drewN m) := ⟨rfl, rfl, rfl, Nat.le_refl _, fun _ _ => rfl⟩
def flgV (x : Int) : Value := .int .u16 x
theorem newFlag_bad {R : Rdr} {f : Bs} (h : One.oneE R.file.kind f ≠ 0) : newFlag R f = .error (R.line, (One.oneE R.file.kind f).toNat) := by unfold newFlag; rw [if_pos h]
theorem newFlag_taken {R : Rdr} {f : Bs} (h : One.oneE R.file.kind f = 0) (h2 : One.oneF R.file.kind f ∈ R.file.specials) : newFlag R f = .error (R.line, 115) := by unfold newFlag; rw [if_neg (fun e => e h), if_pos (.inr h2)]
theorem newFlag_ok {R : Rdr} {f : Bs} (h : One.oneE R.file.kind f = 0) (h2 : findC R.file.classes (One.oneF R.file.kind f) = none) (h3 : One.oneF R.file.kind f ∉ R.file.specials) : newFlag R f = .ok (One.oneF R.file.kind f) := by
 unfold newFlag
 rw [if_neg (fun e => e h), if_neg (by rw [h2]; simp [h3])]
theorem oneE_pos (k : Int) (f : Bs) : 0 ≤ One.oneE k f := by
 unfold One.oneE
 split
 ·split <;> omega
 ·omega
theorem FAt.spec {B : Nat} {w : World} {F : Fil} {P : Pts} (h : FAt B w F P) : ∀ j, j < F.specials.length → w.cell? ⟨P.fb, 3 + j, none⟩ = some (.int .u16 F.specials[j]!) := by
 intro j hj
 have h5 := h.ok.spec
 have hf := h.fil
 obtain ⟨a, b, c, d, e, he⟩ : ∃ a b c d e, F.specials = [a, b, c, d, e] := by
  match F.specials, h5 with
  | [a, b, c, d, e], _ => exact ⟨a, b, c, d, e, rfl⟩
 rw [he] at hj ⊢
 simp only [filC, he] at hf
 match j, hj with
 | 0, _ => simp [World.cell?, hf]
 | 1, _ => simp [World.cell?, hf]
 | 2, _ => simp [World.cell?, hf]
 | 3, _ => simp [World.cell?, hf]
 | 4, _ => simp [World.cell?, hf]
theorem any_mem (l : List Int) (x : Int) : ((l.take 5).any fun y => decide (x = y)) = decide (x ∈ l.take 5) := by
 rw [Bool.eq_iff_iff]
 simp
theorem newFlag_any {B rb : Nat} {R : Rdr} {P : Pts} {w : World} (h : RAt B w rb R P) (s : ByteArray) (hs : s.size ≤ 65536) (hn : findC R.file.classes (One.oneF R.file.kind s.data.toList) = none) (hb0 : 0 ≤ One.oneF R.file.kind s.data.toList) (hb1 : One.oneF R.file.kind s.data.toList ≤ 65535) :
  Calls Tryz.prog 100 #[ptr rb, .string s] w fun e w' => e = endX flgV (newFlag R s.data.toList) ∧ Below w.heap.size w w' := by
 obtain ⟨d0, -, dl, -, -, -, -⟩ := h.cells
 obtain ⟨k0, -, -, -, -, -, kz⟩ := h.file.cells
 have hlt := h.lt
 have hfl := h.file.lt
 have HO := hide (One.one_any R.file.kind s w (by unfold maxLen; omega))
 by_cases he : One.oneE R.file.kind s.data.toList = 0
 ·rw [he] at HO
  have HL := hide (fun W => leave_ok (ptr rb) W)
  have HC := hide (fun m => class_none (h.file.below (w' := w.drewN m) (below_drewN _ w m)) _ hb0 hb1 hn)
  have h5 := h.file.ok.spec
  have HK := hide (fun W (b : Below w.heap.size w W) => Tryz.flags_Contains P.fb 3 5 5 R.file.specials (One.oneF R.file.kind s.data.toList) W (by omega) (by omega) (fun j hj => (b.cell (p := ⟨P.fb, 3 + j, none⟩) hfl).trans (h.file.spec j hj)))
  rw [any_mem, List.take_of_length_le (Nat.le_of_eq h5)] at HK
  have hb5 : Below w.heap.size w w := Below.refl _ w
  by_cases hin : One.oneF R.file.kind s.data.toList ∈ R.file.specials
  ·rw [decide_eq_true hin] at HK
   rw [newFlag_taken he hin]
   have HV := hide (fun W (b : Below w.heap.size w W) => leaveIf_no rb R.line 115 W (by decide) (by decide) (lineB dl hlt b))
   clear h hn hb0 hb1 he hs hin h5 hb5 kz dl
   generalize One.oneF R.file.kind s.data.toList = x at *
   go_enter Tryz.func100, Tryz.ntmps100
   go_wp2_with (first | (go_at_call 130; refine (unhide HO).mono ?_; rintro e w2 ⟨rfl, m, rfl⟩) | (go_at_call 72; refine (unhide HL _).mono ?_; rintro e w3 ⟨rfl, rfl⟩))
   refine (unhide HC m).mono ?_
   rintro e w3 ⟨rfl, b3⟩
   have b4 : Below w.heap.size w w3 := (below_drewN w.heap.size w m).trans b3
   have e0 := (b4.cell (p := ⟨rb, 0, none⟩) hlt).trans d0
   have hsz := b4.size
   have hlt3 : rb < w3.heap.size := by omega
   have HB4 := hide b4
   clear b3 b4 d0 k0
   unfold noC
   go_wp2_with fail
   have b5 := (unhide HB4).alloc hsz (.cells #[.int .u16 0, .int .i64 0, .bool false, .int .i64 0, .int .i64 0] 94)
   refine (unhide HK _ b5).mono ?_
   rintro e w5 ⟨rfl, rfl⟩
   go_wp2_with fail
   refine (unhide HV _ b5).mono ?_
   rintro e w6 ⟨rfl, rfl⟩
   exact ⟨rfl, rfl, b5⟩
  ·rw [decide_eq_false hin] at HK
   rw [newFlag_ok he hn hin]
   have HV := hide (fun W => leaveIf_ok (ptr rb) 115 W)
   clear h hn hb0 hb1 he hs hin h5 hb5 kz dl
   generalize One.oneF R.file.kind s.data.toList = x at *
   go_enter Tryz.func100, Tryz.ntmps100
   go_wp2_with (first | (go_at_call 130; refine (unhide HO).mono ?_; rintro e w2 ⟨rfl, m, rfl⟩) | (go_at_call 72; refine (unhide HL _).mono ?_; rintro e w3 ⟨rfl, rfl⟩))
   refine (unhide HC m).mono ?_
   rintro e w3 ⟨rfl, b3⟩
   have b4 : Below w.heap.size w w3 := (below_drewN w.heap.size w m).trans b3
   have e0 := (b4.cell (p := ⟨rb, 0, none⟩) hlt).trans d0
   have hsz := b4.size
   have hlt3 : rb < w3.heap.size := by omega
   have HB4 := hide b4
   clear b3 b4 d0 k0
   unfold noC
   go_wp2_with fail
   have b5 := (unhide HB4).alloc hsz (.cells #[.int .u16 0, .int .i64 0, .bool false, .int .i64 0, .int .i64 0] 94)
   refine (unhide HK _ b5).mono ?_
   rintro e w5 ⟨rfl, rfl⟩
   go_wp2_with fail
   refine (unhide HV _).mono ?_
   rintro e w6 ⟨rfl, rfl⟩
   go_wp2
   go_ret
   exact ⟨rfl, b5⟩
 ·rw [newFlag_bad he]
  have HV := hide (fun m => leave_no rb R.line _ (w.drewN m) he (oneE_pos _ _) (lineB dl hlt (below_drewN _ w m)))
  clear h hn hb0 hb1 he hs hfl kz
  generalize One.oneE R.file.kind s.data.toList = cd at *
  go_enter Tryz.func100, Tryz.ntmps100
  go_wp2_with (first | (go_at_call 130; refine (unhide HO).mono ?_; rintro e w2 ⟨rfl, m, rfl⟩) | (go_at_call 72; refine (unhide HV _).mono ?_; rintro e w3 ⟨rfl, rfl⟩))
  exact ⟨rfl, rfl, below_drewN _ w m⟩
def WT : List TypeId := [88, 97, 90, 54, 94, 79, 3]
structure Kt (B pm hm : Nat) (w w' : World) : Prop where
 low : Below B w w'
 cells : ∀ (g : Nat) (cur : Array Value) (t : TypeId) (fz : Nat × Nat), w.heap[g]? = some (.cells cur t fz) → t ∉ WT → w'.heap[g]? = w.heap[g]?
 maps : ∀ (g : Nat) es c, w.heap[g]? = some (.map es c) → g ≠ pm → g ≠ hm → w'.heap[g]? = w.heap[g]?
theorem Kt.refl (B pm hm : Nat) (w : World) : Kt B pm hm w w := ⟨Below.refl _ _, fun _ _ _ _ _ _ => rfl, fun _ _ _ _ _ _ => rfl⟩
theorem Kt.trans {B pm hm : Nat} {a b c : World} (h : Kt B pm hm a b) (k : Kt B pm hm b c) : Kt B pm hm a c :=
 ⟨h.low.trans k.low, fun g cur t fz e n => (k.cells g cur t fz ((h.cells g cur t fz e n).trans e) n).trans (h.cells g cur t fz e n), fun g es c e n1 n2 => (k.maps g es c ((h.maps g es c e n1 n2).trans e) n1 n2).trans (h.maps g es c e n1 n2)⟩
theorem lt_some {w : World} {g : Nat} {o : Obj} (h : w.heap[g]? = some o) : g < w.heap.size := (Array.getElem?_eq_some_iff.1 h).1
theorem Kt.of_below {B pm hm : Nat} {a b : World} (h : Below a.heap.size a b) (hB : B ≤ a.heap.size) : Kt B pm hm a b :=
 ⟨h.mono hB, fun g _ _ _ e _ => h.block g (lt_some e), fun g _ _ e _ _ => h.block g (lt_some e)⟩
theorem Kt.of_kp {B pm hm g0 : Nat} {a b : World} {cs : Array Value} {t : TypeId} {fz : Nat × Nat} (h : Kp g0 a b) (l : Below B a b) (h0 : a.heap[g0]? = some (.cells cs t fz)) (ht : t ∈ WT) : Kt B pm hm a b :=
 ⟨l, fun g cur t' fz' e n => h.2 g (lt_some e) (by rintro rfl; rw [h0] at e; injection e with e; injection e with _ e _; subst e; exact n ht), fun g es c e _ _ => h.2 g (lt_some e) (by rintro rfl; rw [h0] at e; cases e)⟩
theorem Kt.str {B pm hm : Nat} {a b : World} {v : Value} {L : List ByteArray} {n : Nat} (h : Kt B pm hm a b) (hs : StrRow n a v L) : StrRow n b v L := str_kept hs fun g cur e => h.cells g cur 9 (0, 0) e (by decide)
def Res (B rb : Nat) (P : Pts) (w : World) (X : Except Er Rdr) (e : Ending) (w' : World) : Prop :=
 Kt B P.pm P.hm w w' ∧ match X with
 | .ok R' => e = .returned (.tuple #[]) ∧ ∃ P', RAt B w' rb R' P' ∧ P'.fb = P.fb ∧ P'.pm = P.pm ∧ P'.hm = P.hm
 | .error er => e = .panicked (chn er)
theorem Res.yes {B rb : Nat} {P P' : Pts} {w w' : World} {X : Except Er Rdr} {R' : Rdr} (hX : X = .ok R') (k : Kt B P.pm P.hm w w') (h : RAt B w' rb R' P') (e1 : P'.fb = P.fb) (e2 : P'.pm = P.pm) (e3 : P'.hm = P.hm) : Res B rb P w X (.returned (.tuple #[])) w' := by
 subst hX
 exact ⟨k, rfl, P', h, e1, e2, e3⟩
theorem Res.no {B rb : Nat} {P : Pts} {w w' : World} {X : Except Er Rdr} {er : Er} (hX : X = .error er) (k : Kt B P.pm P.hm w w') : Res B rb P w X (.panicked (chn er)) w' := by
 subst hX
 exact ⟨k, rfl⟩
theorem callOk {B rb : Nat} {P : Pts} {w : World} {X : Except Er Rdr} {R' : Rdr} {g : FuncId} {args : Array Value} (h : Calls Tryz.prog g args w (Res B rb P w X)) (hX : X = .ok R') : Calls Tryz.prog g args w fun e w' => e = .returned (.tuple #[]) ∧ Kt B P.pm P.hm w w' ∧ ∃ P', RAt B w' rb R' P' ∧ P'.fb = P.fb ∧ P'.pm = P.pm ∧ P'.hm = P.hm := by
 subst hX
 exact h.mono fun e w' ⟨k, q1, q2⟩ => ⟨q1, k, q2⟩
theorem callNo {B rb : Nat} {P : Pts} {w : World} {X : Except Er Rdr} {er : Er} {g : FuncId} {args : Array Value} (h : Calls Tryz.prog g args w (Res B rb P w X)) (hX : X = .error er) : Calls Tryz.prog g args w fun e w' => e = .panicked (chn er) ∧ Kt B P.pm P.hm w w' := by
 subst hX
 exact h.mono fun e w' ⟨k, q1⟩ => ⟨q1, k⟩
theorem RAt.kt {B rb : Nat} {R : Rdr} {P : Pts} {w w' : World} (h : RAt B w rb R P) (k : Kp rb w w') (l : Below B w w') : Kt B P.pm P.hm w w' := .of_kp k l h.rdr (by decide)
theorem RAt.base {B rb : Nat} {R : Rdr} {P : Pts} {w : World} (h : RAt B w rb R P) : B ≤ w.heap.size := Nat.le_trans h.rbB (Nat.le_of_lt h.lt)

theorem str_cells {n : Nat} {w : World} {v : Value} {L : List Bs} (h : StrRow n w v (L.map Fld.str)) : ∃ g cap, v = .slice (some ⟨g, 0, none⟩) L.length cap ∧ g < w.heap.size ∧ L.length ≤ cap ∧ cap ≤ maxLen ∧ (∃ cur, w.heap[g]? = some (.cells cur 9 (0, 0))) ∧ ∀ (j : Nat) x, L[j]? = some x → w.cell? ⟨g, j, none⟩ = some (.string (Fld.str x)) := by
 obtain ⟨g, cap, cur, e, hg, hh, h1, h2, h3, h4⟩ := h
 rw [List.length_map] at e h1 h4
 refine ⟨g, cap, e, lt_some hh, h1, h2, ⟨cur, hh⟩, fun j x hj => ?_⟩
 have hjl := (List.getElem?_eq_some_iff.1 hj).1
 have : (cur.toList.take L.length)[j]? = some (.string (Fld.str x)) := by
  rw [h4]
  simp [hj]
 rw [List.getElem?_take_of_lt hjl] at this
 simpa [World.cell?, hh] using this
theorem fstr_wd (l : Bs) : Fld.str l = Wd.str l := rfl
def GRes (B rb : Nat) (P : Pts) (w : World) (X : Except Er (List Bs × Rdr)) (e : Ending) (w' : World) : Prop :=
 Kp rb w w' ∧ Below B w w' ∧ match X with
 | .ok p => ∃ fv rv, e = .returned fv ∧ StrRow B w' fv (p.1.map Fld.str) ∧ RAt B w' rb p.2 { P with rv := rv }
 | .error er => e = .panicked (chn er)
theorem GRes.no {B rb : Nat} {P : Pts} {w w' : World} {X : Except Er (List Bs × Rdr)} {er : Er} (hX : X = .error er) (k : Kp rb w w') (l : Below B w w') : GRes B rb P w X (.panicked (chn er)) w' := by
 subst hX
 exact ⟨k, l, rfl⟩
theorem GRes.yes {B rb : Nat} {P : Pts} {w w' : World} {X : Except Er (List Bs × Rdr)} {row : List Bs} {R1 : Rdr} {fv rv : Value} (hX : X = .ok (row, R1)) (k : Kp rb w w') (l : Below B w w') (hs : StrRow B w' fv (row.map Fld.str)) (h : RAt B w' rb R1 { P with rv := rv }) : GRes B rb P w X (.returned fv) w' := by
 subst hX
 exact ⟨k, l, fv, rv, rfl, hs, h⟩
theorem gOk {B rb : Nat} {P : Pts} {w : World} {X : Except Er (List Bs × Rdr)} {row : List Bs} {R1 : Rdr} {g : FuncId} {args : Array Value} (h : Calls Tryz.prog g args w (GRes B rb P w X)) (hX : X = .ok (row, R1)) : Calls Tryz.prog g args w fun e w' => ∃ fv rv, e = .returned fv ∧ StrRow B w' fv (row.map Fld.str) ∧ RAt B w' rb R1 { P with rv := rv } ∧ Kp rb w w' ∧ Below B w w' := by
 subst hX
 exact h.mono fun e w' ⟨k, l, fv, rv, q1, q2, q3⟩ => ⟨fv, rv, q1, q2, q3, k, l⟩
theorem gNo {B rb : Nat} {P : Pts} {w : World} {X : Except Er (List Bs × Rdr)} {er : Er} {g : FuncId} {args : Array Value} (h : Calls Tryz.prog g args w (GRes B rb P w X)) (hX : X = .error er) : Calls Tryz.prog g args w fun e w' => e = .panicked (chn er) ∧ Kp rb w w' ∧ Below B w w' := by
 subst hX
 exact h.mono fun e w' ⟨k, l, q⟩ => ⟨q, k, l⟩
theorem grow_none {R : Rdr} {beg : List Bs} (h : R.rows = []) : grow R beg = .error (R.behind, 116) := by unfold grow; rw [h]
theorem grow_no {R : Rdr} {beg row : List Bs} {l : Nat} {t : List (Nat × List Bs)} (h : R.rows = (l, row) :: t) (hn : row.take beg.length ≠ beg) : grow R beg = .error (l, 116) := by unfold grow; rw [h]; simp [hn]
theorem grow_ok {R : Rdr} {beg row : List Bs} {l : Nat} {t : List (Nat × List Bs)} (h : R.rows = (l, row) :: t) (hn : row.take beg.length = beg) : grow R beg = .ok (row, { R with rows := t, line := l }) := by unfold grow; rw [h]; simp [hn]
theorem str_inj {a b : Bs} (h : Fld.str a = Fld.str b) : a = b := by
 have := congrArg (fun s : ByteArray => s.data.toList) h
 simpa [Fld.str] using this
theorem map_str_inj {a b : List Bs} (h : a.map Fld.str = b.map Fld.str) : a = b := by
 induction a generalizing b with
 | nil => cases b with
  | nil => rfl
  | cons x t => simp at h
 | cons y t ih => cases b with
  | nil => simp at h
  | cons x s =>
   simp only [List.map_cons, List.cons.injEq] at h
   rw [str_inj h.1, ih h.2]
theorem set_line {B rb : Nat} {R : Rdr} {P : Pts} {w : World} (h : RAt B w rb R P) (l : Nat) : LineAt (w.setCell ⟨rb, 2, none⟩ (.int .i64 (l : Nat))) rb l ∧ Kp rb w (w.setCell ⟨rb, 2, none⟩ (.int .i64 (l : Nat))) ∧ Below B w (w.setCell ⟨rb, 2, none⟩ (.int .i64 (l : Nat))) := by
 refine ⟨?_, kp_set w rb 2 _, (Below.refl B w).setCell (p := ⟨rb, 2, none⟩) h.rbB _⟩
 have := set_heap1 (k := 2) h.rdr (.int .i64 (l : Nat))
 simp [LineAt, World.cell?, this, rdrC]
theorem equal_any (gr cr gb cb : Nat) (row beg : List Bs) (w : World) (hle : beg.length ≤ row.length) (hmx : beg.length ≤ 9223372036854775807) (hc : ∀ (j : Nat) x, row[j]? = some x → w.cell? ⟨gr, j, none⟩ = some (.string (Fld.str x))) (hb : ∀ (j : Nat) x, beg[j]? = some x → w.cell? ⟨gb, j, none⟩ = some (.string (Fld.str x))) :
  Calls Tryz.prog 131 #[.slice (some ⟨gr, 0, none⟩) beg.length cr, .slice (some ⟨gb, 0, none⟩) beg.length cb] w fun e w' => e = .returned (.bool (decide (row.take beg.length = beg))) ∧ Below w.heap.size w w' := by
 have cl : ∀ (L : List Bs) (g : Nat), (∀ (j : Nat) x, L[j]? = some x → w.cell? ⟨g, j, none⟩ = some (.string (Fld.str x))) → ∀ j, j < (L.map Fld.str).length → w.cell? ⟨g, 0 + j, none⟩ = some (.string ((L.map Fld.str).getD j ByteArray.empty)) := by
  intro L g h j hj
  rw [List.length_map] at hj
  rw [Nat.zero_add, h j L[j] (List.getElem?_eq_getElem hj)]
  simp [hj]
 refine (Tryz.slices_Equal_string gr 0 beg.length cr gb 0 beg.length cb (row.map Fld.str) (beg.map Fld.str) w (by simpa using hle) (by simp) hmx hmx (cl row gr hc) (cl beg gb hb)).mono ?_
 rintro e w' ⟨rfl, q, rfl⟩
 refine ⟨?_, below_drewN _ w q⟩
 have : (List.take beg.length (List.map Fld.str row) = List.take beg.length (List.map Fld.str beg)) ↔ (row.take beg.length = beg) := by
  rw [show List.take beg.length (List.map Fld.str beg) = List.map Fld.str beg by rw [List.take_of_length_le (by simp)], ← List.map_take]
  exact ⟨map_str_inj, fun h => by rw [h]⟩
 simp only [this]
theorem groupRow_any {B rb n : Nat} {R : Rdr} {P : Pts} {w : World} (h : RAt B w rb R P) (beg : List Bs) (bv : Value) (hbeg : StrRow n w bv (beg.map Fld.str)) (hb0 : beg ≠ []) :
  Calls Tryz.prog 102 #[ptr rb, bv] w (GRes B rb P w (grow R beg)) := by
 obtain ⟨d0, d1, d2, d3, d4, d5, d6⟩ := h.cells
 have hlt := h.lt
 rcases hR : R.rows with _ | ⟨⟨l, row⟩, t⟩
 ·obtain ⟨ao, cap, e1, -, -, -, -⟩ := h.rows
  rw [hR] at e1
  rw [e1] at d1
  obtain ⟨s1, s2, s3⟩ := set_line h R.behind
  have HV := hide (leave_no rb R.behind 116 _ (by decide) (by decide) s1)
  have HG := hide (grow_none (beg := beg) hR)
  have HK := hide s2
  have HB := hide s3
  have d2' := d2
  unfold LineAt at d2'
  clear d0 d4 d5 d2 hR hbeg h s1 s2 s3 e1 hb0
  go_enter Tryz.func102, Tryz.ntmps102
  go_wp2_with (go_at_call 72; refine (unhide HV).mono ?_; rintro e w2 ⟨rfl, rfl⟩)
  exact ⟨rfl, GRes.no (unhide HG) (unhide HK) (unhide HB)⟩
 ·obtain ⟨ao, cap, e1, -, -, -, -⟩ := h.rows
  rw [hR, List.length_cons] at e1
  rw [e1] at d1
  have HN := hide (nextRow_any h hR)
  have hq : ¬ ((t.length + 1 : Nat) : Int) = 0 := by omega
  obtain ⟨gb, cb, rfl, hgb, b1, b2, ⟨bcur, b3⟩, b4⟩ := str_cells hbeg
  have hgr : gb ≠ rb := by
   rintro rfl
   rw [h.rdr] at b3
   injection b3 with b3
   injection b3 with _ b3 _
   exact absurd b3 (by decide)
  have HB4 : Hid (∀ W, Kp rb w W → ∀ (j : Nat) x, beg[j]? = some x → W.cell? ⟨gb, j, none⟩ = some (.string (Fld.str x))) := fun W k j x hj => (World.cell?_of_block (a := ⟨gb, j, none⟩) (k.2 gb hgb hgr)).trans (b4 j x hj)
  have hbl : 0 < beg.length := List.length_pos_iff.2 hb0
  have hmx : beg.length ≤ 9223372036854775807 := by unfold maxLen at b2; omega
  by_cases hle : beg.length ≤ row.length
  ·have hlei : (beg.length : Int) ≤ (row.length : Int) := by omega
   by_cases heq : row.take beg.length = beg
   ·have HG := hide (grow_ok (R := R) hR heq)
    have HE := hide heq
    clear d0 d2 d3 d4 d5 hR h hbeg hb0 b3 b4 heq
    go_enter Tryz.func102, Tryz.ntmps102
    go_wp2_with (go_at_call 81; refine (unhide HN).mono ?_; rintro e w2 ⟨fv, rv, rfl, r1, r2, r3, r4⟩; obtain ⟨gr, cr, rfl, hgrl, c1, c2, -, c4⟩ := str_cells r1; have H1 := hide r1; have H2 := hide r2; have H3 := hide r3; have H4 := hide r4; have HC := hide c4; clear r1 r2 r3 r4 c4)
    refine (equal_any gr cr gb cb row beg w2 hle hmx (unhide HC) (unhide HB4 _ (unhide H4))).mono ?_
    rintro e w3 ⟨rfl, b3⟩
    rw [decide_eq_true (unhide HE)]
    have HB3 := hide b3
    clear b3 HC HB4
    go_wp2_with (go_at_call 82; refine (leaveIf_f _ _ _ _ rfl).mono ?_; rintro e w4 ⟨rfl, rfl⟩)
    go_ret
    exact GRes.yes (unhide HG) (kp_trans (unhide H4) (kp_below (unhide HB3))) ((unhide H3).trans ((unhide HB3).mono (unhide H2).base)) (str_kept (unhide H1) (below_kept (unhide HB3))) ((unhide H2).below (unhide HB3))
   ·have HG := hide (grow_no (R := R) hR heq)
    have HE := hide heq
    clear d0 d2 d3 d4 d5 hR h hbeg hb0 b3 b4 heq
    go_enter Tryz.func102, Tryz.ntmps102
    go_wp2_with (go_at_call 81; refine (unhide HN).mono ?_; rintro e w2 ⟨fv, rv, rfl, r1, r2, r3, r4⟩; obtain ⟨gr, cr, rfl, hgrl, c1, c2, -, c4⟩ := str_cells r1; have H1 := hide r1; have H2 := hide r2; have H3 := hide r3; have H4 := hide r4; have HC := hide c4; clear r1 r2 r3 r4 c4)
    refine (equal_any gr cr gb cb row beg w2 hle hmx (unhide HC) (unhide HB4 _ (unhide H4))).mono ?_
    rintro e w3 ⟨rfl, b3⟩
    rw [decide_eq_false (unhide HE)]
    have HB3 := hide b3
    have HV := hide (leaveIf_no rb l 116 w3 (by decide) (by decide) ((unhide H2).below b3).cells.2.2.1)
    clear b3 HC HB4
    go_wp2_with (go_at_call 82; refine (unhide HV).mono ?_; rintro e w4 ⟨rfl, rfl⟩)
    exact ⟨rfl, GRes.no (unhide HG) (kp_trans (unhide H4) (kp_below (unhide HB3))) ((unhide H3).trans ((unhide HB3).mono (unhide H2).base))⟩
  ·have hlei : ¬ (beg.length : Int) ≤ (row.length : Int) := by omega
   have HG := hide (grow_no (R := R) (beg := beg) hR (fun e => hle (by rw [← e]; simp; omega)))
   clear d0 d2 d3 d4 d5 hR h hbeg hb0 b3 b4
   go_enter Tryz.func102, Tryz.ntmps102
   go_wp2_with (go_at_call 81; refine (unhide HN).mono ?_; rintro e w2 ⟨fv, rv, rfl, r1, r2, r3, r4⟩; obtain ⟨gr, cr, rfl, hgrl, c1, c2, -, c4⟩ := str_cells r1; have H1 := hide r1; have H2 := hide r2; have H3 := hide r3; have H4 := hide r4; have HV := hide (leaveIf_no rb l 116 w2 (by decide) (by decide) r2.cells.2.2.1); clear r1 r2 r3 r4 c4)
   go_wp2_with (go_at_call 82; refine (unhide HV).mono ?_; rintro e w4 ⟨rfl, rfl⟩)
   exact ⟨rfl, GRes.no (unhide HG) (unhide H4) (unhide H3)⟩
def Mx (B : Nat) (w : World) : Prop := 0 < B ∧ ∃ m : Int, w.cell? ⟨0, 0, none⟩ = some (.int .i64 m)
theorem Mx.low {B : Nat} {w w' : World} (h : Mx B w) (k : Below B w w') : Mx B w' := by
 obtain ⟨h1, m, h2⟩ := h
 exact ⟨h1, m, (k.cell (p := ⟨0, 0, none⟩) h1).trans h2⟩
theorem Mx.so {B : Nat} {w : World} (h : Mx B w) : So.MaxIs w := h.2
theorem Mx.ea {B : Nat} {w : World} (h : Mx B w) : EachW.MaxIs w := h.2
theorem flat_get {α : Type} {f : α → List Value} {m : Nat} (hf : ∀ x, (f x).length = m) : ∀ {l : List α} {i : Nat} {x : α} {k : Nat}, l[i]? = some x → k < m → (l.flatMap f)[i * m + k]? = (f x)[k]?
 | [], i, x, k, h, _ => by simp at h
 | y :: t, 0, x, k, h, hk => by
  simp only [List.getElem?_cons_zero, Option.some.injEq] at h
  subst h
  rw [List.flatMap_cons, Nat.zero_mul, Nat.zero_add, List.getElem?_append_left (by rw [hf]; exact hk)]
 | y :: t, i + 1, x, k, h, hk => by
  rw [List.getElem?_cons_succ] at h
  rw [List.flatMap_cons, List.getElem?_append_right (by rw [hf]; rw [Nat.succ_mul]; omega), hf, show (i + 1) * m + k - m = i * m + k by rw [Nat.succ_mul]; omega]
  exact flat_get hf h hk
theorem own_at {w : World} {B : Nat} {e : TypeId} {size n : Nat} {v : Value} {xs : List Value} (h : w.ownsRow B e size v n xs) (hn : 0 < n) : ∃ g cap, v = .slice (some ⟨g, 0, none⟩) n cap ∧ B ≤ g ∧ g < w.heap.size ∧ n ≤ cap ∧ cap ≤ maxLen ∧ (∃ cur, w.heap[g]? = some (.cells cur e (0, 0))) ∧ ∀ j, j < n * size → w.cell? ⟨g, j, none⟩ = xs[j]? := by
 obtain ⟨hl, ⟨e1, e2⟩ | ⟨g, cap, cur, e1, h1, hg, h2, h3, h4, h5⟩⟩ := id h
 ·omega
 ·subst e1
  exact ⟨g, cap, rfl, h1, lt_some hg, h2, h3, ⟨cur, hg⟩, fun j hj => h.cellAt j hj⟩
theorem own_len {w : World} {B : Nat} {e : TypeId} {size n : Nat} {v : Value} {xs : List Value} (h : w.ownsRow B e size v n xs) : ∃ ao cap, v = .slice ao n cap ∧ n ≤ cap ∧ cap ≤ maxLen := by
 obtain ⟨hl, ⟨e1, e2⟩ | ⟨g, cap, cur, e1, h1, hg, h2, h3, h4, h5⟩⟩ := h
 ·subst e2
  exact ⟨none, 0, e1, Nat.le_refl _, Nat.zero_le _⟩
 ·exact ⟨_, cap, e1, h2, h3⟩
def clsV (c : Cls) : Value := .agg #[.int .u16 c.flag, .int .i64 c.kind, .bool c.cross, .int .i64 (c.first : Nat), .int .i64 (c.count : Nat)]
theorem findC_get {C : List Cls} {x : Int} {i : Nat} (h : findC C x = some i) : ∃ c, C[i]? = some c ∧ c.flag = x := by
 induction C generalizing i with
 | nil => cases h
 | cons a t ih =>
  unfold findC at h
  split at h
  ·rename_i e
   injection h with h
   subst h
   exact ⟨a, rfl, e⟩
  ·obtain ⟨j, hj, rfl⟩ := Option.map_eq_some_iff.1 h
   exact ih hj
theorem class_some {B : Nat} {F : Fil} {P : Pts} {w : World} (h : FAt B w F P) (x : Int) (h0 : 0 ≤ x) (h1 : x ≤ 65535) {i : Nat} {c : Cls} (hf : findC F.classes x = some i) (hc : F.classes[i]? = some c) :
  Calls Tryz.prog 68 #[.pointer (some ⟨P.fb, 0, none⟩), .int .u16 x] w fun e w' => e = .returned (.tuple #[clsV c, .bool true]) ∧ Below w.heap.size w w' := by
 obtain ⟨d0, d9, d10, d11, d12, d13, dz⟩ := h.cells
 obtain ⟨n, hn, hm⟩ := h.plc
 have hk := fun o => (hm.kept (w' := w.alloc o) (Below.heap_alloc w o _ hm.lt)).look2 lawF Tryz.underlying95 (zero3 (w.alloc o)) (keyF h0 h1)
 simp only [plc, hf, Option.map_some, Option.getD_some, Option.isSome_some] at hk
 have hlt := h.lt
 have hi := (List.getElem?_eq_some_iff.1 hc).1
 obtain ⟨g, cap, e1, hgB, hg, hcap, hmx, -, hcl⟩ := own_at h.clss (by omega)
 have q : ∀ k, k < 5 → w.cell? ⟨g, i * 5 + k, none⟩ = (clsC c)[k]? := fun k hk => (hcl _ (by omega)).trans (flat_get (f := clsC) (m := 5) (fun _ => rfl) hc hk)
 have q0 := q 0 (by decide)
 have q1 := q 1 (by decide)
 have q2 := q 2 (by decide)
 have q3 := q 3 (by decide)
 have q4 := q 4 (by decide)
 simp only [clsC, List.getElem?_cons_zero, List.getElem?_cons_succ, Nat.add_zero] at q0 q1 q2 q3 q4
 rw [e1] at d11
 have hii : (i : Int) < (F.classes.length : Int) := by omega
 have hi0 : ¬ (i : Int) < 0 := by omega
 unfold maxLen at hmx
 clear h hm hf h0 h1 d9 d10 d12 hn q hcl hc e1 d0
 unfold clsV
 go_enter Tryz.func68, Tryz.ntmps68
 go_wp2
 refine bodyPost_ret (v := .tuple #[.agg #[.int .u16 c.flag, .int .i64 c.kind, .bool c.cross, .int .i64 (c.first : Nat), .int .i64 (c.count : Nat)], .bool true]) (by simp [results, Tryz.results68, go_sem]) rfl ⟨rfl, ?_⟩
 (repeat (first | exact Below.refl _ _ | refine Below.drew ?_ | refine Below.alloc ?_ (by first | (simp; done) | (simp; omega)) _ | refine Below.setCell ?_ (by first | (simp; done) | (simp; omega)) _))
theorem hasAli {B : Nat} {F : Fil} {P : Pts} {w : World} (h : FAt B w F P) : Calls Tryz.prog 162 #[.pointer (some ⟨P.fb, 0, none⟩)] w fun e w' => e = .returned (.bool (decide (F.aliases ≠ []))) ∧ w' = w := by
 obtain ⟨-, -, d10, -, -, -, -⟩ := h.cells
 obtain ⟨ao, cap, e1, -, -⟩ := own_len h.alis
 rw [e1] at d10
 have hE : Hid ((decide (F.aliases ≠ []) : Bool) = decide ((0 : Int) < (F.aliases.length : Int))) := by
  rw [Hid, Bool.eq_iff_iff]
  cases F.aliases with
  | nil => simp
  | cons a t => simp
 rw [unhide hE]
 generalize F.aliases.length = n at *
 clear h hE e1
 go_enter Tryz.func162, Tryz.ntmps162
 go_wp2
 all_goals
  go_ret
  exact ⟨by first | (simp; done) | (simp; omega), rfl⟩
theorem fnx_nil (B : Nat) (w : World) : FNx B w (.slice none 0 0) [] := .inl ⟨rfl, rfl⟩
theorem FNx.low {B C : Nat} {w : World} {v : Value} {l : List Int} (h : FNx B w v l) (k : C ≤ B) : FNx C w v l := h.imp id (·.low k)
theorem FNx.arg {B : Nat} {w : World} {v : Value} {l : List Int} (h : FNx B w v l) : So.FArg w v l := by
 rcases h with ⟨rfl, rfl⟩ | h
 ·exact So.nil_farg w
 ·exact h.arg
theorem readFlags (kind : Int) (s : ByteArray) (w : World) (hM : So.MaxIs w) (hs : s.size ≤ 1048576) :
  Calls Tryz.prog 105 #[.int .i64 kind, .string s] w fun e w' => ∃ u, e = .returned (.tuple #[u, .int .i64 (So.rE kind s.data.toList)]) ∧ FNx w.heap.size w' u (So.rS kind s.data.toList) ∧ Below w.heap.size w w' := by
 unfold So.rS
 cases hk : One.isK kind
 ·refine (So.read_bad kind s w hk).mono ?_
  rintro e w' ⟨rfl, rfl⟩
  have e1 : So.rE kind s.data.toList = 30 := by unfold So.rE; rw [hk]; rfl
  rw [e1]
  exact ⟨_, rfl, fnx_nil _ _, Below.refl _ _⟩
 ·refine (So.read_any kind s w hk hM hs).mono ?_
  rintro e w' ⟨u, rfl, hB, h1, h2⟩
  have e1 : So.rE kind s.data.toList = So.readE (So.vals kind s.data.toList) := by unfold So.rE; rw [hk]; rfl
  rw [e1]
  by_cases h0 : So.readE (So.vals kind s.data.toList) = 0
  ·rw [if_pos h0]
   exact ⟨u, rfl, .inr (h1 h0), hB⟩
  ·rw [if_neg h0]
   have := h2 h0
   subst this
   exact ⟨_, rfl, fnx_nil _ _, hB⟩
theorem num_pos {s : Bs} {m : Nat} (h : Num.numE s m = 0) : Num.numN s m = ((Num.numN s m).toNat : Nat) ∧ (Num.numN s m).toNat ≤ m := by
 unfold Num.numE at h
 split at h
 ·rename_i hg
  rw [Num.numN_good hg]
  have : (Num.numVal s : Int) ≤ m := by
   unfold Num.good at hg
   simp at hg
   omega
  omega
 ·omega
theorem numE_or (s : Bs) (m : Int) : Num.numE s m = 0 ∨ Num.numE s m = 13 := by
 unfold Num.numE
 split <;> simp
theorem flags_any {B : Nat} {F : Fil} {P : Pts} {w : World} (h : FAt B w F P) (hM : Mx B w) (s : ByteArray) (hs : s.size ≤ 1048576) :
  Calls Tryz.prog 142 #[.pointer (some ⟨P.fb, 0, none⟩), .string s] w fun e w' => ∃ u, e = .returned (.tuple #[u, .int .i64 (flgE F s.data.toList)]) ∧ FNx w.heap.size w' u (flgS F s.data.toList) ∧ Below w.heap.size w w' := by
 obtain ⟨d0, -, d10, -, -, -, dz⟩ := h.cells
 have HA := hide (hasAli h)
 by_cases ha : F.aliases = []
 ·rw [decide_eq_false (by simp [ha])] at HA
  have e1 : flgE F s.data.toList = So.rE F.kind s.data.toList := by unfold flgE; rw [if_pos ha]
  have e2 : flgS F s.data.toList = So.rS F.kind s.data.toList := by unfold flgS; rw [if_pos ha]
  rw [e1, e2]
  have HR := hide (readFlags F.kind s w hM.so (by omega))
  clear e1 e2 ha h d10 hM
  generalize So.rE F.kind s.data.toList = c at *
  generalize So.rS F.kind s.data.toList = S at *
  go_enter Tryz.func142, Tryz.ntmps142
  go_wp2_with (first | (go_at_call 162; refine (unhide HA).mono ?_; rintro e w2 ⟨rfl, rfl⟩) | (go_at_call 105; refine (unhide HR).mono ?_; rintro e w3 ⟨u, rfl, f3, b3⟩))
  go_ret2
  exact ⟨u, rfl, f3, b3⟩
 ·rw [decide_eq_true ha] at HA
  have hpos : 0 < F.aliases.length := List.length_pos_iff.2 ha
  have h1024 := h.ok.ali
  obtain ⟨g, cap, e0, hgB, hg, hcap, hmx, -, hcl⟩ := own_at h.alis hpos
  rw [e0] at d10
  have HN := hide (fun W => NumW.number_any s (F.aliases.length : Int) W (by unfold maxLen; omega) (by omega) (by omega))
  by_cases hq : Num.numE s.data.toList F.aliases.length = 0 ∧ flgN F s.data.toList ≠ 0
  ·have e1 : flgE F s.data.toList = 0 := by unfold flgE; rw [if_neg ha, if_pos hq]
   have e2 : flgS F s.data.toList = (F.aliases[flgN F s.data.toList - 1]?).getD [] := by unfold flgS; rw [if_neg ha, if_pos hq]
   obtain ⟨n1, n2⟩ := num_pos hq.1
   have hq1 := hq.1
   have hq2 := hq.2
   unfold flgN at hq2 e2
   rw [hq1, n1] at HN
   rw [e1, e2]
   generalize (Num.numN s.data.toList F.aliases.length).toNat = k at *
   obtain ⟨a, hka⟩ : ∃ a, F.aliases[k - 1]? = some a := ⟨_, List.getElem?_eq_getElem (by omega)⟩
   obtain ⟨v, hkv⟩ : ∃ v, P.av[k - 1]? = some v := ⟨_, List.getElem?_eq_getElem (by rw [h.aliF.1]; omega)⟩
   have hfn := h.aliF.2 _ _ _ hkv hka
   have hcv : w.cell? ⟨g, k - 1, none⟩ = some v := (hcl _ (by omega)).trans hkv
   rw [hka, Option.getD_some]
   obtain ⟨hset, hlen⟩ := h.ok.aliS a (List.mem_of_getElem? hka)
   have HO := hide (So.of_set v a w hfn.arg (by omega))
   rw [hset] at HO
   have hk0 : ¬ ((k : Int) = 0) := by omega
   have hk1 : ¬ ((k : Int) - 1 < 0) := by omega
   have hk2 : ((k : Int) - 1) < (F.aliases.length : Int) := by omega
   have hk3 : ((k : Int) - 1).toNat = k - 1 := by omega
   have hkb : (k : Int) ≤ 65536 := by omega
   generalize F.aliases.length = N at *
   obtain ⟨ao, cp, rfl, -⟩ := hfn.arg
   clear e1 e2 ha h hM hq hq1 n1 hka hkv hset hfn hcl e0 d0
   go_enter Tryz.func142, Tryz.ntmps142
   go_wp2_with (first | (go_at_call 162; refine (unhide HA).mono ?_; rintro e w2 ⟨rfl, rfl⟩) | (go_at_call 90; refine (unhide HN _).mono ?_; rintro e w3 ⟨rfl, rfl⟩) | (go_at_call 135; refine (unhide HO).mono ?_; rintro e w4 ⟨u, rfl, f4, b4⟩))
   go_ret2
   exact ⟨u, rfl, .inr f4, b4⟩
  ·have e1 : flgE F s.data.toList = 13 := by unfold flgE; rw [if_neg ha, if_neg hq]
   have e2 : flgS F s.data.toList = [] := by unfold flgS; rw [if_neg ha, if_neg hq]
   rw [e1, e2]
   have hcs : Hid ((Num.numE s.data.toList F.aliases.length = 0 ∧ Num.numN s.data.toList F.aliases.length = 0) ∨ Num.numE s.data.toList F.aliases.length = 13) := by
    rcases numE_or s.data.toList F.aliases.length with q | q
    ·obtain ⟨n1, -⟩ := num_pos q
     unfold flgN at hq
     have z : ¬ (Num.numN s.data.toList F.aliases.length).toNat ≠ 0 := fun z => hq ⟨q, z⟩
     exact .inl ⟨q, by omega⟩
    ·exact .inr q
   clear e1 e2 ha h hM hq e0 d0 hcl
   rcases unhide hcs with ⟨q1, q2⟩ | q1
   ·rw [q1, q2] at HN
    clear q1 q2 hcs
    generalize F.aliases.length = N at *
    go_enter Tryz.func142, Tryz.ntmps142
    go_wp2_with (first | (go_at_call 162; refine (unhide HA).mono ?_; rintro e w2 ⟨rfl, rfl⟩) | (go_at_call 90; refine (unhide HN _).mono ?_; rintro e w3 ⟨rfl, rfl⟩))
    go_ret2
    exact ⟨_, rfl, fnx_nil _ _, Below.refl _ _⟩
   ·rw [q1] at HN
    clear q1 hcs
    generalize Num.numN s.data.toList F.aliases.length = nn at *
    generalize F.aliases.length = N at *
    go_enter Tryz.func142, Tryz.ntmps142
    go_wp2_with (first | (go_at_call 162; refine (unhide HA).mono ?_; rintro e w2 ⟨rfl, rfl⟩) | (go_at_call 90; refine (unhide HN _).mono ?_; rintro e w3 ⟨rfl, rfl⟩))
    go_ret2
    exact ⟨_, rfl, fnx_nil _ _, Below.refl _ _⟩
def ARes (w : World) (X : Except Er (Bs × List Int)) (e : Ending) (w' : World) : Prop :=
 Below w.heap.size w w' ∧ match X with
 | .ok p => ∃ u, e = .returned (.tuple #[.string (Wd.str p.1), u]) ∧ FNx w.heap.size w' u p.2
 | .error er => e = .panicked (chn er)
theorem ARes.no {w w' : World} {X : Except Er (Bs × List Int)} {er : Er} (hX : X = .error er) (k : Below w.heap.size w w') : ARes w X (.panicked (chn er)) w' := by
 subst hX
 exact ⟨k, rfl⟩
theorem ARes.yes {w w' : World} {X : Except Er (Bs × List Int)} {p : Bs × List Int} {u : Value} (hX : X = .ok p) (k : Below w.heap.size w w') (h : FNx w.heap.size w' u p.2) : ARes w X (.returned (.tuple #[.string (Wd.str p.1), u])) w' := by
 subst hX
 exact ⟨k, u, rfl, h⟩
theorem aOk {w : World} {X : Except Er (Bs × List Int)} {p : Bs × List Int} {g : FuncId} {args : Array Value} (h : Calls Tryz.prog g args w (ARes w X)) (hX : X = .ok p) : Calls Tryz.prog g args w fun e w' => ∃ u, e = .returned (.tuple #[.string (Wd.str p.1), u]) ∧ FNx w.heap.size w' u p.2 ∧ Below w.heap.size w w' := by
 subst hX
 exact h.mono fun e w' ⟨k, u, q1, q2⟩ => ⟨u, q1, q2, k⟩
theorem aNo {w : World} {X : Except Er (Bs × List Int)} {er : Er} {g : FuncId} {args : Array Value} (h : Calls Tryz.prog g args w (ARes w X)) (hX : X = .error er) : Calls Tryz.prog g args w fun e w' => e = .panicked (chn er) ∧ Below w.heap.size w w' := by
 subst hX
 exact h.mono fun e w' ⟨k, q⟩ => ⟨q, k⟩
theorem readE_pos (l : List Int) : 0 ≤ So.readE l := by
 unfold So.readE
 repeat' split
 all_goals omega
theorem rE_pos (k : Int) (s : Bs) : 0 ≤ So.rE k s := by
 unfold So.rE
 split
 ·exact readE_pos _
 ·omega
theorem flgE_pos (F : Fil) (s : Bs) : 0 ≤ flgE F s := by
 unfold flgE
 split
 ·exact rE_pos _ _
 ·split <;> omega
theorem added_pre {F : Fil} {l : Nat} {f a r d : Bs} (h : Wd.rd [] f = some (a, r, true)) (ha : addW l a = .ok d) : added F l 1 f = .error (l, 118) := by unfold added; rw [h]; simp [ha]
theorem added_bad {F : Fil} {l : Nat} {k : Int} {f a r d : Bs} (h : Wd.rd [] f = some (a, r, true)) (ha : addW l a = .ok d) (hk : k ≠ 1) (he : flgE F r ≠ 0) : added F l k f = .error (l, (flgE F r).toNat) := by unfold added; rw [h]; simp [ha, hk, he]
theorem added_fl {F : Fil} {l : Nat} {k : Int} {f a r d : Bs} (h : Wd.rd [] f = some (a, r, true)) (ha : addW l a = .ok d) (hk : k ≠ 1) (he : flgE F r = 0) : added F l k f = .ok (d, flgS F r) := by unfold added; rw [h]; simp [ha, hk, he]
theorem added_all {B rb : Nat} {R : Rdr} {P : Pts} {w : World} (h : RAt B w rb R P) (hM : Mx B w) (k : Int) (s : ByteArray) (hs : s.size ≤ 65536) :
  Calls Tryz.prog 136 #[ptr rb, .int .i64 k, .string s] w (ARes w (added R.file R.line k s.data.toList)) := by
 obtain ⟨d0, -, hl, -, -, -, -⟩ := h.cells
 have hb := h.lt
 by_cases hn : ∀ a r, Wd.rd [] s.data.toList ≠ some (a, r, true)
 ·refine (added_any rb R.line R.file k s w hs hb hl hn).mono ?_
  rintro e w' ⟨rfl, b⟩
  cases hx : added R.file R.line k s.data.toList with
  | error er => exact ARes.no rfl b
  | ok p =>
   have hp : p.2 = [] := by
    unfold added at hx
    rcases hr : Wd.rd [] s.data.toList with _ | ⟨a, r, c⟩
    ·rw [hr] at hx; cases hx
    ·cases c with
     | true => exact absurd hr (hn a r)
     | false =>
      rw [hr] at hx
      simp only at hx
      split at hx
      ·cases hx
      ·simp at hx; rw [← hx]
   exact ARes.yes rfl b (by rw [hp]; exact fnx_nil _ _)
 ·obtain ⟨a, r, hr⟩ : ∃ a r, Wd.rd [] s.data.toList = some (a, r, true) := by
   exact Classical.byContradiction fun q => hn fun a r e => q ⟨a, r, e⟩
  have hR := RdW.read_any s w (by omega)
  rw [hr] at hR
  have HR := hide hR
  unfold RdW.ans at HR
  have hz := rd_len0 hr
  have HL := hide (fun W => leave_ok (ptr rb) W)
  have HF := hide (fun W (b : Below w.heap.size w W) => flags_any (h.file.below b) (hM.low (b.mono h.base)) (Wd.str r) (by omega))
  rw [Wd.str_list] at HF
  have HBr := hide h.base
  have HA := fun w2 (b2 : Below w.heap.size w w2) => checkAffix_any rb R.line (Wd.str a) w2 (by omega) (Nat.lt_of_lt_of_le hb b2.size) (lineB hl hb b2)
  rw [Wd.str_list] at HA
  have HVI := hide (fun w2 (b2 : Below w.heap.size w w2) => leaveIf_no rb R.line 118 w2 (by decide) (by decide) (lineB hl hb b2))
  have HIF := hide (fun W => leaveIf_ok (ptr rb) 118 W)
  have HVF : Hid (∀ w2, Below w.heap.size w w2 → flgE R.file r ≠ 0 → Calls Tryz.prog 72 #[.pointer (some ⟨rb, 0, none⟩), .int .i64 (flgE R.file r)] w2 fun e w' => e = .panicked (chn (R.line, (flgE R.file r).toNat)) ∧ w' = w2) := fun w2 b2 hc => leave_no rb R.line _ w2 hc (flgE_pos _ _) (lineB hl hb b2)
  clear hR hs hz hn hM h hl
  have H0 := hide hr
  clear hr
  generalize s.data.toList = sl at *
  by_cases h48 : a = [48]
  ·have hq : ((Wd.str a).toList == [48]) = true := by rw [h48, Lib.toList_data]; rfl
   have HD : addW R.line a = .ok [] := by rw [h48]; exact addW_zero
   clear h48
   by_cases hk : k = 1
   ·subst hk
    have HX := hide (added_pre (F := R.file) (l := R.line) (unhide H0) HD)
    clear HF HVF HIF HA
    go_enter Tryz.func136, Tryz.ntmps136
    go_wp2_with (first | (go_at_call 113; refine (unhide HR).mono ?_; rintro e w2 ⟨rfl, b2⟩; have e2 := (b2.cell (p := ⟨rb, 0, none⟩) hb).trans d0; clear d0) | (go_at_call 72; refine (unhide HL _).mono ?_; rintro e w3 ⟨rfl, rfl⟩) | (go_at_call 82; refine (unhide HVI _ b2).mono ?_; rintro e w6 ⟨rfl, rfl⟩))
    exact ⟨rfl, ARes.no (unhide HX) b2⟩
   ·by_cases he : flgE R.file r = 0
    ·have hkb : (k == 1) = false := by simpa using hk
     have HX := hide (added_fl (F := R.file) (l := R.line) (k := k) (unhide H0) HD hk he)
     rw [he] at HF
     clear HVF HVI hk he HA
     go_enter Tryz.func136, Tryz.ntmps136
     go_wp2_with (first | (go_at_call 113; refine (unhide HR).mono ?_; rintro e w2 ⟨rfl, b2⟩; have e2 := (b2.cell (p := ⟨rb, 0, none⟩) hb).trans d0; clear d0) | (go_at_call 72; refine (unhide HL _).mono ?_; rintro e w3 ⟨rfl, rfl⟩) | (go_at_call 82; refine (leaveIf_f _ _ _ _ (by first | rfl | simpa using hkb)).mono ?_; rintro e w6 ⟨rfl, rfl⟩) | (go_at_call 142; refine (unhide HF _ b2).mono ?_; rintro e w7 ⟨u, rfl, f7, b7⟩; have b8 := btr b2 b7))
     go_ret2
     exact ARes.yes (unhide HX) b8 (f7.low b2.size)
    ·have hkb : (k == 1) = false := by simpa using hk
     have HX := hide (added_bad (F := R.file) (l := R.line) (k := k) (unhide H0) HD hk he)
     have HVG := hide (fun w2 b2 => unhide HVF w2 b2 he)
     generalize flgE R.file r = cd at *
     clear HVF HVI hk he HA
     go_enter Tryz.func136, Tryz.ntmps136
     go_wp2_with (first | (go_at_call 113; refine (unhide HR).mono ?_; rintro e w2 ⟨rfl, b2⟩; have e2 := (b2.cell (p := ⟨rb, 0, none⟩) hb).trans d0; clear d0) | (go_at_call 72; refine (unhide HL _).mono ?_; rintro e w3 ⟨rfl, rfl⟩; clear HL) | (go_at_call 82; refine (leaveIf_f _ _ _ _ (by first | rfl | simpa using hkb)).mono ?_; rintro e w6 ⟨rfl, rfl⟩) | (go_at_call 142; refine (unhide HF _ b2).mono ?_; rintro e w7 ⟨u, rfl, f7, b7⟩; have b8 := btr b2 b7))
     refine (unhide HVG _ b8).mono ?_
     rintro e w8 ⟨rfl, rfl⟩
     exact ⟨rfl, ARes.no (unhide HX) b8⟩
  ·have hne : ((Wd.str a).toList == [48]) = false := by
    rw [beq_eq_false_iff_ne, Lib.toList_data, Wd.str_list]
    exact h48
   cases hc : ckA R.line a with
   | error er =>
    have HAA := hide (fun w2 b2 => noOf (HA w2 b2) hc)
    have HX := hide (added_no (F := R.file) (l := R.line) (k := k) (unhide H0) (addW_no h48 hc))
    clear HA hc h48 HF HVF HVI HIF
    go_enter Tryz.func136, Tryz.ntmps136
    go_wp2_with (first | (go_at_call 113; refine (unhide HR).mono ?_; rintro e w2 ⟨rfl, b2⟩; have e2 := (b2.cell (p := ⟨rb, 0, none⟩) hb).trans d0; clear d0) | (go_at_call 72; refine (unhide HL _).mono ?_; rintro e w3 ⟨rfl, rfl⟩) | (go_at_call 132; refine (unhide HAA _ b2).mono ?_; rintro e w4 ⟨rfl, b4⟩))
    exact ⟨rfl, ARes.no (unhide HX) (btr b2 b4)⟩
   | ok u0 =>
    have HAA := hide (fun w2 b2 => okOf (HA w2 b2) hc)
    have HD : addW R.line a = .ok a := addW_ok h48 hc
    by_cases hk : k = 1
    ·subst hk
     have HX := hide (added_pre (F := R.file) (l := R.line) (unhide H0) HD)
     clear HF HVF HIF HA hc h48
     go_enter Tryz.func136, Tryz.ntmps136
     go_wp2_with (first | (go_at_call 113; refine (unhide HR).mono ?_; rintro e w2 ⟨rfl, b2⟩; have e2 := (b2.cell (p := ⟨rb, 0, none⟩) hb).trans d0; clear d0) | (go_at_call 72; refine (unhide HL _).mono ?_; rintro e w3 ⟨rfl, rfl⟩) | (go_at_call 132; refine (unhide HAA _ b2).mono ?_; rintro e w4 ⟨rfl, b4⟩; have b24 := btr b2 b4; have e4 := (b4.cell (p := ⟨rb, 0, none⟩) (Nat.lt_of_lt_of_le hb b2.size)).trans e2) | (go_at_call 82; refine (unhide HVI _ b24).mono ?_; rintro e w6 ⟨rfl, rfl⟩))
     exact ⟨rfl, ARes.no (unhide HX) b24⟩
    ·by_cases he : flgE R.file r = 0
     ·have hkb : (k == 1) = false := by simpa using hk
      have HX := hide (added_fl (F := R.file) (l := R.line) (k := k) (unhide H0) HD hk he)
      rw [he] at HF
      clear HVF HVI hk he HA hc h48
      go_enter Tryz.func136, Tryz.ntmps136
      go_wp2_with (first | (go_at_call 113; refine (unhide HR).mono ?_; rintro e w2 ⟨rfl, b2⟩; have e2 := (b2.cell (p := ⟨rb, 0, none⟩) hb).trans d0; clear d0) | (go_at_call 72; refine (unhide HL _).mono ?_; rintro e w3 ⟨rfl, rfl⟩) | (go_at_call 132; refine (unhide HAA _ b2).mono ?_; rintro e w4 ⟨rfl, b4⟩; have b24 := btr b2 b4; have e4 := (b4.cell (p := ⟨rb, 0, none⟩) (Nat.lt_of_lt_of_le hb b2.size)).trans e2) | (go_at_call 82; refine (leaveIf_f _ _ _ _ (by first | rfl | simpa using hkb)).mono ?_; rintro e w6 ⟨rfl, rfl⟩) | (go_at_call 142; refine (unhide HF _ b24).mono ?_; rintro e w7 ⟨u, rfl, f7, b7⟩; have b8 := btr b24 b7))
      go_ret2
      exact ARes.yes (unhide HX) b8 (f7.low b24.size)
     ·have hkb : (k == 1) = false := by simpa using hk
      have HX := hide (added_bad (F := R.file) (l := R.line) (k := k) (unhide H0) HD hk he)
      have HVG := hide (fun w2 b2 => unhide HVF w2 b2 he)
      generalize flgE R.file r = cd at *
      clear HVF HVI hk he HA hc h48
      go_enter Tryz.func136, Tryz.ntmps136
      go_wp2_with (first | (go_at_call 113; refine (unhide HR).mono ?_; rintro e w2 ⟨rfl, b2⟩; have e2 := (b2.cell (p := ⟨rb, 0, none⟩) hb).trans d0; clear d0) | (go_at_call 72; refine (unhide HL _).mono ?_; rintro e w3 ⟨rfl, rfl⟩; clear HL) | (go_at_call 132; refine (unhide HAA _ b2).mono ?_; rintro e w4 ⟨rfl, b4⟩; have b24 := btr b2 b4; have e4 := (b4.cell (p := ⟨rb, 0, none⟩) (Nat.lt_of_lt_of_le hb b2.size)).trans e2) | (go_at_call 82; refine (leaveIf_f _ _ _ _ (by first | rfl | simpa using hkb)).mono ?_; rintro e w6 ⟨rfl, rfl⟩) | (go_at_call 142; refine (unhide HF _ b24).mono ?_; rintro e w7 ⟨u, rfl, f7, b7⟩; have b8 := btr b24 b7))
      refine (unhide HVG _ b8).mono ?_
      rintro e w8 ⟨rfl, rfl⟩
      exact ⟨rfl, ARes.no (unhide HX) b8⟩
end Af
namespace Af
abbrev RowL := List (Nat × List Bs)
def Rdr.on (R : Rdr) (T : RowL) (b : Nat) : Rdr := { R with rows := T, behind := b }
def lastL (d : Nat) : RowL → Nat
 | [] => d
 | p :: t => lastL p.1 t
theorem lastL_append : ∀ (A B : RowL) (d : Nat), lastL d (A ++ B) = lastL (lastL d A) B
 | [], _, _ => rfl
 | p :: t, B, _d => lastL_append t B p.1
def LocAt (d : Rdr → Nat) (f : Rdr → Except Er Rdr) : Prop := ∀ R,
 (∀ R', f R = .ok R' → ∃ A, R.rows = A ++ R'.rows ∧ R'.behind = R.behind ∧ R'.line = lastL (d R) A ∧ ∀ T b, f (R.on (A ++ T) b) = .ok (R'.on T b)) ∧
 (∀ e, f R = .error e → e.2 ≠ 0 ∧ (e = (R.behind, 116) ∨ ∃ A B, R.rows = A ++ B ∧ e.1 = lastL (d R) A ∧ ∀ T b, f (R.on (A ++ T) b) = .error e))
abbrev Loc (f : Rdr → Except Er Rdr) : Prop := LocAt Rdr.line f
def andThen (f g : Rdr → Except Er Rdr) (R : Rdr) : Except Er Rdr := match f R with
 | .error e => .error e
 | .ok R' => g R'
theorem LocAt.andThen {d : Rdr → Nat} {f g : Rdr → Except Er Rdr} (hf : LocAt d f) (hg : Loc g) : LocAt d (andThen f g) := by
 intro R
 refine ⟨fun R' h => ?_, fun e h => ?_⟩
 ·unfold Af.andThen at h
  cases hq : f R with
  | error e => rw [hq] at h; cases h
  | ok R1 =>
   rw [hq] at h
   obtain ⟨A, a1, a2, a3, a4⟩ := (hf R).1 R1 hq
   obtain ⟨A', b1, b2, b3, b4⟩ := (hg R1).1 R' h
   refine ⟨A ++ A', by rw [a1, b1, List.append_assoc], b2.trans a2, by rw [lastL_append, ← a3, b3], fun T b => ?_⟩
   unfold Af.andThen
   rw [List.append_assoc, a4]
   exact b4 T b
 ·unfold Af.andThen at h
  cases hq : f R with
  | error e' =>
   rw [hq] at h
   injection h with h
   subst h
   obtain ⟨h0, z | ⟨A, B, a1, a2, a3⟩⟩ := (hf R).2 _ hq
   ·exact ⟨h0, .inl z⟩
   ·exact ⟨h0, .inr ⟨A, B, a1, a2, fun T b => by unfold Af.andThen; rw [a3]⟩⟩
  | ok R1 =>
   rw [hq] at h
   obtain ⟨A, a1, a2, a3, a4⟩ := (hf R).1 R1 hq
   obtain ⟨h0, z | ⟨A', B, b1, b2, b3⟩⟩ := (hg R1).2 _ h
   ·exact ⟨h0, .inl (by rw [z, a2])⟩
   ·exact ⟨h0, .inr ⟨A ++ A', B, by rw [a1, b1, List.append_assoc], by rw [lastL_append, ← a3, b2], fun T b => by unfold Af.andThen; rw [List.append_assoc, a4]; exact b3 T b⟩⟩
def taken (k : Nat → List Bs → Fil → Except Er Fil) (R : Rdr) : Except Er Rdr := match R.rows with
 | [] => .error (R.behind, 116)
 | (l, row) :: t => match k l row R.file with
  | .error e => .error e
  | .ok F => .ok { R with rows := t, line := l, file := F }
variable (g : Nat → Nat)
variable {g}
end Af
namespace Af
variable {g : Nat → Nat}
end Af
end Go.Proofs.YtidhbhdcoanfcaaGreatDoor
