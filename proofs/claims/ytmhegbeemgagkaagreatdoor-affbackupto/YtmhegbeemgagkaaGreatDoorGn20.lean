import Derived.Test.YtmhegbeemgagkaaGreatDoorGn19
import Derived.Test.YtmhegbeemgagkaaGreatDoorShAl2
import Derived.Deep.RegionHeld3
import Derived.Deep.RegionHeld2
set_option maxHeartbeats 8000000
set_option maxRecDepth 100000
namespace Go.Proofs
open Go.Shelf
def Tryz.laysCf_ren : Go.Shelf.Ren := ⟨fun | 29 => 175 | 31 => 145 | n => n, fun | 0 => 0 | 3 => 3 | 4 => 4 | 22 => 44 | 23 => 34 | n => n, fun | n => n⟩
theorem Tryz.laysCf : Go.Proofs.SlLaysE.n31 Tryz.prog Tryz.laysCf_ren := {
 mixed := by kernel_rfl
 f29 := ⟨"slices.Index[[]hornbook/api.Flag,hornbook/api.Flag]", by decide, Tryz.func175.trans (congrArg some (by kernel_rfl))⟩
 f31 := ⟨"slices.Contains[[]hornbook/api.Flag,hornbook/api.Flag]", by decide, Tryz.func145.trans (congrArg some (by kernel_rfl))⟩
 t0 := Tryz.underlying0
 a0 := Tryz.isAgg0
 z0 := Tryz.sizeOf0
 v0 := Tryz.zeroValue0
 t3 := Tryz.underlying3
 a3 := Tryz.isAgg3
 z3 := Tryz.sizeOf3
 v3 := Tryz.zeroValue3
 t4 := Tryz.underlying4
 a4 := Tryz.isAgg4
 z4 := Tryz.sizeOf4
 v4 := Tryz.zeroValue4
 t22 := Tryz.underlying44
 a22 := Tryz.isAgg44
 z22 := Tryz.sizeOf44
 v22 := Tryz.zeroValue44
 a23 := Tryz.isAgg34
 z23 := Tryz.sizeOf34 }
open Go.RowKit Go.Lib Go.Sort in
theorem Tryz.flags_Contains (b off n c : Nat) (zs : List Int) (x : Int) (w : World) (hz : n ≤ zs.length) (hbig : n ≤ 9223372036854775807) (hc : ∀ j, j < zs.length → w.cell? ⟨b, off + j, none⟩ = some (.int .u16 zs[j]!)) :
  Calls Tryz.prog 145 #[.slice (some ⟨b, off, none⟩) n c, .int .u16 x] w fun e w' => e = .returned (.bool ((zs.take n).any fun y => decide (x = y))) ∧ w' = w :=
 AnyE.slices_Contains Tryz.laysCf (Value.int .u16) (fun x y => decide (x = y)) (EqlAt.intD _ _ .u16) b off n c zs x w hz hbig hc
end Go.Proofs
namespace Go.Proofs.YtmhegbeemgagkaaGreatDoor
open Go.RowKit
namespace Af
open RowB
theorem below_drewN (B : Nat) (w : World) (m : Nat) : Below B w (w.drewN m) := ⟨rfl, rfl, rfl, Nat.le_refl _, fun _ _ => rfl⟩
def flgV (x : Int) : Value := .int .u16 x
theorem newFlag_bad {R : Rdr} {f : Bs} (h : One.oneE R.file.kind f ≠ 0) : newFlag R f = .error (R.line, (One.oneE R.file.kind f).toNat) := by unfold newFlag; rw [if_pos h]
theorem newFlag_taken {R : Rdr} {f : Bs} (h : One.oneE R.file.kind f = 0) (h2 : One.oneF R.file.kind f ∈ R.file.specials) : newFlag R f = .error (R.line, 115) := by unfold newFlag; rw [if_neg (fun e => e h), if_pos (.inr h2)]
theorem newFlag_ok {R : Rdr} {f : Bs} (h : One.oneE R.file.kind f = 0) (h2 : findC R.file.classes (One.oneF R.file.kind f) = none) (h3 : One.oneF R.file.kind f ∉ R.file.specials) : newFlag R f = .ok (One.oneF R.file.kind f) := by
 unfold newFlag
 rw [if_neg (fun e => e h), if_neg (by rw [h2]; simp [h3])]
theorem oneE_pos (k : Int) (f : Bs) : 0 ≤ One.oneE k f := by
 unfold One.oneE
 split
 ·split <;> omega
 ·omega
theorem FAt.spec {B : Nat} {w : World} {F : Fil} {P : Pts} (h : FAt B w F P) : ∀ j, j < F.specials.length → w.cell? ⟨P.fb, 3 + j, none⟩ = some (.int .u16 F.specials[j]!) := by
 intro j hj
 have h5 := h.ok.spec
 have hf := h.fil
 obtain ⟨a, b, c, d, e, he⟩ : ∃ a b c d e, F.specials = [a, b, c, d, e] := by
  match F.specials, h5 with
  | [a, b, c, d, e], _ => exact ⟨a, b, c, d, e, rfl⟩
 rw [he] at hj ⊢
 simp only [filC, he] at hf
 match j, hj with
 | 0, _ => simp [World.cell?, hf]
 | 1, _ => simp [World.cell?, hf]
 | 2, _ => simp [World.cell?, hf]
 | 3, _ => simp [World.cell?, hf]
 | 4, _ => simp [World.cell?, hf]
theorem any_mem (l : List Int) (x : Int) : ((l.take 5).any fun y => decide (x = y)) = decide (x ∈ l.take 5) := by
 rw [Bool.eq_iff_iff]
 simp
theorem newFlag_any {B rb : Nat} {R : Rdr} {P : Pts} {w : World} (h : RAt B w rb R P) (s : ByteArray) (hs : s.size ≤ 65536) (hn : findC R.file.classes (One.oneF R.file.kind s.data.toList) = none) (hb0 : 0 ≤ One.oneF R.file.kind s.data.toList) (hb1 : One.oneF R.file.kind s.data.toList ≤ 65535) :
  Calls Tryz.prog 113 #[ptr rb, .string s] w fun e w' => e = endX flgV (newFlag R s.data.toList) ∧ Below w.heap.size w w' := by
 obtain ⟨d0, -, dl, -, -, -, -⟩ := h.cells
 obtain ⟨k0, -, -, -, -, -, kz⟩ := h.file.cells
 have hlt := h.lt
 have hfl := h.file.lt
 have HO := hide (One.one_any R.file.kind s w (by unfold maxLen; omega))
 by_cases he : One.oneE R.file.kind s.data.toList = 0
 ·rw [he] at HO
  have HL := hide (fun W => leave_ok (ptr rb) W)
  have HC := hide (fun m => class_none (h.file.below (w' := w.drewN m) (below_drewN _ w m)) _ hb0 hb1 hn)
  have h5 := h.file.ok.spec
  have HK := hide (fun W (b : Below w.heap.size w W) => Tryz.flags_Contains P.fb 3 5 5 R.file.specials (One.oneF R.file.kind s.data.toList) W (by omega) (by omega) (fun j hj => (b.cell (p := ⟨P.fb, 3 + j, none⟩) hfl).trans (h.file.spec j hj)))
  rw [any_mem, List.take_of_length_le (Nat.le_of_eq h5)] at HK
  have hb5 : Below w.heap.size w w := Below.refl _ w
  by_cases hin : One.oneF R.file.kind s.data.toList ∈ R.file.specials
  ·rw [decide_eq_true hin] at HK
   rw [newFlag_taken he hin]
   have HV := hide (fun W (b : Below w.heap.size w W) => leaveIf_no rb R.line 115 W (by decide) (by decide) (lineB dl hlt b))
   clear h hn hb0 hb1 he hs hin h5 hb5 kz dl
   generalize One.oneF R.file.kind s.data.toList = x at *
   go_enter Tryz.func113, Tryz.ntmps113
   go_wp2_with (first | (go_at_call 69; refine (unhide HO).mono ?_; rintro e w2 ⟨rfl, m, rfl⟩) | (go_at_call 80; refine (unhide HL _).mono ?_; rintro e w3 ⟨rfl, rfl⟩))
   refine (unhide HC m).mono ?_
   rintro e w3 ⟨rfl, b3⟩
   have b4 : Below w.heap.size w w3 := (below_drewN w.heap.size w m).trans b3
   have e0 := (b4.cell (p := ⟨rb, 0, none⟩) hlt).trans d0
   have hsz := b4.size
   have hlt3 : rb < w3.heap.size := by omega
   have HB4 := hide b4
   clear b3 b4 d0 k0
   unfold noC
   go_wp2_with fail
   have b5 := (unhide HB4).alloc hsz (.cells #[.int .u16 0, .int .i64 0, .bool false, .int .i64 0, .int .i64 0] 48)
   refine (unhide HK _ b5).mono ?_
   rintro e w5 ⟨rfl, rfl⟩
   go_wp2_with fail
   refine (unhide HV _ b5).mono ?_
   rintro e w6 ⟨rfl, rfl⟩
   exact ⟨rfl, rfl, b5⟩
  ·rw [decide_eq_false hin] at HK
   rw [newFlag_ok he hn hin]
   have HV := hide (fun W => leaveIf_ok (ptr rb) 115 W)
   clear h hn hb0 hb1 he hs hin h5 hb5 kz dl
   generalize One.oneF R.file.kind s.data.toList = x at *
   go_enter Tryz.func113, Tryz.ntmps113
   go_wp2_with (first | (go_at_call 69; refine (unhide HO).mono ?_; rintro e w2 ⟨rfl, m, rfl⟩) | (go_at_call 80; refine (unhide HL _).mono ?_; rintro e w3 ⟨rfl, rfl⟩))
   refine (unhide HC m).mono ?_
   rintro e w3 ⟨rfl, b3⟩
   have b4 : Below w.heap.size w w3 := (below_drewN w.heap.size w m).trans b3
   have e0 := (b4.cell (p := ⟨rb, 0, none⟩) hlt).trans d0
   have hsz := b4.size
   have hlt3 : rb < w3.heap.size := by omega
   have HB4 := hide b4
   clear b3 b4 d0 k0
   unfold noC
   go_wp2_with fail
   have b5 := (unhide HB4).alloc hsz (.cells #[.int .u16 0, .int .i64 0, .bool false, .int .i64 0, .int .i64 0] 48)
   refine (unhide HK _ b5).mono ?_
   rintro e w5 ⟨rfl, rfl⟩
   go_wp2_with fail
   refine (unhide HV _).mono ?_
   rintro e w6 ⟨rfl, rfl⟩
   go_wp2
   go_ret
   exact ⟨rfl, b5⟩
 ·rw [newFlag_bad he]
  have HV := hide (fun m => leave_no rb R.line _ (w.drewN m) he (oneE_pos _ _) (lineB dl hlt (below_drewN _ w m)))
  clear h hn hb0 hb1 he hs hfl kz
  generalize One.oneE R.file.kind s.data.toList = cd at *
  go_enter Tryz.func113, Tryz.ntmps113
  go_wp2_with (first | (go_at_call 69; refine (unhide HO).mono ?_; rintro e w2 ⟨rfl, m, rfl⟩) | (go_at_call 80; refine (unhide HV _).mono ?_; rintro e w3 ⟨rfl, rfl⟩))
  exact ⟨rfl, rfl, below_drewN _ w m⟩
def WT : List TypeId := [84, 111, 74, 44, 48, 76, 3]
structure Kt (B pm hm : Nat) (w w' : World) : Prop where
 low : Below B w w'
 cells : ∀ (g : Nat) (cur : Array Value) (t : TypeId) (fz : Nat × Nat), w.heap[g]? = some (.cells cur t fz) → t ∉ WT → w'.heap[g]? = w.heap[g]?
 maps : ∀ (g : Nat) es c, w.heap[g]? = some (.map es c) → g ≠ pm → g ≠ hm → w'.heap[g]? = w.heap[g]?
theorem Kt.refl (B pm hm : Nat) (w : World) : Kt B pm hm w w := ⟨Below.refl _ _, fun _ _ _ _ _ _ => rfl, fun _ _ _ _ _ _ => rfl⟩
theorem Kt.trans {B pm hm : Nat} {a b c : World} (h : Kt B pm hm a b) (k : Kt B pm hm b c) : Kt B pm hm a c :=
 ⟨h.low.trans k.low, fun g cur t fz e n => (k.cells g cur t fz ((h.cells g cur t fz e n).trans e) n).trans (h.cells g cur t fz e n), fun g es c e n1 n2 => (k.maps g es c ((h.maps g es c e n1 n2).trans e) n1 n2).trans (h.maps g es c e n1 n2)⟩
theorem lt_some {w : World} {g : Nat} {o : Obj} (h : w.heap[g]? = some o) : g < w.heap.size := (Array.getElem?_eq_some_iff.1 h).1
theorem Kt.of_below {B pm hm : Nat} {a b : World} (h : Below a.heap.size a b) (hB : B ≤ a.heap.size) : Kt B pm hm a b :=
 ⟨h.mono hB, fun g _ _ _ e _ => h.block g (lt_some e), fun g _ _ e _ _ => h.block g (lt_some e)⟩
theorem Kt.of_kp {B pm hm g0 : Nat} {a b : World} {cs : Array Value} {t : TypeId} {fz : Nat × Nat} (h : Kp g0 a b) (l : Below B a b) (h0 : a.heap[g0]? = some (.cells cs t fz)) (ht : t ∈ WT) : Kt B pm hm a b :=
 ⟨l, fun g cur t' fz' e n => h.2 g (lt_some e) (by rintro rfl; rw [h0] at e; injection e with e; injection e with _ e _; subst e; exact n ht), fun g es c e _ _ => h.2 g (lt_some e) (by rintro rfl; rw [h0] at e; cases e)⟩
theorem Kt.str {B pm hm : Nat} {a b : World} {v : Value} {L : List ByteArray} {n : Nat} (h : Kt B pm hm a b) (hs : StrRow n a v L) : StrRow n b v L := str_kept hs fun g cur e => h.cells g cur 9 (0, 0) e (by decide)
def Res (B rb : Nat) (P : Pts) (w : World) (X : Except Er Rdr) (e : Ending) (w' : World) : Prop :=
 Kt B P.pm P.hm w w' ∧ match X with
 | .ok R' => e = .returned (.tuple #[]) ∧ ∃ P', RAt B w' rb R' P' ∧ P'.fb = P.fb ∧ P'.pm = P.pm ∧ P'.hm = P.hm
 | .error er => e = .panicked (chn er)
theorem Res.yes {B rb : Nat} {P P' : Pts} {w w' : World} {X : Except Er Rdr} {R' : Rdr} (hX : X = .ok R') (k : Kt B P.pm P.hm w w') (h : RAt B w' rb R' P') (e1 : P'.fb = P.fb) (e2 : P'.pm = P.pm) (e3 : P'.hm = P.hm) : Res B rb P w X (.returned (.tuple #[])) w' := by
 subst hX
 exact ⟨k, rfl, P', h, e1, e2, e3⟩
theorem Res.no {B rb : Nat} {P : Pts} {w w' : World} {X : Except Er Rdr} {er : Er} (hX : X = .error er) (k : Kt B P.pm P.hm w w') : Res B rb P w X (.panicked (chn er)) w' := by
 subst hX
 exact ⟨k, rfl⟩
theorem callOk {B rb : Nat} {P : Pts} {w : World} {X : Except Er Rdr} {R' : Rdr} {g : FuncId} {args : Array Value} (h : Calls Tryz.prog g args w (Res B rb P w X)) (hX : X = .ok R') : Calls Tryz.prog g args w fun e w' => e = .returned (.tuple #[]) ∧ Kt B P.pm P.hm w w' ∧ ∃ P', RAt B w' rb R' P' ∧ P'.fb = P.fb ∧ P'.pm = P.pm ∧ P'.hm = P.hm := by
 subst hX
 exact h.mono fun e w' ⟨k, q1, q2⟩ => ⟨q1, k, q2⟩
theorem callNo {B rb : Nat} {P : Pts} {w : World} {X : Except Er Rdr} {er : Er} {g : FuncId} {args : Array Value} (h : Calls Tryz.prog g args w (Res B rb P w X)) (hX : X = .error er) : Calls Tryz.prog g args w fun e w' => e = .panicked (chn er) ∧ Kt B P.pm P.hm w w' := by
 subst hX
 exact h.mono fun e w' ⟨k, q1⟩ => ⟨q1, k⟩
theorem RAt.kt {B rb : Nat} {R : Rdr} {P : Pts} {w w' : World} (h : RAt B w rb R P) (k : Kp rb w w') (l : Below B w w') : Kt B P.pm P.hm w w' := .of_kp k l h.rdr (by decide)
theorem RAt.base {B rb : Nat} {R : Rdr} {P : Pts} {w : World} (h : RAt B w rb R P) : B ≤ w.heap.size := Nat.le_trans h.rbB (Nat.le_of_lt h.lt)

theorem str_cells {n : Nat} {w : World} {v : Value} {L : List Bs} (h : StrRow n w v (L.map Fld.str)) : ∃ g cap, v = .slice (some ⟨g, 0, none⟩) L.length cap ∧ g < w.heap.size ∧ L.length ≤ cap ∧ cap ≤ maxLen ∧ (∃ cur, w.heap[g]? = some (.cells cur 9 (0, 0))) ∧ ∀ (j : Nat) x, L[j]? = some x → w.cell? ⟨g, j, none⟩ = some (.string (Fld.str x)) := by
 obtain ⟨g, cap, cur, e, hg, hh, h1, h2, h3, h4⟩ := h
 rw [List.length_map] at e h1 h4
 refine ⟨g, cap, e, lt_some hh, h1, h2, ⟨cur, hh⟩, fun j x hj => ?_⟩
 have hjl := (List.getElem?_eq_some_iff.1 hj).1
 have : (cur.toList.take L.length)[j]? = some (.string (Fld.str x)) := by
  rw [h4]
  simp [hj]
 rw [List.getElem?_take_of_lt hjl] at this
 simpa [World.cell?, hh] using this
theorem fstr_wd (l : Bs) : Fld.str l = Wd.str l := rfl
def GRes (B rb : Nat) (P : Pts) (w : World) (X : Except Er (List Bs × Rdr)) (e : Ending) (w' : World) : Prop :=
 Kp rb w w' ∧ Below B w w' ∧ match X with
 | .ok p => ∃ fv rv, e = .returned fv ∧ StrRow B w' fv (p.1.map Fld.str) ∧ RAt B w' rb p.2 { P with rv := rv }
 | .error er => e = .panicked (chn er)
theorem GRes.no {B rb : Nat} {P : Pts} {w w' : World} {X : Except Er (List Bs × Rdr)} {er : Er} (hX : X = .error er) (k : Kp rb w w') (l : Below B w w') : GRes B rb P w X (.panicked (chn er)) w' := by
 subst hX
 exact ⟨k, l, rfl⟩
theorem GRes.yes {B rb : Nat} {P : Pts} {w w' : World} {X : Except Er (List Bs × Rdr)} {row : List Bs} {R1 : Rdr} {fv rv : Value} (hX : X = .ok (row, R1)) (k : Kp rb w w') (l : Below B w w') (hs : StrRow B w' fv (row.map Fld.str)) (h : RAt B w' rb R1 { P with rv := rv }) : GRes B rb P w X (.returned fv) w' := by
 subst hX
 exact ⟨k, l, fv, rv, rfl, hs, h⟩
theorem gOk {B rb : Nat} {P : Pts} {w : World} {X : Except Er (List Bs × Rdr)} {row : List Bs} {R1 : Rdr} {g : FuncId} {args : Array Value} (h : Calls Tryz.prog g args w (GRes B rb P w X)) (hX : X = .ok (row, R1)) : Calls Tryz.prog g args w fun e w' => ∃ fv rv, e = .returned fv ∧ StrRow B w' fv (row.map Fld.str) ∧ RAt B w' rb R1 { P with rv := rv } ∧ Kp rb w w' ∧ Below B w w' := by
 subst hX
 exact h.mono fun e w' ⟨k, l, fv, rv, q1, q2, q3⟩ => ⟨fv, rv, q1, q2, q3, k, l⟩
theorem gNo {B rb : Nat} {P : Pts} {w : World} {X : Except Er (List Bs × Rdr)} {er : Er} {g : FuncId} {args : Array Value} (h : Calls Tryz.prog g args w (GRes B rb P w X)) (hX : X = .error er) : Calls Tryz.prog g args w fun e w' => e = .panicked (chn er) ∧ Kp rb w w' ∧ Below B w w' := by
 subst hX
 exact h.mono fun e w' ⟨k, l, q⟩ => ⟨q, k, l⟩
theorem grow_none {R : Rdr} {beg : List Bs} (h : R.rows = []) : grow R beg = .error (R.behind, 116) := by unfold grow; rw [h]
theorem grow_no {R : Rdr} {beg row : List Bs} {l : Nat} {t : List (Nat × List Bs)} (h : R.rows = (l, row) :: t) (hn : row.take beg.length ≠ beg) : grow R beg = .error (l, 116) := by unfold grow; rw [h]; simp [hn]
theorem grow_ok {R : Rdr} {beg row : List Bs} {l : Nat} {t : List (Nat × List Bs)} (h : R.rows = (l, row) :: t) (hn : row.take beg.length = beg) : grow R beg = .ok (row, { R with rows := t, line := l }) := by unfold grow; rw [h]; simp [hn]
theorem str_inj {a b : Bs} (h : Fld.str a = Fld.str b) : a = b := by
 have := congrArg (fun s : ByteArray => s.data.toList) h
 simpa [Fld.str] using this
theorem map_str_inj {a b : List Bs} (h : a.map Fld.str = b.map Fld.str) : a = b := by
 induction a generalizing b with
 | nil => cases b with
  | nil => rfl
  | cons x t => simp at h
 | cons y t ih => cases b with
  | nil => simp at h
  | cons x s =>
   simp only [List.map_cons, List.cons.injEq] at h
   rw [str_inj h.1, ih h.2]
theorem set_line {B rb : Nat} {R : Rdr} {P : Pts} {w : World} (h : RAt B w rb R P) (l : Nat) : LineAt (w.setCell ⟨rb, 2, none⟩ (.int .i64 (l : Nat))) rb l ∧ Kp rb w (w.setCell ⟨rb, 2, none⟩ (.int .i64 (l : Nat))) ∧ Below B w (w.setCell ⟨rb, 2, none⟩ (.int .i64 (l : Nat))) := by
 refine ⟨?_, kp_set w rb 2 _, (Below.refl B w).setCell (p := ⟨rb, 2, none⟩) h.rbB _⟩
 have := set_heap1 (k := 2) h.rdr (.int .i64 (l : Nat))
 simp [LineAt, World.cell?, this, rdrC]
theorem equal_any (gr cr gb cb : Nat) (row beg : List Bs) (w : World) (hle : beg.length ≤ row.length) (hmx : beg.length ≤ 9223372036854775807) (hc : ∀ (j : Nat) x, row[j]? = some x → w.cell? ⟨gr, j, none⟩ = some (.string (Fld.str x))) (hb : ∀ (j : Nat) x, beg[j]? = some x → w.cell? ⟨gb, j, none⟩ = some (.string (Fld.str x))) :
  Calls Tryz.prog 146 #[.slice (some ⟨gr, 0, none⟩) beg.length cr, .slice (some ⟨gb, 0, none⟩) beg.length cb] w fun e w' => e = .returned (.bool (decide (row.take beg.length = beg))) ∧ Below w.heap.size w w' := by
 have cl : ∀ (L : List Bs) (g : Nat), (∀ (j : Nat) x, L[j]? = some x → w.cell? ⟨g, j, none⟩ = some (.string (Fld.str x))) → ∀ j, j < (L.map Fld.str).length → w.cell? ⟨g, 0 + j, none⟩ = some (.string ((L.map Fld.str).getD j ByteArray.empty)) := by
  intro L g h j hj
  rw [List.length_map] at hj
  rw [Nat.zero_add, h j L[j] (List.getElem?_eq_getElem hj)]
  simp [hj]
 refine (Tryz.slices_Equal_string gr 0 beg.length cr gb 0 beg.length cb (row.map Fld.str) (beg.map Fld.str) w (by simpa using hle) (by simp) hmx hmx (cl row gr hc) (cl beg gb hb)).mono ?_
 rintro e w' ⟨rfl, q, rfl⟩
 refine ⟨?_, below_drewN _ w q⟩
 have : (List.take beg.length (List.map Fld.str row) = List.take beg.length (List.map Fld.str beg)) ↔ (row.take beg.length = beg) := by
  rw [show List.take beg.length (List.map Fld.str beg) = List.map Fld.str beg by rw [List.take_of_length_le (by simp)], ← List.map_take]
  exact ⟨map_str_inj, fun h => by rw [h]⟩
 simp only [this]
theorem groupRow_any {B rb n : Nat} {R : Rdr} {P : Pts} {w : World} (h : RAt B w rb R P) (beg : List Bs) (bv : Value) (hbeg : StrRow n w bv (beg.map Fld.str)) (hb0 : beg ≠ []) :
  Calls Tryz.prog 115 #[ptr rb, bv] w (GRes B rb P w (grow R beg)) := by
 obtain ⟨d0, d1, d2, d3, d4, d5, d6⟩ := h.cells
 have hlt := h.lt
 rcases hR : R.rows with _ | ⟨⟨l, row⟩, t⟩
 ·obtain ⟨ao, cap, e1, -, -, -, -⟩ := h.rows
  rw [hR] at e1
  rw [e1] at d1
  obtain ⟨s1, s2, s3⟩ := set_line h R.behind
  have HV := hide (leave_no rb R.behind 116 _ (by decide) (by decide) s1)
  have HG := hide (grow_none (beg := beg) hR)
  have HK := hide s2
  have HB := hide s3
  have d2' := d2
  unfold LineAt at d2'
  clear d0 d4 d5 d2 hR hbeg h s1 s2 s3 e1 hb0
  go_enter Tryz.func115, Tryz.ntmps115
  go_wp2_with (go_at_call 80; refine (unhide HV).mono ?_; rintro e w2 ⟨rfl, rfl⟩)
  exact ⟨rfl, GRes.no (unhide HG) (unhide HK) (unhide HB)⟩
 ·obtain ⟨ao, cap, e1, -, -, -, -⟩ := h.rows
  rw [hR, List.length_cons] at e1
  rw [e1] at d1
  have HN := hide (nextRow_any h hR)
  have hq : ¬ ((t.length + 1 : Nat) : Int) = 0 := by omega
  obtain ⟨gb, cb, rfl, hgb, b1, b2, ⟨bcur, b3⟩, b4⟩ := str_cells hbeg
  have hgr : gb ≠ rb := by
   rintro rfl
   rw [h.rdr] at b3
   injection b3 with b3
   injection b3 with _ b3 _
   exact absurd b3 (by decide)
  have HB4 : Hid (∀ W, Kp rb w W → ∀ (j : Nat) x, beg[j]? = some x → W.cell? ⟨gb, j, none⟩ = some (.string (Fld.str x))) := fun W k j x hj => (World.cell?_of_block (a := ⟨gb, j, none⟩) (k.2 gb hgb hgr)).trans (b4 j x hj)
  have hbl : 0 < beg.length := List.length_pos_iff.2 hb0
  have hmx : beg.length ≤ 9223372036854775807 := by unfold maxLen at b2; omega
  by_cases hle : beg.length ≤ row.length
  ·have hlei : (beg.length : Int) ≤ (row.length : Int) := by omega
   by_cases heq : row.take beg.length = beg
   ·have HG := hide (grow_ok (R := R) hR heq)
    have HE := hide heq
    clear d0 d2 d3 d4 d5 hR h hbeg hb0 b3 b4 heq
    go_enter Tryz.func115, Tryz.ntmps115
    go_wp2_with (go_at_call 90; refine (unhide HN).mono ?_; rintro e w2 ⟨fv, rv, rfl, r1, r2, r3, r4⟩; obtain ⟨gr, cr, rfl, hgrl, c1, c2, -, c4⟩ := str_cells r1; have H1 := hide r1; have H2 := hide r2; have H3 := hide r3; have H4 := hide r4; have HC := hide c4; clear r1 r2 r3 r4 c4)
    refine (equal_any gr cr gb cb row beg w2 hle hmx (unhide HC) (unhide HB4 _ (unhide H4))).mono ?_
    rintro e w3 ⟨rfl, b3⟩
    rw [decide_eq_true (unhide HE)]
    have HB3 := hide b3
    clear b3 HC HB4
    go_wp2_with (go_at_call 91; refine (leaveIf_f _ _ _ _ rfl).mono ?_; rintro e w4 ⟨rfl, rfl⟩)
    go_ret
    exact GRes.yes (unhide HG) (kp_trans (unhide H4) (kp_below (unhide HB3))) ((unhide H3).trans ((unhide HB3).mono (unhide H2).base)) (str_kept (unhide H1) (below_kept (unhide HB3))) ((unhide H2).below (unhide HB3))
   ·have HG := hide (grow_no (R := R) hR heq)
    have HE := hide heq
    clear d0 d2 d3 d4 d5 hR h hbeg hb0 b3 b4 heq
    go_enter Tryz.func115, Tryz.ntmps115
    go_wp2_with (go_at_call 90; refine (unhide HN).mono ?_; rintro e w2 ⟨fv, rv, rfl, r1, r2, r3, r4⟩; obtain ⟨gr, cr, rfl, hgrl, c1, c2, -, c4⟩ := str_cells r1; have H1 := hide r1; have H2 := hide r2; have H3 := hide r3; have H4 := hide r4; have HC := hide c4; clear r1 r2 r3 r4 c4)
    refine (equal_any gr cr gb cb row beg w2 hle hmx (unhide HC) (unhide HB4 _ (unhide H4))).mono ?_
    rintro e w3 ⟨rfl, b3⟩
    rw [decide_eq_false (unhide HE)]
    have HB3 := hide b3
    have HV := hide (leaveIf_no rb l 116 w3 (by decide) (by decide) ((unhide H2).below b3).cells.2.2.1)
    clear b3 HC HB4
    go_wp2_with (go_at_call 91; refine (unhide HV).mono ?_; rintro e w4 ⟨rfl, rfl⟩)
    exact ⟨rfl, GRes.no (unhide HG) (kp_trans (unhide H4) (kp_below (unhide HB3))) ((unhide H3).trans ((unhide HB3).mono (unhide H2).base))⟩
  ·have hlei : ¬ (beg.length : Int) ≤ (row.length : Int) := by omega
   have HG := hide (grow_no (R := R) (beg := beg) hR (fun e => hle (by rw [← e]; simp; omega)))
   clear d0 d2 d3 d4 d5 hR h hbeg hb0 b3 b4
   go_enter Tryz.func115, Tryz.ntmps115
   go_wp2_with (go_at_call 90; refine (unhide HN).mono ?_; rintro e w2 ⟨fv, rv, rfl, r1, r2, r3, r4⟩; obtain ⟨gr, cr, rfl, hgrl, c1, c2, -, c4⟩ := str_cells r1; have H1 := hide r1; have H2 := hide r2; have H3 := hide r3; have H4 := hide r4; have HV := hide (leaveIf_no rb l 116 w2 (by decide) (by decide) r2.cells.2.2.1); clear r1 r2 r3 r4 c4)
   go_wp2_with (go_at_call 91; refine (unhide HV).mono ?_; rintro e w4 ⟨rfl, rfl⟩)
   exact ⟨rfl, GRes.no (unhide HG) (unhide H4) (unhide H3)⟩
def Mx (B : Nat) (w : World) : Prop := 0 < B ∧ ∃ m : Int, w.cell? ⟨0, 0, none⟩ = some (.int .i64 m)
theorem Mx.low {B : Nat} {w w' : World} (h : Mx B w) (k : Below B w w') : Mx B w' := by
 obtain ⟨h1, m, h2⟩ := h
 exact ⟨h1, m, (k.cell (p := ⟨0, 0, none⟩) h1).trans h2⟩
theorem Mx.so {B : Nat} {w : World} (h : Mx B w) : So.MaxIs w := h.2
theorem Mx.ea {B : Nat} {w : World} (h : Mx B w) : EachW.MaxIs w := h.2
theorem flat_get {α : Type} {f : α → List Value} {m : Nat} (hf : ∀ x, (f x).length = m) : ∀ {l : List α} {i : Nat} {x : α} {k : Nat}, l[i]? = some x → k < m → (l.flatMap f)[i * m + k]? = (f x)[k]?
 | [], i, x, k, h, _ => by simp at h
 | y :: t, 0, x, k, h, hk => by
  simp only [List.getElem?_cons_zero, Option.some.injEq] at h
  subst h
  rw [List.flatMap_cons, Nat.zero_mul, Nat.zero_add, List.getElem?_append_left (by rw [hf]; exact hk)]
 | y :: t, i + 1, x, k, h, hk => by
  rw [List.getElem?_cons_succ] at h
  rw [List.flatMap_cons, List.getElem?_append_right (by rw [hf]; rw [Nat.succ_mul]; omega), hf, show (i + 1) * m + k - m = i * m + k by rw [Nat.succ_mul]; omega]
  exact flat_get hf h hk
theorem own_at {w : World} {B : Nat} {e : TypeId} {size n : Nat} {v : Value} {xs : List Value} (h : w.ownsRow B e size v n xs) (hn : 0 < n) : ∃ g cap, v = .slice (some ⟨g, 0, none⟩) n cap ∧ B ≤ g ∧ g < w.heap.size ∧ n ≤ cap ∧ cap ≤ maxLen ∧ (∃ cur, w.heap[g]? = some (.cells cur e (0, 0))) ∧ ∀ j, j < n * size → w.cell? ⟨g, j, none⟩ = xs[j]? := by
 obtain ⟨hl, ⟨e1, e2⟩ | ⟨g, cap, cur, e1, h1, hg, h2, h3, h4, h5⟩⟩ := id h
 ·omega
 ·subst e1
  exact ⟨g, cap, rfl, h1, lt_some hg, h2, h3, ⟨cur, hg⟩, fun j hj => h.cellAt j hj⟩
theorem own_len {w : World} {B : Nat} {e : TypeId} {size n : Nat} {v : Value} {xs : List Value} (h : w.ownsRow B e size v n xs) : ∃ ao cap, v = .slice ao n cap ∧ n ≤ cap ∧ cap ≤ maxLen := by
 obtain ⟨hl, ⟨e1, e2⟩ | ⟨g, cap, cur, e1, h1, hg, h2, h3, h4, h5⟩⟩ := h
 ·subst e2
  exact ⟨none, 0, e1, Nat.le_refl _, Nat.zero_le _⟩
 ·exact ⟨_, cap, e1, h2, h3⟩
def clsV (c : Cls) : Value := .agg #[.int .u16 c.flag, .int .i64 c.kind, .bool c.cross, .int .i64 (c.first : Nat), .int .i64 (c.count : Nat)]
theorem findC_get {C : List Cls} {x : Int} {i : Nat} (h : findC C x = some i) : ∃ c, C[i]? = some c ∧ c.flag = x := by
 induction C generalizing i with
 | nil => cases h
 | cons a t ih =>
  unfold findC at h
  split at h
  ·rename_i e
   injection h with h
   subst h
   exact ⟨a, rfl, e⟩
  ·obtain ⟨j, hj, rfl⟩ := Option.map_eq_some_iff.1 h
   exact ih hj
theorem class_some {B : Nat} {F : Fil} {P : Pts} {w : World} (h : FAt B w F P) (x : Int) (h0 : 0 ≤ x) (h1 : x ≤ 65535) {i : Nat} {c : Cls} (hf : findC F.classes x = some i) (hc : F.classes[i]? = some c) :
  Calls Tryz.prog 15 #[.pointer (some ⟨P.fb, 0, none⟩), .int .u16 x] w fun e w' => e = .returned (.tuple #[clsV c, .bool true]) ∧ Below w.heap.size w w' := by
 obtain ⟨d0, d9, d10, d11, d12, d13, dz⟩ := h.cells
 obtain ⟨n, hn, hm⟩ := h.plc
 have hk := fun o => (hm.kept (w' := w.alloc o) (Below.heap_alloc w o _ hm.lt)).look2 lawF Tryz.underlying109 (zero3 (w.alloc o)) (keyF h0 h1)
 simp only [plc, hf, Option.map_some, Option.getD_some, Option.isSome_some] at hk
 have hlt := h.lt
 have hi := (List.getElem?_eq_some_iff.1 hc).1
 obtain ⟨g, cap, e1, hgB, hg, hcap, hmx, -, hcl⟩ := own_at h.clss (by omega)
 have q : ∀ k, k < 5 → w.cell? ⟨g, i * 5 + k, none⟩ = (clsC c)[k]? := fun k hk => (hcl _ (by omega)).trans (flat_get (f := clsC) (m := 5) (fun _ => rfl) hc hk)
 have q0 := q 0 (by decide)
 have q1 := q 1 (by decide)
 have q2 := q 2 (by decide)
 have q3 := q 3 (by decide)
 have q4 := q 4 (by decide)
 simp only [clsC, List.getElem?_cons_zero, List.getElem?_cons_succ, Nat.add_zero] at q0 q1 q2 q3 q4
 rw [e1] at d11
 have hii : (i : Int) < (F.classes.length : Int) := by omega
 have hi0 : ¬ (i : Int) < 0 := by omega
 unfold maxLen at hmx
 clear h hm hf h0 h1 d9 d10 d12 hn q hcl hc e1 d0
 unfold clsV
 go_enter Tryz.func15, Tryz.ntmps15
 go_wp2
 refine bodyPost_ret (v := .tuple #[.agg #[.int .u16 c.flag, .int .i64 c.kind, .bool c.cross, .int .i64 (c.first : Nat), .int .i64 (c.count : Nat)], .bool true]) (by simp [results, Tryz.results15, go_sem]) rfl ⟨rfl, ?_⟩
 (repeat (first | exact Below.refl _ _ | refine Below.drew ?_ | refine Below.alloc ?_ (by first | (simp; done) | (simp; omega)) _ | refine Below.setCell ?_ (by first | (simp; done) | (simp; omega)) _))
theorem hasAli {B : Nat} {F : Fil} {P : Pts} {w : World} (h : FAt B w F P) : Calls Tryz.prog 40 #[.pointer (some ⟨P.fb, 0, none⟩)] w fun e w' => e = .returned (.bool (decide (F.aliases ≠ []))) ∧ w' = w := by
 obtain ⟨-, -, d10, -, -, -, -⟩ := h.cells
 obtain ⟨ao, cap, e1, -, -⟩ := own_len h.alis
 rw [e1] at d10
 have hE : Hid ((decide (F.aliases ≠ []) : Bool) = decide ((0 : Int) < (F.aliases.length : Int))) := by
  rw [Hid, Bool.eq_iff_iff]
  cases F.aliases with
  | nil => simp
  | cons a t => simp
 rw [unhide hE]
 generalize F.aliases.length = n at *
 clear h hE e1
 go_enter Tryz.func40, Tryz.ntmps40
 go_wp2
 all_goals
  go_ret
  exact ⟨by first | (simp; done) | (simp; omega), rfl⟩
theorem fnx_nil (B : Nat) (w : World) : FNx B w (.slice none 0 0) [] := .inl ⟨rfl, rfl⟩
theorem FNx.low {B C : Nat} {w : World} {v : Value} {l : List Int} (h : FNx B w v l) (k : C ≤ B) : FNx C w v l := h.imp id (·.low k)
theorem FNx.arg {B : Nat} {w : World} {v : Value} {l : List Int} (h : FNx B w v l) : So.FArg w v l := by
 rcases h with ⟨rfl, rfl⟩ | h
 ·exact So.nil_farg w
 ·exact h.arg
theorem readFlags (kind : Int) (s : ByteArray) (w : World) (hM : So.MaxIs w) (hs : s.size ≤ 1048576) :
  Calls Tryz.prog 41 #[.int .i64 kind, .string s] w fun e w' => ∃ u, e = .returned (.tuple #[u, .int .i64 (So.rE kind s.data.toList)]) ∧ FNx w.heap.size w' u (So.rS kind s.data.toList) ∧ Below w.heap.size w w' := by
 unfold So.rS
 cases hk : One.isK kind
 ·refine (So.read_bad kind s w hk).mono ?_
  rintro e w' ⟨rfl, rfl⟩
  have e1 : So.rE kind s.data.toList = 30 := by unfold So.rE; rw [hk]; rfl
  rw [e1]
  exact ⟨_, rfl, fnx_nil _ _, Below.refl _ _⟩
 ·refine (So.read_any kind s w hk hM hs).mono ?_
  rintro e w' ⟨u, rfl, hB, h1, h2⟩
  have e1 : So.rE kind s.data.toList = So.readE (So.vals kind s.data.toList) := by unfold So.rE; rw [hk]; rfl
  rw [e1]
  by_cases h0 : So.readE (So.vals kind s.data.toList) = 0
  ·rw [if_pos h0]
   exact ⟨u, rfl, .inr (h1 h0), hB⟩
  ·rw [if_neg h0]
   have := h2 h0
   subst this
   exact ⟨_, rfl, fnx_nil _ _, hB⟩
theorem num_pos {s : Bs} {m : Nat} (h : Num.numE s m = 0) : Num.numN s m = ((Num.numN s m).toNat : Nat) ∧ (Num.numN s m).toNat ≤ m := by
 unfold Num.numE at h
 split at h
 ·rename_i hg
  rw [Num.numN_good hg]
  have : (Num.numVal s : Int) ≤ m := by
   unfold Num.good at hg
   simp at hg
   omega
  omega
 ·omega
theorem numE_or (s : Bs) (m : Int) : Num.numE s m = 0 ∨ Num.numE s m = 13 := by
 unfold Num.numE
 split <;> simp
theorem flags_any {B : Nat} {F : Fil} {P : Pts} {w : World} (h : FAt B w F P) (hM : Mx B w) (s : ByteArray) (hs : s.size ≤ 1048576) :
  Calls Tryz.prog 18 #[.pointer (some ⟨P.fb, 0, none⟩), .string s] w fun e w' => ∃ u, e = .returned (.tuple #[u, .int .i64 (flgE F s.data.toList)]) ∧ FNx w.heap.size w' u (flgS F s.data.toList) ∧ Below w.heap.size w w' := by
 obtain ⟨d0, -, d10, -, -, -, dz⟩ := h.cells
 have HA := hide (hasAli h)
 by_cases ha : F.aliases = []
 ·rw [decide_eq_false (by simp [ha])] at HA
  have e1 : flgE F s.data.toList = So.rE F.kind s.data.toList := by unfold flgE; rw [if_pos ha]
  have e2 : flgS F s.data.toList = So.rS F.kind s.data.toList := by unfold flgS; rw [if_pos ha]
  rw [e1, e2]
  have HR := hide (readFlags F.kind s w hM.so (by omega))
  clear e1 e2 ha h d10 hM
  generalize So.rE F.kind s.data.toList = c at *
  generalize So.rS F.kind s.data.toList = S at *
  go_enter Tryz.func18, Tryz.ntmps18
  go_wp2_with (first | (go_at_call 40; refine (unhide HA).mono ?_; rintro e w2 ⟨rfl, rfl⟩) | (go_at_call 41; refine (unhide HR).mono ?_; rintro e w3 ⟨u, rfl, f3, b3⟩))
  go_ret2
  exact ⟨u, rfl, f3, b3⟩
 ·rw [decide_eq_true ha] at HA
  have hpos : 0 < F.aliases.length := List.length_pos_iff.2 ha
  have h1024 := h.ok.ali
  obtain ⟨g, cap, e0, hgB, hg, hcap, hmx, -, hcl⟩ := own_at h.alis hpos
  rw [e0] at d10
  have HN := hide (fun W => NumW.number_any s (F.aliases.length : Int) W (by unfold maxLen; omega) (by omega) (by omega))
  by_cases hq : Num.numE s.data.toList F.aliases.length = 0 ∧ flgN F s.data.toList ≠ 0
  ·have e1 : flgE F s.data.toList = 0 := by unfold flgE; rw [if_neg ha, if_pos hq]
   have e2 : flgS F s.data.toList = (F.aliases[flgN F s.data.toList - 1]?).getD [] := by unfold flgS; rw [if_neg ha, if_pos hq]
   obtain ⟨n1, n2⟩ := num_pos hq.1
   have hq1 := hq.1
   have hq2 := hq.2
   unfold flgN at hq2 e2
   rw [hq1, n1] at HN
   rw [e1, e2]
   generalize (Num.numN s.data.toList F.aliases.length).toNat = k at *
   obtain ⟨a, hka⟩ : ∃ a, F.aliases[k - 1]? = some a := ⟨_, List.getElem?_eq_getElem (by omega)⟩
   obtain ⟨v, hkv⟩ : ∃ v, P.av[k - 1]? = some v := ⟨_, List.getElem?_eq_getElem (by rw [h.aliF.1]; omega)⟩
   have hfn := h.aliF.2 _ _ _ hkv hka
   have hcv : w.cell? ⟨g, k - 1, none⟩ = some v := (hcl _ (by omega)).trans hkv
   rw [hka, Option.getD_some]
   obtain ⟨hset, hlen⟩ := h.ok.aliS a (List.mem_of_getElem? hka)
   have HO := hide (So.of_set v a w hfn.arg (by omega))
   rw [hset] at HO
   have hk0 : ¬ ((k : Int) = 0) := by omega
   have hk1 : ¬ ((k : Int) - 1 < 0) := by omega
   have hk2 : ((k : Int) - 1) < (F.aliases.length : Int) := by omega
   have hk3 : ((k : Int) - 1).toNat = k - 1 := by omega
   have hkb : (k : Int) ≤ 65536 := by omega
   generalize F.aliases.length = N at *
   obtain ⟨ao, cp, rfl, -⟩ := hfn.arg
   clear e1 e2 ha h hM hq hq1 n1 hka hkv hset hfn hcl e0 d0
   go_enter Tryz.func18, Tryz.ntmps18
   go_wp2_with (first | (go_at_call 40; refine (unhide HA).mono ?_; rintro e w2 ⟨rfl, rfl⟩) | (go_at_call 42; refine (unhide HN _).mono ?_; rintro e w3 ⟨rfl, rfl⟩) | (go_at_call 43; refine (unhide HO).mono ?_; rintro e w4 ⟨u, rfl, f4, b4⟩))
   go_ret2
   exact ⟨u, rfl, .inr f4, b4⟩
  ·have e1 : flgE F s.data.toList = 13 := by unfold flgE; rw [if_neg ha, if_neg hq]
   have e2 : flgS F s.data.toList = [] := by unfold flgS; rw [if_neg ha, if_neg hq]
   rw [e1, e2]
   have hcs : Hid ((Num.numE s.data.toList F.aliases.length = 0 ∧ Num.numN s.data.toList F.aliases.length = 0) ∨ Num.numE s.data.toList F.aliases.length = 13) := by
    rcases numE_or s.data.toList F.aliases.length with q | q
    ·obtain ⟨n1, -⟩ := num_pos q
     unfold flgN at hq
     have z : ¬ (Num.numN s.data.toList F.aliases.length).toNat ≠ 0 := fun z => hq ⟨q, z⟩
     exact .inl ⟨q, by omega⟩
    ·exact .inr q
   clear e1 e2 ha h hM hq e0 d0 hcl
   rcases unhide hcs with ⟨q1, q2⟩ | q1
   ·rw [q1, q2] at HN
    clear q1 q2 hcs
    generalize F.aliases.length = N at *
    go_enter Tryz.func18, Tryz.ntmps18
    go_wp2_with (first | (go_at_call 40; refine (unhide HA).mono ?_; rintro e w2 ⟨rfl, rfl⟩) | (go_at_call 42; refine (unhide HN _).mono ?_; rintro e w3 ⟨rfl, rfl⟩))
    go_ret2
    exact ⟨_, rfl, fnx_nil _ _, Below.refl _ _⟩
   ·rw [q1] at HN
    clear q1 hcs
    generalize Num.numN s.data.toList F.aliases.length = nn at *
    generalize F.aliases.length = N at *
    go_enter Tryz.func18, Tryz.ntmps18
    go_wp2_with (first | (go_at_call 40; refine (unhide HA).mono ?_; rintro e w2 ⟨rfl, rfl⟩) | (go_at_call 42; refine (unhide HN _).mono ?_; rintro e w3 ⟨rfl, rfl⟩))
    go_ret2
    exact ⟨_, rfl, fnx_nil _ _, Below.refl _ _⟩
def ARes (w : World) (X : Except Er (Bs × List Int)) (e : Ending) (w' : World) : Prop :=
 Below w.heap.size w w' ∧ match X with
 | .ok p => ∃ u, e = .returned (.tuple #[.string (Wd.str p.1), u]) ∧ FNx w.heap.size w' u p.2
 | .error er => e = .panicked (chn er)
theorem ARes.no {w w' : World} {X : Except Er (Bs × List Int)} {er : Er} (hX : X = .error er) (k : Below w.heap.size w w') : ARes w X (.panicked (chn er)) w' := by
 subst hX
 exact ⟨k, rfl⟩
theorem ARes.yes {w w' : World} {X : Except Er (Bs × List Int)} {p : Bs × List Int} {u : Value} (hX : X = .ok p) (k : Below w.heap.size w w') (h : FNx w.heap.size w' u p.2) : ARes w X (.returned (.tuple #[.string (Wd.str p.1), u])) w' := by
 subst hX
 exact ⟨k, u, rfl, h⟩
theorem aOk {w : World} {X : Except Er (Bs × List Int)} {p : Bs × List Int} {g : FuncId} {args : Array Value} (h : Calls Tryz.prog g args w (ARes w X)) (hX : X = .ok p) : Calls Tryz.prog g args w fun e w' => ∃ u, e = .returned (.tuple #[.string (Wd.str p.1), u]) ∧ FNx w.heap.size w' u p.2 ∧ Below w.heap.size w w' := by
 subst hX
 exact h.mono fun e w' ⟨k, u, q1, q2⟩ => ⟨u, q1, q2, k⟩
theorem aNo {w : World} {X : Except Er (Bs × List Int)} {er : Er} {g : FuncId} {args : Array Value} (h : Calls Tryz.prog g args w (ARes w X)) (hX : X = .error er) : Calls Tryz.prog g args w fun e w' => e = .panicked (chn er) ∧ Below w.heap.size w w' := by
 subst hX
 exact h.mono fun e w' ⟨k, q⟩ => ⟨q, k⟩
theorem readE_pos (l : List Int) : 0 ≤ So.readE l := by
 unfold So.readE
 repeat' split
 all_goals omega
theorem rE_pos (k : Int) (s : Bs) : 0 ≤ So.rE k s := by
 unfold So.rE
 split
 ·exact readE_pos _
 ·omega
theorem flgE_pos (F : Fil) (s : Bs) : 0 ≤ flgE F s := by
 unfold flgE
 split
 ·exact rE_pos _ _
 ·split <;> omega
theorem added_pre {F : Fil} {l : Nat} {f a r d : Bs} (h : Wd.rd [] f = some (a, r, true)) (ha : addW l a = .ok d) : added F l 1 f = .error (l, 118) := by unfold added; rw [h]; simp [ha]
theorem added_bad {F : Fil} {l : Nat} {k : Int} {f a r d : Bs} (h : Wd.rd [] f = some (a, r, true)) (ha : addW l a = .ok d) (hk : k ≠ 1) (he : flgE F r ≠ 0) : added F l k f = .error (l, (flgE F r).toNat) := by unfold added; rw [h]; simp [ha, hk, he]
theorem added_fl {F : Fil} {l : Nat} {k : Int} {f a r d : Bs} (h : Wd.rd [] f = some (a, r, true)) (ha : addW l a = .ok d) (hk : k ≠ 1) (he : flgE F r = 0) : added F l k f = .ok (d, flgS F r) := by unfold added; rw [h]; simp [ha, hk, he]
theorem added_all {B rb : Nat} {R : Rdr} {P : Pts} {w : World} (h : RAt B w rb R P) (hM : Mx B w) (k : Int) (s : ByteArray) (hs : s.size ≤ 65536) :
  Calls Tryz.prog 149 #[ptr rb, .int .i64 k, .string s] w (ARes w (added R.file R.line k s.data.toList)) := by
 obtain ⟨d0, -, hl, -, -, -, -⟩ := h.cells
 have hb := h.lt
 by_cases hn : ∀ a r, Wd.rd [] s.data.toList ≠ some (a, r, true)
 ·refine (added_any rb R.line R.file k s w hs hb hl hn).mono ?_
  rintro e w' ⟨rfl, b⟩
  cases hx : added R.file R.line k s.data.toList with
  | error er => exact ARes.no rfl b
  | ok p =>
   have hp : p.2 = [] := by
    unfold added at hx
    rcases hr : Wd.rd [] s.data.toList with _ | ⟨a, r, c⟩
    ·rw [hr] at hx; cases hx
    ·cases c with
     | true => exact absurd hr (hn a r)
     | false =>
      rw [hr] at hx
      simp only at hx
      split at hx
      ·cases hx
      ·simp at hx; rw [← hx]
   exact ARes.yes rfl b (by rw [hp]; exact fnx_nil _ _)
 ·obtain ⟨a, r, hr⟩ : ∃ a r, Wd.rd [] s.data.toList = some (a, r, true) := by
   exact Classical.byContradiction fun q => hn fun a r e => q ⟨a, r, e⟩
  have hR := RdW.read_any s w (by omega)
  rw [hr] at hR
  have HR := hide hR
  unfold RdW.ans at HR
  have hz := rd_len0 hr
  have HL := hide (fun W => leave_ok (ptr rb) W)
  have HF := hide (fun W (b : Below w.heap.size w W) => flags_any (h.file.below b) (hM.low (b.mono h.base)) (Wd.str r) (by omega))
  rw [Wd.str_list] at HF
  have HBr := hide h.base
  have HA := fun w2 (b2 : Below w.heap.size w w2) => checkAffix_any rb R.line (Wd.str a) w2 (by omega) (Nat.lt_of_lt_of_le hb b2.size) (lineB hl hb b2)
  rw [Wd.str_list] at HA
  have HVI := hide (fun w2 (b2 : Below w.heap.size w w2) => leaveIf_no rb R.line 118 w2 (by decide) (by decide) (lineB hl hb b2))
  have HIF := hide (fun W => leaveIf_ok (ptr rb) 118 W)
  have HVF : Hid (∀ w2, Below w.heap.size w w2 → flgE R.file r ≠ 0 → Calls Tryz.prog 80 #[.pointer (some ⟨rb, 0, none⟩), .int .i64 (flgE R.file r)] w2 fun e w' => e = .panicked (chn (R.line, (flgE R.file r).toNat)) ∧ w' = w2) := fun w2 b2 hc => leave_no rb R.line _ w2 hc (flgE_pos _ _) (lineB hl hb b2)
  clear hR hs hz hn hM h hl
  have H0 := hide hr
  clear hr
  generalize s.data.toList = sl at *
  by_cases h48 : a = [48]
  ·have hq : ((Wd.str a).toList == [48]) = true := by rw [h48, Lib.toList_data]; rfl
   have HD : addW R.line a = .ok [] := by rw [h48]; exact addW_zero
   clear h48
   by_cases hk : k = 1
   ·subst hk
    have HX := hide (added_pre (F := R.file) (l := R.line) (unhide H0) HD)
    clear HF HVF HIF HA
    go_enter Tryz.func149, Tryz.ntmps149
    go_wp2_with (first | (go_at_call 147; refine (unhide HR).mono ?_; rintro e w2 ⟨rfl, b2⟩; have e2 := (b2.cell (p := ⟨rb, 0, none⟩) hb).trans d0; clear d0) | (go_at_call 80; refine (unhide HL _).mono ?_; rintro e w3 ⟨rfl, rfl⟩) | (go_at_call 91; refine (unhide HVI _ b2).mono ?_; rintro e w6 ⟨rfl, rfl⟩))
    exact ⟨rfl, ARes.no (unhide HX) b2⟩
   ·by_cases he : flgE R.file r = 0
    ·have hkb : (k == 1) = false := by simpa using hk
     have HX := hide (added_fl (F := R.file) (l := R.line) (k := k) (unhide H0) HD hk he)
     rw [he] at HF
     clear HVF HVI hk he HA
     go_enter Tryz.func149, Tryz.ntmps149
     go_wp2_with (first | (go_at_call 147; refine (unhide HR).mono ?_; rintro e w2 ⟨rfl, b2⟩; have e2 := (b2.cell (p := ⟨rb, 0, none⟩) hb).trans d0; clear d0) | (go_at_call 80; refine (unhide HL _).mono ?_; rintro e w3 ⟨rfl, rfl⟩) | (go_at_call 91; refine (leaveIf_f _ _ _ _ (by first | rfl | simpa using hkb)).mono ?_; rintro e w6 ⟨rfl, rfl⟩) | (go_at_call 18; refine (unhide HF _ b2).mono ?_; rintro e w7 ⟨u, rfl, f7, b7⟩; have b8 := btr b2 b7))
     go_ret2
     exact ARes.yes (unhide HX) b8 (f7.low b2.size)
    ·have hkb : (k == 1) = false := by simpa using hk
     have HX := hide (added_bad (F := R.file) (l := R.line) (k := k) (unhide H0) HD hk he)
     have HVG := hide (fun w2 b2 => unhide HVF w2 b2 he)
     generalize flgE R.file r = cd at *
     clear HVF HVI hk he HA
     go_enter Tryz.func149, Tryz.ntmps149
     go_wp2_with (first | (go_at_call 147; refine (unhide HR).mono ?_; rintro e w2 ⟨rfl, b2⟩; have e2 := (b2.cell (p := ⟨rb, 0, none⟩) hb).trans d0; clear d0) | (go_at_call 80; refine (unhide HL _).mono ?_; rintro e w3 ⟨rfl, rfl⟩; clear HL) | (go_at_call 91; refine (leaveIf_f _ _ _ _ (by first | rfl | simpa using hkb)).mono ?_; rintro e w6 ⟨rfl, rfl⟩) | (go_at_call 18; refine (unhide HF _ b2).mono ?_; rintro e w7 ⟨u, rfl, f7, b7⟩; have b8 := btr b2 b7))
     refine (unhide HVG _ b8).mono ?_
     rintro e w8 ⟨rfl, rfl⟩
     exact ⟨rfl, ARes.no (unhide HX) b8⟩
  ·have hne : ((Wd.str a).toList == [48]) = false := by
    rw [beq_eq_false_iff_ne, Lib.toList_data, Wd.str_list]
    exact h48
   cases hc : ckA R.line a with
   | error er =>
    have HAA := hide (fun w2 b2 => noOf (HA w2 b2) hc)
    have HX := hide (added_no (F := R.file) (l := R.line) (k := k) (unhide H0) (addW_no h48 hc))
    clear HA hc h48 HF HVF HVI HIF
    go_enter Tryz.func149, Tryz.ntmps149
    go_wp2_with (first | (go_at_call 147; refine (unhide HR).mono ?_; rintro e w2 ⟨rfl, b2⟩; have e2 := (b2.cell (p := ⟨rb, 0, none⟩) hb).trans d0; clear d0) | (go_at_call 80; refine (unhide HL _).mono ?_; rintro e w3 ⟨rfl, rfl⟩) | (go_at_call 148; refine (unhide HAA _ b2).mono ?_; rintro e w4 ⟨rfl, b4⟩))
    exact ⟨rfl, ARes.no (unhide HX) (btr b2 b4)⟩
   | ok u0 =>
    have HAA := hide (fun w2 b2 => okOf (HA w2 b2) hc)
    have HD : addW R.line a = .ok a := addW_ok h48 hc
    by_cases hk : k = 1
    ·subst hk
     have HX := hide (added_pre (F := R.file) (l := R.line) (unhide H0) HD)
     clear HF HVF HIF HA hc h48
     go_enter Tryz.func149, Tryz.ntmps149
     go_wp2_with (first | (go_at_call 147; refine (unhide HR).mono ?_; rintro e w2 ⟨rfl, b2⟩; have e2 := (b2.cell (p := ⟨rb, 0, none⟩) hb).trans d0; clear d0) | (go_at_call 80; refine (unhide HL _).mono ?_; rintro e w3 ⟨rfl, rfl⟩) | (go_at_call 148; refine (unhide HAA _ b2).mono ?_; rintro e w4 ⟨rfl, b4⟩; have b24 := btr b2 b4; have e4 := (b4.cell (p := ⟨rb, 0, none⟩) (Nat.lt_of_lt_of_le hb b2.size)).trans e2) | (go_at_call 91; refine (unhide HVI _ b24).mono ?_; rintro e w6 ⟨rfl, rfl⟩))
     exact ⟨rfl, ARes.no (unhide HX) b24⟩
    ·by_cases he : flgE R.file r = 0
     ·have hkb : (k == 1) = false := by simpa using hk
      have HX := hide (added_fl (F := R.file) (l := R.line) (k := k) (unhide H0) HD hk he)
      rw [he] at HF
      clear HVF HVI hk he HA hc h48
      go_enter Tryz.func149, Tryz.ntmps149
      go_wp2_with (first | (go_at_call 147; refine (unhide HR).mono ?_; rintro e w2 ⟨rfl, b2⟩; have e2 := (b2.cell (p := ⟨rb, 0, none⟩) hb).trans d0; clear d0) | (go_at_call 80; refine (unhide HL _).mono ?_; rintro e w3 ⟨rfl, rfl⟩) | (go_at_call 148; refine (unhide HAA _ b2).mono ?_; rintro e w4 ⟨rfl, b4⟩; have b24 := btr b2 b4; have e4 := (b4.cell (p := ⟨rb, 0, none⟩) (Nat.lt_of_lt_of_le hb b2.size)).trans e2) | (go_at_call 91; refine (leaveIf_f _ _ _ _ (by first | rfl | simpa using hkb)).mono ?_; rintro e w6 ⟨rfl, rfl⟩) | (go_at_call 18; refine (unhide HF _ b24).mono ?_; rintro e w7 ⟨u, rfl, f7, b7⟩; have b8 := btr b24 b7))
      go_ret2
      exact ARes.yes (unhide HX) b8 (f7.low b24.size)
     ·have hkb : (k == 1) = false := by simpa using hk
      have HX := hide (added_bad (F := R.file) (l := R.line) (k := k) (unhide H0) HD hk he)
      have HVG := hide (fun w2 b2 => unhide HVF w2 b2 he)
      generalize flgE R.file r = cd at *
      clear HVF HVI hk he HA hc h48
      go_enter Tryz.func149, Tryz.ntmps149
      go_wp2_with (first | (go_at_call 147; refine (unhide HR).mono ?_; rintro e w2 ⟨rfl, b2⟩; have e2 := (b2.cell (p := ⟨rb, 0, none⟩) hb).trans d0; clear d0) | (go_at_call 80; refine (unhide HL _).mono ?_; rintro e w3 ⟨rfl, rfl⟩; clear HL) | (go_at_call 148; refine (unhide HAA _ b2).mono ?_; rintro e w4 ⟨rfl, b4⟩; have b24 := btr b2 b4; have e4 := (b4.cell (p := ⟨rb, 0, none⟩) (Nat.lt_of_lt_of_le hb b2.size)).trans e2) | (go_at_call 91; refine (leaveIf_f _ _ _ _ (by first | rfl | simpa using hkb)).mono ?_; rintro e w6 ⟨rfl, rfl⟩) | (go_at_call 18; refine (unhide HF _ b24).mono ?_; rintro e w7 ⟨u, rfl, f7, b7⟩; have b8 := btr b24 b7))
      refine (unhide HVG _ b8).mono ?_
      rintro e w8 ⟨rfl, rfl⟩
      exact ⟨rfl, ARes.no (unhide HX) b8⟩
theorem gen_call {P : Program} {g : FuncId} {args : Array Value} {W : World} {Q : Ending → World → Prop} (h : ∀ V, V = W → Calls P g args V Q) : Calls P g args W Q := h W rfl
theorem gen_world {P : Program} {c : Code} {Q : Exit → Act → World → Prop} {a : Act} {W : World} (h : ∀ V, V = W → Code.wp P c Q a V) : Code.wp P c Q a W := h W rfl
theorem gen_then {K : Act → World → Prop} {Q : Exit → Act → World → Prop} {a : Act} {W : World} (h : ∀ V, V = W → Exit.then K Q .normal a V) : Exit.then K Q .normal a W := h W rfl
theorem step_no3 {P : Program} {ops : Array Oper} {o : Oper} {a : Act} {w : World} {K : Act → World → Prop} {Q : Exit → Act → World → Prop} {E : Prop}
  (hg : o.guard = none) (f : FuncId) (x0 x1 x2 : Operand) (ts : Array TypeId) (hop : o.op = Op.call { callee := Callee.value (Operand.func f), args := #[x0, x1, x2], argTypes := ts })
  (u0 u1 u2 : Value) (h0 : a.eval x0 = u0) (h1 : a.eval x1 = u1) (h2 : a.eval x2 = u2) (hent : ∀ W : World, Sem.run P (callFunc f #[u0, u1, u2]) W = .ok (.enter f #[u0, u1, u2]) W) (r : Value) (hc : Calls P f #[u0, u1, u2] w fun e w' => ∃ ch, e = .panicked ch ∧ Q (.panic ch) a w') (_hK : Hid False → K (a.put o.dst r) w) :
  if Region.wanted o (yielded ops a.tmps) = true then Oper.wp P o a w K Q else E := by
 have hw : Region.wanted o (yielded ops a.tmps) = true := by simp [Region.wanted, hg]
 rw [if_pos hw]
 unfold Oper.wp
 have e : (execOp a.eval o).run P w = .ok (.enter f #[u0, u1, u2]) w := by
  simp [execOp, hop, resolve, invoke, BigFrame.eval_func, Deferred.ofValue, h0, h1, h2, hent]
 rw [e]
 unfold Oper.upon
 refine hc.mono ?_
 rintro e w' ⟨ch, rfl, h⟩
 exact h
theorem ent_added (x y z : Value) (W : World) : Sem.run Tryz.prog (callFunc 149 #[x, y, z]) W = .ok (.enter 149 #[x, y, z]) W := by kernel_rfl
def URes (w : World) (X : Except Er Rul) (e : Ending) (w' : World) : Prop :=
 Below w.heap.size w w' ∧ match X with
 | .ok r => ∃ u, e = .returned (.agg (rulC r u).toArray) ∧ FNx w.heap.size w' u r.next
 | .error er => e = .panicked (chn er)
theorem URes.no {w w' : World} {X : Except Er Rul} {er : Er} (hX : X = .error er) (k : Below w.heap.size w w') : URes w X (.panicked (chn er)) w' := by
 subst hX
 exact ⟨k, rfl⟩
theorem URes.yes {w w' : World} {X : Except Er Rul} {r : Rul} {u : Value} (hX : X = .ok r) (k : Below w.heap.size w w') (h : FNx w.heap.size w' u r.next) : URes w X (.returned (.agg (rulC r u).toArray)) w' := by
 subst hX
 exact ⟨k, u, rfl, h⟩
theorem uOk {w : World} {X : Except Er Rul} {r : Rul} {g : FuncId} {args : Array Value} (h : Calls Tryz.prog g args w (URes w X)) (hX : X = .ok r) : Calls Tryz.prog g args w fun e w' => ∃ u, e = .returned (.agg (rulC r u).toArray) ∧ FNx w.heap.size w' u r.next ∧ Below w.heap.size w w' := by
 subst hX
 exact h.mono fun e w' ⟨k, u, q1, q2⟩ => ⟨u, q1, q2, k⟩
theorem uNo {w : World} {X : Except Er Rul} {er : Er} {g : FuncId} {args : Array Value} (h : Calls Tryz.prog g args w (URes w X)) (hX : X = .error er) : Calls Tryz.prog g args w fun e w' => e = .panicked (chn er) ∧ Below w.heap.size w w' := by
 subst hX
 exact h.mono fun e w' ⟨k, q⟩ => ⟨q, k⟩
theorem alloc_new (w : World) (o : Obj) : (w.alloc o).heap[w.heap.size]? = some o := by show (w.heap.push o)[w.heap.size]? = some o; exact Array.getElem?_push_size
structure RL (w W : World) (c : Cls) (rc : Array Value) : Prop where
 b : Below w.heap.size w W
 cb : W.heap[w.heap.size]? = some (.cells (clsC c).toArray 48 (0, 0))
 ob : W.heap[w.heap.size + 1]? = some (.cells #[.int .i64 0, .int .u16 0, .bool false, .string ⟨#[]⟩, .string ⟨#[]⟩, .string ⟨#[]⟩, .slice none 0 0] 76 (0, 0))
 rv : W.heap[w.heap.size + 2]? = some (.cells rc 76 (0, 0))
theorem RL.start (w : World) (c : Cls) : RL w (((w.alloc (.cells (clsC c).toArray 48)).alloc (.cells #[.int .i64 0, .int .u16 0, .bool false, .string ⟨#[]⟩, .string ⟨#[]⟩, .string ⟨#[]⟩, .slice none 0 0] 76)).alloc (.cells #[.int .i64 c.kind, .int .u16 c.flag, .bool c.cross, .string ⟨#[]⟩, .string ⟨#[]⟩, .string ⟨#[46]⟩, .slice none 0 0] 76)) c #[.int .i64 c.kind, .int .u16 c.flag, .bool c.cross, .string ⟨#[]⟩, .string ⟨#[]⟩, .string ⟨#[46]⟩, .slice none 0 0] := by
 refine ⟨(((Below.refl _ w).alloc (Nat.le_refl _) _).alloc (by simp) _).alloc (by simp; omega) _, ?_, ?_, ?_⟩
 ·rw [Below.heap_alloc _ _ _ (by simp; omega), Below.heap_alloc _ _ _ (by simp)]
  exact alloc_new w _
 ·rw [Below.heap_alloc _ _ _ (by simp)]
  have := alloc_new (w.alloc (.cells (clsC c).toArray 48)) (.cells #[.int .i64 0, .int .u16 0, .bool false, .string ⟨#[]⟩, .string ⟨#[]⟩, .string ⟨#[]⟩, .slice none 0 0] 76)
  rwa [World.size_alloc] at this
 ·have := alloc_new ((w.alloc (.cells (clsC c).toArray 48)).alloc (.cells #[.int .i64 0, .int .u16 0, .bool false, .string ⟨#[]⟩, .string ⟨#[]⟩, .string ⟨#[]⟩, .slice none 0 0] 76)) (.cells #[.int .i64 c.kind, .int .u16 c.flag, .bool c.cross, .string ⟨#[]⟩, .string ⟨#[]⟩, .string ⟨#[46]⟩, .slice none 0 0] 76)
  rwa [World.size_alloc, World.size_alloc] at this
theorem RL.below {w W W' : World} {c : Cls} {rc : Array Value} (h : RL w W c rc) (k : Below W.heap.size W W') : RL w W' c rc :=
 ⟨h.b.trans (k.mono h.b.size), (k.block _ (lt_some h.cb)).trans h.cb, (k.block _ (lt_some h.ob)).trans h.ob, (k.block _ (lt_some h.rv)).trans h.rv⟩
theorem RL.drew {w W : World} {c : Cls} {rc : Array Value} (h : RL w W c rc) : RL w W.drew c rc := h.below ((Below.refl _ _).drew)
theorem RL.set {w W : World} {c : Cls} {rc : Array Value} (h : RL w W c rc) (k : Nat) (v : Value) : RL w (W.setCell ⟨w.heap.size + 2, k, none⟩ v) c (rc.setIfInBounds k v) :=
 ⟨h.b.setCell (p := ⟨w.heap.size + 2, k, none⟩) (by simp) v, (Below.heap_setCell W _ v _ (by simp)).trans h.cb, (Below.heap_setCell W _ v _ (by simp)).trans h.ob, set_heap1 h.rv v⟩
theorem RL.sz {w W : World} {c : Cls} {rc : Array Value} (h : RL w W c rc) : w.heap.size + 2 < W.heap.size := lt_some h.rv
theorem RL.cells {w W : World} {c : Cls} {a0 a1 a2 a3 a4 a5 a6 : Value} (h : RL w W c #[a0, a1, a2, a3, a4, a5, a6]) : W.cell? ⟨w.heap.size + 2, 0, none⟩ = some a0 ∧ W.cell? ⟨w.heap.size + 2, 1, none⟩ = some a1 ∧ W.cell? ⟨w.heap.size + 2, 2, none⟩ = some a2 ∧ W.cell? ⟨w.heap.size + 2, 3, none⟩ = some a3 ∧ W.cell? ⟨w.heap.size + 2, 4, none⟩ = some a4 ∧ W.cell? ⟨w.heap.size + 2, 5, none⟩ = some a5 ∧ W.cell? ⟨w.heap.size + 2, 6, none⟩ = some a6 := by
 simp [World.cell?, h.rv]
theorem RL.kind {w W : World} {c : Cls} {rc : Array Value} (h : RL w W c rc) : W.cell? ⟨w.heap.size, 1, none⟩ = some (.int .i64 c.kind) := by simp [World.cell?, h.cb, clsC]
theorem RL.cell {w W : World} {c : Cls} {rc : Array Value} (h : RL w W c rc) (k : Nat) : W.cell? ⟨w.heap.size + 2, k, none⟩ = rc[k]? := by simp [World.cell?, h.rv]
theorem RL.fz {w W : World} {c : Cls} {rc : Array Value} (h : RL w W c rc) (k : Nat) : W.frozen? ⟨w.heap.size + 2, k, none⟩ = false := by simp [World.frozen?, h.rv]
theorem RL.ocell {w W : World} {c : Cls} {rc : Array Value} (h : RL w W c rc) : (W.cell? ⟨w.heap.size + 1, 0, none⟩ = some (.int .i64 0) ∧ W.cell? ⟨w.heap.size + 1, 1, none⟩ = some (.int .u16 0) ∧ W.cell? ⟨w.heap.size + 1, 2, none⟩ = some (.bool false) ∧ W.cell? ⟨w.heap.size + 1, 3, none⟩ = some (.string ⟨#[]⟩) ∧ W.cell? ⟨w.heap.size + 1, 4, none⟩ = some (.string ⟨#[]⟩) ∧ W.cell? ⟨w.heap.size + 1, 5, none⟩ = some (.string ⟨#[]⟩) ∧ W.cell? ⟨w.heap.size + 1, 6, none⟩ = some (.slice none 0 0)) ∧ ∀ k, W.frozen? ⟨w.heap.size + 1, k, none⟩ = false := by
 simp [World.cell?, World.frozen?, h.ob]
theorem set7 {w W : World} (h : Below w.heap.size w W) (a b c d e f g : Value) : Below w.heap.size w (((((((W.setCell ⟨w.heap.size + 1, 0, none⟩ a).setCell ⟨w.heap.size + 1, 1, none⟩ b).setCell ⟨w.heap.size + 1, 2, none⟩ c).setCell ⟨w.heap.size + 1, 3, none⟩ d).setCell ⟨w.heap.size + 1, 4, none⟩ e).setCell ⟨w.heap.size + 1, 5, none⟩ f).setCell ⟨w.heap.size + 1, 6, none⟩ g) := by
 exact ((((((h.setCell (p := ⟨w.heap.size + 1, 0, none⟩) (by simp) _).setCell (p := ⟨w.heap.size + 1, 1, none⟩) (by simp) _).setCell (p := ⟨w.heap.size + 1, 2, none⟩) (by simp) _).setCell (p := ⟨w.heap.size + 1, 3, none⟩) (by simp) _).setCell (p := ⟨w.heap.size + 1, 4, none⟩) (by simp) _).setCell (p := ⟨w.heap.size + 1, 5, none⟩) (by simp) _).setCell (p := ⟨w.heap.size + 1, 6, none⟩) (by simp) _
theorem fnx_set7 {w W : World} {v : Value} {l : List Int} {C : Array Value} (h : FNx w.heap.size W v l) (hb : W.heap[w.heap.size + 1]? = some (.cells C 76 (0, 0))) (x0 x1 x2 x3 x4 x5 x6 : Value) : FNx w.heap.size (((((((W.setCell ⟨w.heap.size + 1, 0, none⟩ x0).setCell ⟨w.heap.size + 1, 1, none⟩ x1).setCell ⟨w.heap.size + 1, 2, none⟩ x2).setCell ⟨w.heap.size + 1, 3, none⟩ x3).setCell ⟨w.heap.size + 1, 4, none⟩ x4).setCell ⟨w.heap.size + 1, 5, none⟩ x5).setCell ⟨w.heap.size + 1, 6, none⟩ x6) v l := by
 refine fnx_kept h fun gg cur hgg => ?_
 have hne : gg ≠ w.heap.size + 1 := by
  rintro rfl
  rw [hb] at hgg
  injection hgg with hgg
  injection hgg with _ hgg _
  exact absurd hgg (by decide)
 rw [Below.heap_setCell _ _ _ _ hne, Below.heap_setCell _ _ _ _ hne, Below.heap_setCell _ _ _ _ hne, Below.heap_setCell _ _ _ _ hne, Below.heap_setCell _ _ _ _ hne, Below.heap_setCell _ _ _ _ hne, Below.heap_setCell _ _ _ _ hne]
theorem rule_len {F : Fil} {l : Nat} {c : Cls} {row : List Bs} (h : row.length ≠ 4 ∧ row.length ≠ 5) : rule F l c row = .error (l, 111) := by unfold rule; rw [if_pos h]
theorem rule_p {F : Fil} {l : Nat} {c : Cls} {row : List Bs} {e : Er} (h : ¬ (row.length ≠ 4 ∧ row.length ≠ 5)) (hp : piece0 l (fld row 2) = .error e) : rule F l c row = .error e := by unfold rule; rw [if_neg h, hp]
theorem rule_a {F : Fil} {l : Nat} {c : Cls} {row : List Bs} {e : Er} {s : Bs} (h : ¬ (row.length ≠ 4 ∧ row.length ≠ 5)) (hp : piece0 l (fld row 2) = .ok s) (ha : added F l c.kind (fld row 3) = .error e) : rule F l c row = .error e := by unfold rule; rw [if_neg h, hp]; simp [ha]
theorem rule_4 {F : Fil} {l : Nat} {c : Cls} {row : List Bs} {s : Bs} {p : Bs × List Int} (h : row.length = 4) (hp : piece0 l (fld row 2) = .ok s) (ha : added F l c.kind (fld row 3) = .ok p) : rule F l c row = .ok ⟨c.kind, c.flag, c.cross, s, p.1, [46], p.2, l⟩ := by unfold rule; rw [if_neg (by omega), hp]; simp [ha, h]
theorem rule_c {F : Fil} {l : Nat} {c : Cls} {row : List Bs} {s : Bs} {p : Bs × List Int} {e : Er} (h : row.length = 5) (hp : piece0 l (fld row 2) = .ok s) (ha : added F l c.kind (fld row 3) = .ok p) (hc : condn l (fld row 4) = .error e) : rule F l c row = .error e := by unfold rule; rw [if_neg (by omega), hp]; simp [ha, h, hc]
theorem rule_5 {F : Fil} {l : Nat} {c : Cls} {row : List Bs} {s k : Bs} {p : Bs × List Int} (h : row.length = 5) (hp : piece0 l (fld row 2) = .ok s) (ha : added F l c.kind (fld row 3) = .ok p) (hc : condn l (fld row 4) = .ok k) : rule F l c row = .ok ⟨c.kind, c.flag, c.cross, s, p.1, k, p.2, l⟩ := by unfold rule; rw [if_neg (by omega), hp]; simp [ha, h, hc]
theorem fld_get {row : List Bs} {i : Nat} (h : i < row.length) : row[i]? = some (fld row i) := by unfold fld; rw [List.getElem?_eq_getElem h]; rfl
theorem rule_bad {B rb n : Nat} {R : Rdr} {P : Pts} {w : World} (h : RAt B w rb R P) (c : Cls) (row : List Bs) (fv : Value) (hrow : StrRow n w fv (row.map Fld.str)) (hlen : row.length ≠ 4 ∧ row.length ≠ 5) :
  Calls Tryz.prog 118 #[ptr rb, clsV c, fv] w (URes w (rule R.file R.line c row)) := by
 obtain ⟨d0, -, hl, -, -, -, -⟩ := h.cells
 have hb := h.lt
 obtain ⟨g, cap, rfl, hg, h1, h2, -, hcl⟩ := str_cells hrow
 unfold maxLen at h2
 unfold clsV
 have n4 : ¬ ((row.length : Int) = 4) := by omega
 have n5 : ¬ ((row.length : Int) = 5) := by omega
 have HX := hide (rule_len (F := R.file) (l := R.line) (c := c) hlen)
 have HL := hide hl
 clear hlen h hrow hcl hl
 generalize row.length = N at *
 go_enter Tryz.func118, Tryz.ntmps118
 go_wp2_with fail
 refine gen_call ?_
 intro W hW
 have hbw : Below w.heap.size w W := by rw [hW]; (repeat (first | exact Below.refl _ _ | refine Below.drew ?_ | refine Below.alloc ?_ (by first | (simp; done) | (simp; omega)) _ | refine Below.setCell ?_ (by first | (simp; done) | (simp; omega)) _))
 refine (leaveIf_t rb R.line _ 111 W (by simp [n4, n5]) (by decide) (by decide) (lineB (unhide HL) hb hbw)).mono ?_
 rintro e w2 ⟨rfl, rfl⟩
 exact ⟨rfl, URes.no (unhide HX) hbw⟩
theorem rule_go4 {B rb n : Nat} {R : Rdr} {P : Pts} {w : World} (h : RAt B w rb R P) (hM : Mx B w) (c : Cls) (row : List Bs) (fv : Value) (hrow : StrRow n w fv (row.map Fld.str)) (hf : ∀ f ∈ row, f.length ≤ 65536) (hN : row.length = 4) :
  Calls Tryz.prog 118 #[ptr rb, clsV c, fv] w (URes w (rule R.file R.line c row)) := by
 obtain ⟨d0, -, hl, -, -, -, -⟩ := h.cells
 have hb := h.lt
 obtain ⟨g, cap, rfl, hg, h1, h2, -, hcl⟩ := str_cells hrow
 unfold maxLen at h2
 unfold clsV
 have hlen : ¬ (row.length ≠ 4 ∧ row.length ≠ 5) := by omega
 have q2 := hcl 2 _ (fld_get (by omega))
 have q3 := hcl 3 _ (fld_get (by omega))
 have hf2 := hf _ (List.mem_of_getElem? (fld_get (row := row) (i := 2) (by omega)))
 have hf3 := hf _ (List.mem_of_getElem? (fld_get (row := row) (i := 3) (by omega)))
 have HP := hide (fun W (b : Below w.heap.size w W) => piece0_any rb R.line (Fld.str (fld row 2)) W (by rw [fstr_wd, Wd.str_size]; omega) (Nat.lt_of_lt_of_le hb b.size) (lineB hl hb b))
 have HA := hide (fun W (b : Below w.heap.size w W) => added_all (h.below b) (hM.low (b.mono h.base)) c.kind (Fld.str (fld row 3)) (by rw [fstr_wd, Wd.str_size]; omega))
 have e2 : (Fld.str (fld row 2)).data.toList = fld row 2 := by simp [Fld.str]
 have e3 : (Fld.str (fld row 3)).data.toList = fld row 3 := by simp [Fld.str]
 rw [e2] at HP
 rw [e3] at HA
 have qa : ∀ a b d : Obj, (((w.alloc a).alloc b).alloc d).cell? ⟨g, 2, none⟩ = some (.string (Fld.str (fld row 2))) := fun a b d => ((((Below.refl _ w).alloc (Nat.le_refl _) a).alloc (by simp) b).alloc (by simp; omega) d).cell (p := ⟨g, 2, none⟩) hg |>.trans q2
 clear e2 e3 hf2 hf3 hf h hM hrow hcl hl
 generalize Fld.str (fld row 2) = r2 at *
 generalize Fld.str (fld row 3) = r3 at *
 cases hp : piece0 R.line (fld row 2) with
 | error er =>
  have HX := hide (rule_p (F := R.file) (c := c) hlen hp)
  have HPP := hide (fun W b => noOf (unhide HP W b) hp)
  clear HP HA hp q3 d0
  clear hlen 
  have HNN := hide hN
  rw [hN] at h1 ⊢
  clear hN
  go_enter Tryz.func118, Tryz.ntmps118
  go_wp2_with (go_at_call 91; refine (leaveIf_f _ _ _ _ rfl).mono ?_; rintro e w2 ⟨rfl, rfl⟩)
  refine gen_call ?_
  intro W hW
  have HRL : Hid (RL w W c #[.int .i64 c.kind, .int .u16 c.flag, .bool c.cross, .string ⟨#[]⟩, .string ⟨#[]⟩, .string ⟨#[46]⟩, .slice none 0 0]) := by
   rw [hW]
   exact RL.start w c
  clear hW
  refine (unhide HPP W (unhide HRL).b).mono ?_
  rintro e w2 ⟨rfl, b2⟩
  exact ⟨rfl, URes.no (unhide HX) (btr (unhide HRL).b b2)⟩
 | ok s =>
  have HPP := hide (fun W b => okOf (unhide HP W b) hp)
  cases ha : added R.file R.line c.kind (fld row 3) with
  | error er =>
   have HX := hide (rule_a (F := R.file) (c := c) hlen hp ha)
   have HAA := hide (fun W b => aNo (unhide HA W b) ha)
   clear HP HA hp ha d0
   clear hlen 
   have HNN := hide hN
   rw [hN] at h1 ⊢
   clear hN
   go_enter Tryz.func118, Tryz.ntmps118
   go_wp2_with (go_at_call 91; refine (leaveIf_f _ _ _ _ rfl).mono ?_; rintro e w2 ⟨rfl, rfl⟩)
   refine gen_call ?_
   intro W hW
   have HRL : Hid (RL w W c #[.int .i64 c.kind, .int .u16 c.flag, .bool c.cross, .string ⟨#[]⟩, .string ⟨#[]⟩, .string ⟨#[46]⟩, .slice none 0 0]) := by
    rw [hW]
    exact RL.start w c
   clear hW
   refine (unhide HPP W (unhide HRL).b).mono ?_
   rintro e w2 ⟨rfl, b2⟩
   unfold strV
   have HR2 := hide ((unhide HRL).below b2)
   clear HRL b2 HPP
   have z := (unhide HR2).sz
   have hcl3 := (unhide HR2).cell 3
   have hz3 := (unhide HR2).fz 3
   simp at hcl3
   go_wp2_with fail
   refine gen_world ?_
   intro W2 hW2
   have HR3 : Hid (RL w W2 c #[.int .i64 c.kind, .int .u16 c.flag, .bool c.cross, .string (Wd.str s), .string ⟨#[]⟩, .string ⟨#[46]⟩, .slice none 0 0]) := by
    rw [hW2]
    exact (unhide HR2).set 3 _
   have k1 := (unhide HR3).kind
   have k3 : W2.cell? ⟨g, 3, none⟩ = some (.string r3) := ((unhide HR3).b.cell (p := ⟨g, 3, none⟩) hg).trans q3
   clear hW2 hcl3 hz3 HR2 z
   have HAW := hide (unhide HAA W2.drew (unhide HR3).b.drew)
   have HRD := hide (unhide HR3).drew
   have v4 := (unhide HR3).cell 4
   have v6 := (unhide HR3).cell 6
   have x4 := (unhide HR3).fz 4
   have x6 := (unhide HR3).fz 6
   simp at v4 v6
   go_region_law (refine step_no3 (by rfl) 149 _ _ _ _ (by rfl) (ptr rb) (.int .i64 c.kind) (.string r3) (by rfl) (by rfl) (by rfl) (ent_added _ _ _) (.tuple #[.string ⟨#[]⟩, .slice none 0 0]) ((unhide HAW).mono fun e w4 h4 => ⟨_, h4.1, rfl, URes.no (unhide HX) ((unhide HRD).b.trans (h4.2.mono (unhide HRD).b.size))⟩) ?_; intro HF)
   all_goals exact (unhide HF).elim
  | ok p =>
   have HAA := hide (fun W b => aOk (unhide HA W b) ha)
   clear HP HA d0
   have HPO := hide hp
   have HAO := hide ha
   clear hp ha
   clear hlen 
   have HNN := hide hN
   rw [hN] at h1 ⊢
   clear hN
   go_enter Tryz.func118, Tryz.ntmps118
   go_wp2_with (go_at_call 91; refine (leaveIf_f _ _ _ _ rfl).mono ?_; rintro e w2 ⟨rfl, rfl⟩)
   refine gen_call ?_
   intro W hW
   have HRL : Hid (RL w W c #[.int .i64 c.kind, .int .u16 c.flag, .bool c.cross, .string ⟨#[]⟩, .string ⟨#[]⟩, .string ⟨#[46]⟩, .slice none 0 0]) := by
    rw [hW]
    exact RL.start w c
   clear hW
   refine (unhide HPP W (unhide HRL).b).mono ?_
   rintro e w2 ⟨rfl, b2⟩
   unfold strV
   have HR2 := hide ((unhide HRL).below b2)
   clear HRL b2 HPP
   have z := (unhide HR2).sz
   have hcl3 := (unhide HR2).cell 3
   have hz3 := (unhide HR2).fz 3
   simp at hcl3
   go_wp2_with fail
   refine gen_world ?_
   intro W2 hW2
   have HR3 : Hid (RL w W2 c #[.int .i64 c.kind, .int .u16 c.flag, .bool c.cross, .string (Wd.str s), .string ⟨#[]⟩, .string ⟨#[46]⟩, .slice none 0 0]) := by
    rw [hW2]
    exact (unhide HR2).set 3 _
   have k1 := (unhide HR3).kind
   have k3 : W2.cell? ⟨g, 3, none⟩ = some (.string r3) := ((unhide HR3).b.cell (p := ⟨g, 3, none⟩) hg).trans q3
   clear hW2 hcl3 hz3 HR2 z
   have HAW := hide (unhide HAA W2.drew (unhide HR3).b.drew)
   have HRD := hide (unhide HR3).drew
   have v4 := (unhide HR3).cell 4
   have v6 := (unhide HR3).cell 6
   have x4 := (unhide HR3).fz 4
   have x6 := (unhide HR3).fz 6
   simp at v4 v6
   go_region_with (go_at_call 149; refine (unhide HAW).mono ?_; rintro e w4 ⟨u, rfl, f4, b4⟩; obtain ⟨ao, cp, rfl, -⟩ := f4.arg; have HR4 := hide ((unhide HRD).below b4); have y4 := (unhide HR4).cell 4; have y6 := (unhide HR4).cell 6; have z4 := (unhide HR4).fz 4; have z6 := (unhide HR4).fz 6; simp at y4 y6; have F4 := hide f4; have B4 := hide b4; clear f4 b4)
   
   all_goals
    refine gen_then ?_
    intro V hV
    have HR5 : Hid (RL w V c #[.int .i64 c.kind, .int .u16 c.flag, .bool c.cross, .string (Wd.str s), .string (Wd.str p.1), .string ⟨#[46]⟩, .slice ao p.2.length cp]) := by
     rw [hV]
     first | exact ((unhide HR4).set 4 _).set 6 _ | exact ((unhide HR4).set 6 _).set 4 _
    have F5 : Hid (FNx w.heap.size V (.slice ao p.2.length cp) p.2) := by
     refine fnx_kept ((unhide F4).low (unhide HRD).b.size) fun gg cur hgg => ?_
     rw [hV]
     have hne : gg ≠ w.heap.size + 2 := by
      rintro rfl
      rw [(unhide HR4).rv] at hgg
      injection hgg with hgg
      injection hgg with _ hgg _
      exact absurd hgg (by decide)
     first | rw [Below.heap_setCell _ _ _ _ hne, Below.heap_setCell _ _ _ _ hne]
    clear hV HR4 F4 B4 HRD HR3 y4 y6 z4 z6 v4 v6 x4 x6 k1 k3 HAW HAA
    have HX := hide (rule_4 (F := R.file) (c := c) (unhide HNN) (unhide HPO) (unhide HAO))
    obtain ⟨p0, p1, p2, p3, p4, p5, p6⟩ := (unhide HR5).cells
    obtain ⟨⟨o0, o1, o2, o3, o4, o5, o6⟩, oz⟩ := (unhide HR5).ocell
    have sz := (unhide HR5).sz
    have HBE := hide (unhide HR5).b
    have HFE := hide (unhide F5)
    have HOB := hide (unhide HR5).ob
    clear HR5 F5
    go_wp2
    refine bodyPost_ret (v := .agg #[.int .i64 c.kind, .int .u16 c.flag, .bool c.cross, .string (Wd.str s), .string (Wd.str p.1), .string (Wd.str [46]), .slice ao p.2.length cp]) (by simp [results, Tryz.results118, go_sem, o0, o1, o2, o3, o4, o5, o6] <;> rfl) rfl ?_
    refine URes.yes (u := .slice ao p.2.length cp) (unhide HX) ?_ (fnx_set7 (unhide HFE) (unhide HOB) _ _ _ _ _ _ _)
    exact set7 (unhide HBE) _ _ _ _ _ _ _
theorem rule_go5 {B rb n : Nat} {R : Rdr} {P : Pts} {w : World} (h : RAt B w rb R P) (hM : Mx B w) (c : Cls) (row : List Bs) (fv : Value) (hrow : StrRow n w fv (row.map Fld.str)) (hf : ∀ f ∈ row, f.length ≤ 65536) (hN : row.length = 5) :
  Calls Tryz.prog 118 #[ptr rb, clsV c, fv] w (URes w (rule R.file R.line c row)) := by
 obtain ⟨d0, -, hl, -, -, -, -⟩ := h.cells
 have hb := h.lt
 obtain ⟨g, cap, rfl, hg, h1, h2, -, hcl⟩ := str_cells hrow
 unfold maxLen at h2
 unfold clsV
 have hlen : ¬ (row.length ≠ 4 ∧ row.length ≠ 5) := by omega
 have q2 := hcl 2 _ (fld_get (by omega))
 have q3 := hcl 3 _ (fld_get (by omega))
 have hf2 := hf _ (List.mem_of_getElem? (fld_get (row := row) (i := 2) (by omega)))
 have hf3 := hf _ (List.mem_of_getElem? (fld_get (row := row) (i := 3) (by omega)))
 have HP := hide (fun W (b : Below w.heap.size w W) => piece0_any rb R.line (Fld.str (fld row 2)) W (by rw [fstr_wd, Wd.str_size]; omega) (Nat.lt_of_lt_of_le hb b.size) (lineB hl hb b))
 have HA := hide (fun W (b : Below w.heap.size w W) => added_all (h.below b) (hM.low (b.mono h.base)) c.kind (Fld.str (fld row 3)) (by rw [fstr_wd, Wd.str_size]; omega))
 have e2 : (Fld.str (fld row 2)).data.toList = fld row 2 := by simp [Fld.str]
 have e3 : (Fld.str (fld row 3)).data.toList = fld row 3 := by simp [Fld.str]
 rw [e2] at HP
 rw [e3] at HA
 have q4 := hcl 4 _ (fld_get (by omega))
 have hf4 := hf _ (List.mem_of_getElem? (fld_get (row := row) (i := 4) (by omega)))
 have HC := hide (fun W (b : Below w.heap.size w W) => condition_any rb R.line (Fld.str (fld row 4)) W (by rw [fstr_wd, Wd.str_size]; omega) (Nat.lt_of_lt_of_le hb b.size) (lineB hl hb b))
 have e4 : (Fld.str (fld row 4)).data.toList = fld row 4 := by simp [Fld.str]
 rw [e4] at HC
 clear e4 hf4
 have qa : ∀ a b d : Obj, (((w.alloc a).alloc b).alloc d).cell? ⟨g, 2, none⟩ = some (.string (Fld.str (fld row 2))) := fun a b d => ((((Below.refl _ w).alloc (Nat.le_refl _) a).alloc (by simp) b).alloc (by simp; omega) d).cell (p := ⟨g, 2, none⟩) hg |>.trans q2
 clear e2 e3 hf2 hf3 hf h hM hrow hcl hl
 generalize Fld.str (fld row 2) = r2 at *
 generalize Fld.str (fld row 3) = r3 at *
 generalize Fld.str (fld row 4) = r4 at *
 cases hp : piece0 R.line (fld row 2) with
 | error er =>
  have HX := hide (rule_p (F := R.file) (c := c) hlen hp)
  have HPP := hide (fun W b => noOf (unhide HP W b) hp)
  clear HP HA hp q3 d0 HC q4
  clear hlen 
  have HNN := hide hN
  rw [hN] at h1 ⊢
  clear hN
  go_enter Tryz.func118, Tryz.ntmps118
  go_wp2_with (go_at_call 91; refine (leaveIf_f _ _ _ _ rfl).mono ?_; rintro e w2 ⟨rfl, rfl⟩)
  refine gen_call ?_
  intro W hW
  have HRL : Hid (RL w W c #[.int .i64 c.kind, .int .u16 c.flag, .bool c.cross, .string ⟨#[]⟩, .string ⟨#[]⟩, .string ⟨#[46]⟩, .slice none 0 0]) := by
   rw [hW]
   exact RL.start w c
  clear hW
  refine (unhide HPP W (unhide HRL).b).mono ?_
  rintro e w2 ⟨rfl, b2⟩
  exact ⟨rfl, URes.no (unhide HX) (btr (unhide HRL).b b2)⟩
 | ok s =>
  have HPP := hide (fun W b => okOf (unhide HP W b) hp)
  cases ha : added R.file R.line c.kind (fld row 3) with
  | error er =>
   have HX := hide (rule_a (F := R.file) (c := c) hlen hp ha)
   have HAA := hide (fun W b => aNo (unhide HA W b) ha)
   clear HP HA hp ha d0 HC q4
   clear hlen 
   have HNN := hide hN
   rw [hN] at h1 ⊢
   clear hN
   go_enter Tryz.func118, Tryz.ntmps118
   go_wp2_with (go_at_call 91; refine (leaveIf_f _ _ _ _ rfl).mono ?_; rintro e w2 ⟨rfl, rfl⟩)
   refine gen_call ?_
   intro W hW
   have HRL : Hid (RL w W c #[.int .i64 c.kind, .int .u16 c.flag, .bool c.cross, .string ⟨#[]⟩, .string ⟨#[]⟩, .string ⟨#[46]⟩, .slice none 0 0]) := by
    rw [hW]
    exact RL.start w c
   clear hW
   refine (unhide HPP W (unhide HRL).b).mono ?_
   rintro e w2 ⟨rfl, b2⟩
   unfold strV
   have HR2 := hide ((unhide HRL).below b2)
   clear HRL b2 HPP
   have z := (unhide HR2).sz
   have hcl3 := (unhide HR2).cell 3
   have hz3 := (unhide HR2).fz 3
   simp at hcl3
   go_wp2_with fail
   refine gen_world ?_
   intro W2 hW2
   have HR3 : Hid (RL w W2 c #[.int .i64 c.kind, .int .u16 c.flag, .bool c.cross, .string (Wd.str s), .string ⟨#[]⟩, .string ⟨#[46]⟩, .slice none 0 0]) := by
    rw [hW2]
    exact (unhide HR2).set 3 _
   have k1 := (unhide HR3).kind
   have k3 : W2.cell? ⟨g, 3, none⟩ = some (.string r3) := ((unhide HR3).b.cell (p := ⟨g, 3, none⟩) hg).trans q3
   clear hW2 hcl3 hz3 HR2 z
   have HAW := hide (unhide HAA W2.drew (unhide HR3).b.drew)
   have HRD := hide (unhide HR3).drew
   have v4 := (unhide HR3).cell 4
   have v6 := (unhide HR3).cell 6
   have x4 := (unhide HR3).fz 4
   have x6 := (unhide HR3).fz 6
   simp at v4 v6
   go_region_law (refine step_no3 (by rfl) 149 _ _ _ _ (by rfl) (ptr rb) (.int .i64 c.kind) (.string r3) (by rfl) (by rfl) (by rfl) (ent_added _ _ _) (.tuple #[.string ⟨#[]⟩, .slice none 0 0]) ((unhide HAW).mono fun e w4 h4 => ⟨_, h4.1, rfl, URes.no (unhide HX) ((unhide HRD).b.trans (h4.2.mono (unhide HRD).b.size))⟩) ?_; intro HF)
   all_goals exact (unhide HF).elim
  | ok p =>
   have HAA := hide (fun W b => aOk (unhide HA W b) ha)
   clear HP HA d0
   have HPO := hide hp
   have HAO := hide ha
   clear hp ha
   clear hlen 
   have HNN := hide hN
   rw [hN] at h1 ⊢
   clear hN
   go_enter Tryz.func118, Tryz.ntmps118
   go_wp2_with (go_at_call 91; refine (leaveIf_f _ _ _ _ rfl).mono ?_; rintro e w2 ⟨rfl, rfl⟩)
   refine gen_call ?_
   intro W hW
   have HRL : Hid (RL w W c #[.int .i64 c.kind, .int .u16 c.flag, .bool c.cross, .string ⟨#[]⟩, .string ⟨#[]⟩, .string ⟨#[46]⟩, .slice none 0 0]) := by
    rw [hW]
    exact RL.start w c
   clear hW
   refine (unhide HPP W (unhide HRL).b).mono ?_
   rintro e w2 ⟨rfl, b2⟩
   unfold strV
   have HR2 := hide ((unhide HRL).below b2)
   clear HRL b2 HPP
   have z := (unhide HR2).sz
   have hcl3 := (unhide HR2).cell 3
   have hz3 := (unhide HR2).fz 3
   simp at hcl3
   go_wp2_with fail
   refine gen_world ?_
   intro W2 hW2
   have HR3 : Hid (RL w W2 c #[.int .i64 c.kind, .int .u16 c.flag, .bool c.cross, .string (Wd.str s), .string ⟨#[]⟩, .string ⟨#[46]⟩, .slice none 0 0]) := by
    rw [hW2]
    exact (unhide HR2).set 3 _
   have k1 := (unhide HR3).kind
   have k3 : W2.cell? ⟨g, 3, none⟩ = some (.string r3) := ((unhide HR3).b.cell (p := ⟨g, 3, none⟩) hg).trans q3
   clear hW2 hcl3 hz3 HR2 z
   have HAW := hide (unhide HAA W2.drew (unhide HR3).b.drew)
   have HRD := hide (unhide HR3).drew
   have v4 := (unhide HR3).cell 4
   have v6 := (unhide HR3).cell 6
   have x4 := (unhide HR3).fz 4
   have x6 := (unhide HR3).fz 6
   simp at v4 v6
   go_region_with (go_at_call 149; refine (unhide HAW).mono ?_; rintro e w4 ⟨u, rfl, f4, b4⟩; obtain ⟨ao, cp, rfl, -⟩ := f4.arg; have HR4 := hide ((unhide HRD).below b4); have y4 := (unhide HR4).cell 4; have y6 := (unhide HR4).cell 6; have z4 := (unhide HR4).fz 4; have z6 := (unhide HR4).fz 6; simp at y4 y6; have F4 := hide f4; have B4 := hide b4; clear f4 b4)
   
   all_goals
    refine gen_then ?_
    intro V hV
    have HR5 : Hid (RL w V c #[.int .i64 c.kind, .int .u16 c.flag, .bool c.cross, .string (Wd.str s), .string (Wd.str p.1), .string ⟨#[46]⟩, .slice ao p.2.length cp]) := by
     rw [hV]
     first | exact ((unhide HR4).set 4 _).set 6 _ | exact ((unhide HR4).set 6 _).set 4 _
    have F5 : Hid (FNx w.heap.size V (.slice ao p.2.length cp) p.2) := by
     refine fnx_kept ((unhide F4).low (unhide HRD).b.size) fun gg cur hgg => ?_
     rw [hV]
     have hne : gg ≠ w.heap.size + 2 := by
      rintro rfl
      rw [(unhide HR4).rv] at hgg
      injection hgg with hgg
      injection hgg with _ hgg _
      exact absurd hgg (by decide)
     first | rw [Below.heap_setCell _ _ _ _ hne, Below.heap_setCell _ _ _ _ hne]
    clear hV HR4 F4 B4 HRD HR3 y4 y6 z4 z6 v4 v6 x4 x6 k1 k3 HAW HAA
    have m4 : V.cell? ⟨g, 4, none⟩ = some (.string r4) := ((unhide HR5).b.cell (p := ⟨g, 4, none⟩) hg).trans q4
    cases hc : condn R.line (fld row 4) with
    | error er =>
     have HX := hide (rule_c (F := R.file) (c := c) (unhide HNN) (unhide HPO) (unhide HAO) hc)
     have HCC := hide (noOf (unhide HC V (unhide HR5).b) hc)
     clear HC hc
     go_wp2_with (go_at_call 150; refine (unhide HCC).mono ?_; rintro e w6 ⟨rfl, b6⟩)
     exact ⟨rfl, URes.no (unhide HX) (btr (unhide HR5).b b6)⟩
    | ok cn =>
     have HX := hide (rule_5 (F := R.file) (c := c) (unhide HNN) (unhide HPO) (unhide HAO) hc)
     have HCC := hide (okOf (unhide HC V (unhide HR5).b) hc)
     clear HC hc
     unfold strV at HCC
     go_wp2_with (go_at_call 150; refine (unhide HCC).mono ?_; rintro e w6 ⟨rfl, b6⟩; have HR6 := hide ((unhide HR5).below b6); have F6 := hide (fnx_kept (unhide F5) (below_kept b6)); have tz := (unhide HR6).fz 5; obtain ⟨p0, p1, p2, p3, p4, p5, p6⟩ := (unhide HR6).cells; obtain ⟨⟨o0, o1, o2, o3, o4, o5, o6⟩, oz⟩ := (unhide HR6).ocell; have sz := (unhide HR6).sz; clear b6 HR5 F5)
     have HR7 := (unhide HR6).set 5 (.string (Wd.str cn))
     have F7 : FNx w.heap.size (w6.setCell ⟨w.heap.size + 2, 5, none⟩ (.string (Wd.str cn))) (.slice ao p.2.length cp) p.2 := by
      refine fnx_kept (unhide F6) fun gg cur hgg => Below.heap_setCell _ _ _ _ ?_
      rintro rfl
      rw [(unhide HR6).rv] at hgg
      injection hgg with hgg
      injection hgg with _ hgg _
      exact absurd hgg (by decide)
     refine bodyPost_ret (v := .agg #[.int .i64 c.kind, .int .u16 c.flag, .bool c.cross, .string (Wd.str s), .string (Wd.str p.1), .string (Wd.str cn), .slice ao p.2.length cp]) (by simp [results, Tryz.results118, go_sem, o0, o1, o2, o3, o4, o5, o6]) rfl ?_
     exact URes.yes (u := .slice ao p.2.length cp) (unhide HX) (set7 HR7.b _ _ _ _ _ _ _) (fnx_set7 F7 HR7.ob _ _ _ _ _ _ _)
theorem rule_any {B rb n : Nat} {R : Rdr} {P : Pts} {w : World} (h : RAt B w rb R P) (hM : Mx B w) (c : Cls) (row : List Bs) (fv : Value) (hrow : StrRow n w fv (row.map Fld.str)) (hf : ∀ f ∈ row, f.length ≤ 65536) :
  Calls Tryz.prog 118 #[ptr rb, clsV c, fv] w (URes w (rule R.file R.line c row)) := by
 by_cases h4 : row.length = 4
 ·exact rule_go4 h hM c row fv hrow hf h4
 ·by_cases h5 : row.length = 5
  ·exact rule_go5 h hM c row fv hrow hf h5
  ·exact rule_bad h c row fv hrow ⟨h4, h5⟩
structure Kq (T : List TypeId) (M : Nat → Prop) (w w' : World) : Prop where
 size : w.heap.size ≤ w'.heap.size
 cells : ∀ (g : Nat) (cur : Array Value) (t : TypeId) (fz : Nat × Nat), w.heap[g]? = some (.cells cur t fz) → t ∉ T → w'.heap[g]? = w.heap[g]?
 maps : ∀ (g : Nat) es c, w.heap[g]? = some (.map es c) → ¬ M g → w'.heap[g]? = w.heap[g]?
def noM : Nat → Prop := fun _ => False
theorem Kq.refl (T : List TypeId) (M : Nat → Prop) (w : World) : Kq T M w w := ⟨Nat.le_refl _, fun _ _ _ _ _ _ => rfl, fun _ _ _ _ _ => rfl⟩
theorem Kq.trans {T : List TypeId} {M : Nat → Prop} {a b c : World} (h : Kq T M a b) (k : Kq T M b c) : Kq T M a c :=
 ⟨Nat.le_trans h.size k.size, fun g cur t fz e n => (k.cells g cur t fz ((h.cells g cur t fz e n).trans e) n).trans (h.cells g cur t fz e n), fun g es c e n => (k.maps g es c ((h.maps g es c e n).trans e) n).trans (h.maps g es c e n)⟩
theorem Kq.wide {T T' : List TypeId} {M M' : Nat → Prop} {a b : World} (h : Kq T M a b) (ht : ∀ t ∈ T, t ∈ T') (hm : ∀ g, M g → M' g) : Kq T' M' a b :=
 ⟨h.size, fun g cur t fz e n => h.cells g cur t fz e (fun x => n (ht t x)), fun g es c e n => h.maps g es c e (fun x => n (hm g x))⟩
theorem Kq.below {T : List TypeId} {M : Nat → Prop} {a b : World} (h : Below a.heap.size a b) : Kq T M a b := ⟨h.size, fun g _ _ _ e _ => h.block g (lt_some e), fun g _ _ e _ => h.block g (lt_some e)⟩
theorem Kq.kp {T : List TypeId} {M : Nat → Prop} {a b : World} {g0 : Nat} {cs : Array Value} {t : TypeId} {fz : Nat × Nat} (h : Kp g0 a b) (h0 : a.heap[g0]? = some (.cells cs t fz)) (ht : t ∈ T) : Kq T M a b :=
 ⟨h.1, fun g cur t' fz' e n => h.2 g (lt_some e) (by rintro rfl; rw [h0] at e; injection e with e; injection e with _ e _; subst e; exact n ht), fun g es c e _ => h.2 g (lt_some e) (by rintro rfl; rw [h0] at e; cases e)⟩
theorem Kq.kpm {T : List TypeId} {M : Nat → Prop} {a b : World} {g0 : Nat} {es : _} {c : _} (h : Kp g0 a b) (h0 : a.heap[g0]? = some (.map es c)) (hm : M g0) : Kq T M a b :=
 ⟨h.1, fun g cur t' fz' e n => h.2 g (lt_some e) (by rintro rfl; rw [h0] at e; cases e), fun g es c e n => h.2 g (lt_some e) (by rintro rfl; exact n hm)⟩
theorem Kq.grown {T : List TypeId} {M : Nat → Prop} {a b : World} {B : Nat} {e : TypeId} {size n : Nat} {v : Value} {xs : List Value} (h : a.grownBy b v.ownBlock) (ho : a.ownsRow B e size v n xs) (ht : e ∈ T) : Kq T M a b := by
 have key : ∀ (g : Nat) (o : Obj), a.heap[g]? = some o → (∀ cur, o ≠ .cells cur e (0, 0)) → b.heap[g]? = a.heap[g]? := by
  intro g o hg hn
  refine h.block g (lt_some hg) ?_
  intro q
  obtain ⟨hl, ⟨e1, e2⟩ | ⟨g', cap, cur, e1, h1, hg', r⟩⟩ := ho
  ·subst e1; cases q
  ·subst e1
   injection q with q
   subst q
   rw [hg'] at hg
   exact hn cur (Option.some.inj hg).symm
 refine ⟨h.size, fun g cur t fz eg n => key g _ eg ?_, fun g es c eg _ => key g _ eg (fun cur q => by cases q)⟩
 intro cur' q
 injection q with _ q _
 subst q
 exact n ht
theorem own_kq {T : List TypeId} {M : Nat → Prop} {w w' : World} {B : Nat} {e : TypeId} {size n : Nat} {v : Value} {xs : List Value} (h : w.ownsRow B e size v n xs) (k : Kq T M w w') (ht : e ∉ T) : w'.ownsRow B e size v n xs := own_kept h fun g cur q => k.cells g cur e (0, 0) q ht
theorem fnx_kq {T : List TypeId} {M : Nat → Prop} {w w' : World} {B : Nat} {v : Value} {l : List Int} (h : FNx B w v l) (k : Kq T M w w') (ht : 34 ∉ T) : FNx B w' v l := fnx_kept h fun g cur q => k.cells g cur _ (0, 0) q ht
theorem MapF.kq {T : List TypeId} {M : Nat → Prop} {w w' : World} {k : TypeId} {b n : Nat} {f : Lit → Option Value} (h : MapF w k b n f) (q : Kq T M w w') (hm : ¬ M b) : MapF w' k b n f := by
 obtain ⟨es, c, e⟩ := h.isMap
 exact h.kept (q.maps b es c e hm)
theorem Kq.kt {T : List TypeId} {M : Nat → Prop} {w w' : World} {B pm hm : Nat} (k : Kq T M w w') (l : Below B w w') (ht : ∀ t ∈ T, t ∈ WT) (hM : ∀ g, M g → g = pm ∨ g = hm) : Kt B pm hm w w' :=
 ⟨l, fun g cur t fz e n => k.cells g cur t fz e (fun x => n (ht t x)), fun g es c e n1 n2 => k.maps g es c e (fun x => (hM g x).elim n1 n2)⟩
theorem addr0 (g j : Nat) : (⟨g, 0, none⟩ : Addr).add j = ⟨g, j, none⟩ := by
 unfold Addr.add
 split
 ·next h => subst h; rfl
 ·simp
theorem push1 {w X : World} {B : Nat} {t e : TypeId} {size bytes : Nat} {z : Value} {v : Value} {n : Nat} {xs news : List Value} (ht : Tryz.prog.underlying t = some (.slice e)) (hi : (Tryz.prog.info? e).map (fun i => (i.zero, i.size, i.bytes)) = some (some z, size, bytes)) (hzs : z.cells.size = size) (hsz : 0 < size)
  (h : w.ownsRow B e size v n xs) (hB : B ≤ w.heap.size) (hX : Below w.heap.size w X) (hX0 : X.heap[w.heap.size]? = some (.cells news.toArray e (0, 0))) (hl : news.length = size) (h1 : ∀ u ∈ news, u.oneCell' = true) (hn : n ≤ 1048576) (hb : bytes ≤ 4096) (ty : TypeId) :
  ∃ a c W5, (Builtin.append_ #[t, t] ty #[v, .slice (some ⟨w.heap.size, 0, none⟩) 1 1]).run Tryz.prog X = .ok (.slice a (n + 1) c) W5 ∧ W5.ownsRow B e size (.slice a (n + 1) c) (n + 1) (xs ++ news) ∧ Kq [e] noM w W5 ∧ Below B w W5 ∧ ∀ b, b < w.heap.size → v.ownBlock ≠ some b → W5.heap[b]? = w.heap[b]? := by
 obtain ⟨i, hi, hz'⟩ := Option.map_eq_some_iff.1 hi
 simp only [Prod.mk.injEq] at hz'
 obtain ⟨hz0, hz1, hz2⟩ := hz'
 have hown := own_kept h (below_kept hX)
 have hBX : B ≤ X.heap.size := Nat.le_trans hB hX.size
 have hby : (n + 1) * bytes ≤ 140737488355328 := by
  have : (n + 1) * bytes ≤ 1048577 * 4096 := Nat.mul_le_mul (by omega) hb
  omega
 obtain ⟨v', W', hr, h2, h3, h4⟩ := run_append_own (P := Tryz.prog) X B t ty e i z size bytes ht hi hz0 hz1 hz2 hzs hsz v n xs hown ⟨w.heap.size, 0, none⟩ 1 1 news (by omega) (fun j u hj => by
  rw [addr0]
  simp [World.cell?, hX0, hj]) h1 (by unfold maxLen; omega) hby hBX
 obtain ⟨a, c, rfl, -, -⟩ := own_len h2
 refine ⟨a, c, W', hr, h2, (Kq.below hX).trans (Kq.grown h3 hown (by simp)), ?_⟩
 refine ⟨(hX.mono hB).trans ((Below.refl _ _).grown h3 hBX fun k hk => (hown.lt k hk).1), fun b hb hne => ?_⟩
 exact (h3.block b (Nat.lt_of_lt_of_le hb hX.size) (fun q => hne q.symm)).trans (hX.block b hb)

theorem FAt.kq {T : List TypeId} {M : Nat → Prop} {B : Nat} {w w' : World} {F F' : Fil} {P P' : Pts} (h : FAt B w F P) (k : Kq T M w w') (e1 : P'.fb = P.fb) (e2 : P'.pm = P.pm)
  (hfil : w'.heap[P'.fb]? = some (.cells (filC F' P') 111 (0, 0))) (hplc : (∃ n, n ≤ F'.classes.length ∧ MapF w' 34 P'.pm n (Af.plc F'.classes)) ∨ (F'.classes = F.classes ∧ ¬ M P.pm))
  (hreps : w'.ownsRow B 74 2 P'.vr F'.reps.length (F'.reps.flatMap repC) ∨ (F'.reps = F.reps ∧ P'.vr = P.vr ∧ 74 ∉ T))
  (halis : (w'.ownsRow B 44 1 P'.va F'.aliases.length P'.av ∧ P'.av.length = F'.aliases.length ∧ ∀ (i : Nat) v a, P'.av[i]? = some v → F'.aliases[i]? = some a → FNx B w' v a) ∨ (F'.aliases = F.aliases ∧ P'.va = P.va ∧ P'.av = P.av ∧ 44 ∉ T))
  (hcls : w'.ownsRow B 48 5 P'.vc F'.classes.length (F'.classes.flatMap clsC) ∨ (F'.classes = F.classes ∧ P'.vc = P.vc ∧ 48 ∉ T))
  (hrul : (w'.ownsRow B 76 7 P'.vu F'.rules.length ((F'.rules.zip P'.nv).flatMap fun p => rulC p.1 p.2) ∧ P'.nv.length = F'.rules.length ∧ ∀ (i : Nat) v r, P'.nv[i]? = some v → F'.rules[i]? = some r → FNx B w' v r.next) ∨ (F'.rules = F.rules ∧ P'.vu = P.vu ∧ P'.nv = P.nv ∧ 76 ∉ T))
  (hT : 34 ∉ T) (ok : FilOk F') : FAt B w' F' P' := by
 refine ⟨by rw [e1]; exact h.fbB, by rw [e2]; exact h.pmB, hfil, ?_, ?_, ?_, ?_, ?_, ?_, ?_, ok⟩
 ·rcases hplc with q | ⟨q, m⟩
  ·exact q
  ·obtain ⟨n, hn, hm⟩ := h.plc
   rw [q, e2]
   exact ⟨n, hn, hm.kq k m⟩
 ·rcases hreps with q | ⟨q1, q2, q3⟩
  ·exact q
  ·rw [q1, q2]; exact own_kq h.reps k q3
 ·rcases halis with q | ⟨q1, q2, q3, q4⟩
  ·exact q.1
  ·rw [q1, q2, q3]; exact own_kq h.alis k q4
 ·rcases halis with q | ⟨q1, q2, q3, q4⟩
  ·exact q.2
  ·rw [q1, q3]; exact ⟨h.aliF.1, fun i v a x1 x2 => fnx_kq (h.aliF.2 i v a x1 x2) k hT⟩
 ·rcases hcls with q | ⟨q1, q2, q3⟩
  ·exact q
  ·rw [q1, q2]; exact own_kq h.clss k q3
 ·rcases hrul with q | ⟨q1, q2, q3, q4⟩
  ·exact q.1
  ·rw [q1, q2, q3]; exact own_kq h.ruls k q4
 ·rcases hrul with q | ⟨q1, q2, q3, q4⟩
  ·exact q.2
  ·rw [q1, q3]; exact ⟨h.rulF.1, fun i v a x1 x2 => fnx_kq (h.rulF.2 i v a x1 x2) k hT⟩
theorem RAt.kq {T : List TypeId} {M : Nat → Prop} {B rb : Nat} {w w' : World} {R R' : Rdr} {P P' : Pts} (h : RAt B w rb R P) (k : Kq T M w w') (hF : FAt B w' R'.file P') (e1 : P'.pm = P.pm) (e2 : P'.hm = P.hm) (e3 : P'.rv = P.rv)
  (hrd : w'.heap[rb]? = some (.cells (rdrC R' P') 84 (0, 0))) (hl : w'.ownsRow B 3 1 P'.vl R'.file.rules.length (R'.file.rules.map linC)) (r1 : R'.rows = R.rows) (r2 : R'.heads = R.heads) (r3 : R'.behind = R.behind) (r4 : R'.line = R.line)
  (t2 : 184 ∉ T) (t3 : 9 ∉ T) (m1 : ¬ M P.hm) : RAt B w' rb R' P' := by
 obtain ⟨n, hn, hm⟩ := h.hds
 refine ⟨h.rbB, by rw [e2]; exact h.hmB, hrd, ?_, ⟨n, by rw [r2]; exact hn, by rw [r2, e2]; exact hm.kq k m1⟩, by rw [e1, e2]; exact h.hne, hl, hF, by rw [r2, r3, r4]; exact h.few, by rw [r1]; exact h.rok⟩
 rw [r1, e3]
 exact rows_kept h.rows (fun g cur q => k.cells g cur _ (0, 0) q t2) (fun g cur q => k.cells g cur _ (0, 0) q t3)
theorem RAt.ne {B rb : Nat} {R : Rdr} {P : Pts} {w : World} (h : RAt B w rb R P) : rb ≠ P.fb := by
 intro e
 have := h.rdr
 rw [e, h.file.fil] at this
 injection this with this
 injection this with _ this _
 exact absurd this (by decide)
theorem RAt.fset {B rb : Nat} {R : Rdr} {P : Pts} {w w0 : World} (h : RAt B w rb R P) (hb : Below w.heap.size w w0) {F' : Fil} (i : Nat) (v : Value) (hc : (filC R.file P).setIfInBounds i v = filC F' P) (q1 : F'.reps = R.file.reps) (q2 : F'.aliases = R.file.aliases) (q3 : F'.classes = R.file.classes) (q4 : F'.rules = R.file.rules) (ok : FilOk F') :
  RAt B (w0.setCell ⟨P.fb, i, none⟩ v) rb { R with file := F' } P ∧ Kt B P.pm P.hm w (w0.setCell ⟨P.fb, i, none⟩ v) := by
 have h' := h.below hb
 have k : Kq [111] noM w0 (w0.setCell ⟨P.fb, i, none⟩ v) := .kp (kp_set w0 P.fb i v) h'.file.fil (by simp)
 have k0 : Kq [111] noM w (w0.setCell ⟨P.fb, i, none⟩ v) := (Kq.below hb).trans k
 have hf : FAt B (w0.setCell ⟨P.fb, i, none⟩ v) F' P := h'.file.kq k rfl rfl (by rw [← hc]; exact set_heap1 h'.file.fil v) (.inr ⟨q3, fun x => x⟩) (.inr ⟨q1, rfl, by decide⟩) (.inr ⟨q2, rfl, rfl, by decide⟩) (.inr ⟨q3, rfl, by decide⟩) (.inr ⟨q4, rfl, rfl, by decide⟩) (by decide) ok
 refine ⟨h'.kq k hf rfl rfl rfl ((k.cells _ _ _ _ h'.rdr (by decide)).trans h'.rdr) ?_ rfl rfl rfl rfl (by decide) (by decide) (fun x => x), k0.kt ?_ (by decide) (fun g x => x.elim)⟩
 ·show World.ownsRow _ _ _ _ _ F'.rules.length (F'.rules.map linC)
  rw [q4]
  exact own_kq h'.lns k (by decide)
 ·exact (hb.mono h.base).setCell (p := ⟨P.fb, i, none⟩) h.file.fbB v
theorem oneF_bounds (k : Int) (l : Bs) : 0 ≤ One.oneF k l ∧ One.oneF k l ≤ 65535 := by
 unfold One.oneF
 split
 ·exact One.val_bounds k l
 ·omega
theorem newFlag_cls {R : Rdr} {f : Bs} {i : Nat} (h : One.oneE R.file.kind f = 0) (h2 : findC R.file.classes (One.oneF R.file.kind f) = some i) : newFlag R f = .error (R.line, 115) := by
 unfold newFlag
 rw [if_neg (fun e => e h), if_pos (.inl (by rw [h2]; rfl))]
theorem newFlag_pos {R : Rdr} {f : Bs} {x : Int} (h : newFlag R f = .ok x) : 1 ≤ x ∧ x ≤ 65535 ∧ findC R.file.classes x = none ∧ x ∉ R.file.specials := by
 unfold newFlag at h
 split at h
 ·cases h
 ·rename_i he
  split at h
  ·cases h
  ·rename_i hc
   injection h with h
   have hb := oneF_bounds R.file.kind f
   have h0 : One.oneF R.file.kind f ≠ 0 := by
    intro e
    apply he
    unfold One.oneE
    unfold One.oneF at e
    split at e
    ·rename_i hk
     rw [if_pos hk, if_pos e]; decide
    ·rename_i hk
     rw [if_neg hk]; decide
   rw [h] at hb h0 hc
   rw [not_or] at hc
   refine ⟨by omega, hb.2, ?_, hc.2⟩
   cases hq : findC R.file.classes x with
   | none => rfl
   | some i => rw [hq] at hc; exact absurd rfl hc.1
theorem newFlag_all {B rb : Nat} {R : Rdr} {P : Pts} {w : World} (h : RAt B w rb R P) (s : ByteArray) (hs : s.size ≤ 65536) :
  Calls Tryz.prog 113 #[ptr rb, .string s] w fun e w' => e = endX flgV (newFlag R s.data.toList) ∧ Below w.heap.size w w' := by
 obtain ⟨hb0, hb1⟩ := oneF_bounds R.file.kind s.data.toList
 cases hf : findC R.file.classes (One.oneF R.file.kind s.data.toList) with
 | none => exact newFlag_any h s hs hf hb0 hb1
 | some i =>
  by_cases he : One.oneE R.file.kind s.data.toList = 0
  ·obtain ⟨d0, -, dl, -, -, -, -⟩ := h.cells
   obtain ⟨k0, -, -, -, -, -, kz⟩ := h.file.cells
   have hlt := h.lt
   have hfl := h.file.lt
   obtain ⟨c, hc, -⟩ := findC_get hf
   have HO := hide (One.one_any R.file.kind s w (by unfold maxLen; omega))
   rw [he] at HO
   have HL := hide (fun W => leave_ok (ptr rb) W)
   have HC := hide (fun m => class_some (h.file.below (w' := w.drewN m) (below_drewN _ w m)) _ hb0 hb1 hf hc)
   rw [newFlag_cls he hf]
   have HV := hide (fun W (b : Below w.heap.size w W) => leaveIf_no rb R.line 115 W (by decide) (by decide) (lineB dl hlt b))
   clear h hf hb0 hb1 he hs hc kz dl
   generalize One.oneF R.file.kind s.data.toList = x at *
   unfold clsV at HC
   go_enter Tryz.func113, Tryz.ntmps113
   go_wp2_with (first | (go_at_call 69; refine (unhide HO).mono ?_; rintro e w2 ⟨rfl, m, rfl⟩) | (go_at_call 80; refine (unhide HL _).mono ?_; rintro e w3 ⟨rfl, rfl⟩))
   refine (unhide HC m).mono ?_
   rintro e w3 ⟨rfl, b3⟩
   have b4 : Below w.heap.size w w3 := (below_drewN w.heap.size w m).trans b3
   have e0 := (b4.cell (p := ⟨rb, 0, none⟩) hlt).trans d0
   have hsz := b4.size
   have hlt3 : rb < w3.heap.size := by omega
   have HB4 := hide b4
   clear b3 b4 d0 k0
   go_wp2_with fail
   have b5 := (unhide HB4).alloc hsz (.cells #[.int .u16 c.flag, .int .i64 c.kind, .bool c.cross, .int .i64 (c.first : Nat), .int .i64 (c.count : Nat)] 48)
   refine (unhide HV _ b5).mono ?_
   rintro e w6 ⟨rfl, rfl⟩
   exact ⟨rfl, rfl, b5⟩
  ·obtain ⟨d0, -, dl, -, -, -, -⟩ := h.cells
   obtain ⟨k0, -, -, -, -, -, kz⟩ := h.file.cells
   have hlt := h.lt
   have HO := hide (One.one_any R.file.kind s w (by unfold maxLen; omega))
   rw [newFlag_bad he]
   have HV := hide (fun m => leave_no rb R.line _ (w.drewN m) he (oneE_pos _ _) (lineB dl hlt (below_drewN _ w m)))
   clear h hf hb0 hb1 he hs kz
   generalize One.oneE R.file.kind s.data.toList = cd at *
   go_enter Tryz.func113, Tryz.ntmps113
   go_wp2_with (first | (go_at_call 69; refine (unhide HO).mono ?_; rintro e w2 ⟨rfl, m, rfl⟩) | (go_at_call 80; refine (unhide HV _).mono ?_; rintro e w3 ⟨rfl, rfl⟩))
   exact ⟨rfl, rfl, below_drewN _ w m⟩
theorem times_err {f : Rdr → Except Er Rdr} {e : Er} : ∀ {j n : Nat} {R Rj : Rdr}, times f j R = .ok Rj → f Rj = .error e → j < n → times f n R = .error e
 | 0, n, R, Rj, h, he, hn => by
  obtain ⟨m, rfl⟩ : ∃ m, n = m + 1 := ⟨n - 1, by omega⟩
  simp only [times, Except.ok.injEq] at h
  subst h
  simp [times, he]
 | j + 1, n, R, Rj, h, he, hn => by
  obtain ⟨m, rfl⟩ : ∃ m, n = m + 1 := ⟨n - 1, by omega⟩
  simp only [times] at h ⊢
  cases hf : f R with
  | error e' => rw [hf] at h; cases h
  | ok R1 => rw [hf] at h; exact times_err h he (by omega)
theorem times_ok {f : Rdr → Except Er Rdr} : ∀ {j : Nat} {R Rj R' : Rdr}, times f j R = .ok Rj → f Rj = .ok R' → times f (j + 1) R = .ok R'
 | 0, R, Rj, R', h, he => by
  simp only [times, Except.ok.injEq] at h
  subst h
  simp [times, he]
 | j + 1, R, Rj, R', h, he => by
  rw [times] at h ⊢
  cases hf : f R with
  | error e' => rw [hf] at h; cases h
  | ok R1 => rw [hf] at h; exact times_ok h he
theorem grow_fld {R : Rdr} {beg row : List Bs} {R1 : Rdr} (h : grow R beg = .ok (row, R1)) : ∃ l t, R.rows = (l, row) :: t ∧ R1 = { R with rows := t, line := l } := by
 unfold grow at h
 split at h
 ·cases h
 ·rename_i l row' t hr
  split at h
  ·injection h with h
   injection h with h1 h2
   subst h1
   exact ⟨l, t, hr, h2.symm⟩
  ·cases h
theorem rulStep_g {R : Rdr} {beg : List Bs} {c : Cls} {e : Er} (h : grow R beg = .error e) : rulStep beg c R = .error e := by unfold rulStep; rw [h]
theorem rulStep_r {R R1 : Rdr} {beg row : List Bs} {c : Cls} {e : Er} (h : grow R beg = .ok (row, R1)) (hr : rule R1.file R1.line c row = .error e) : rulStep beg c R = .error e := by unfold rulStep; rw [h]; simp [hr]
theorem rulStep_ok {R R1 : Rdr} {beg row : List Bs} {c : Cls} {p : Rul} (h : grow R beg = .ok (row, R1)) (hr : rule R1.file R1.line c row = .ok p) : rulStep beg c R = .ok { R1 with file := { R1.file with rules := R1.file.rules ++ [p] } } := by unfold rulStep; rw [h]; simp [hr]
theorem rule_line {F : Fil} {l : Nat} {c : Cls} {row : List Bs} {r : Rul} (h : rule F l c row = .ok r) : r.line = l := by
 unfold rule at h
 split at h
 ·cases h
 ·split at h
  ·cases h
  ·split at h
   ·cases h
   ·split at h
    ·split at h
     ·cases h
     ·injection h with h; rw [← h]
    ·injection h with h; rw [← h]
theorem findC_snoc {C : List Cls} {c : Cls} (h : findC C c.flag = none) (x : Int) : findC (C ++ [c]) x = if x = c.flag then some C.length else findC C x := by
 induction C with
 | nil =>
  simp only [List.nil_append, findC, List.length_nil]
  by_cases e : c.flag = x
  ·rw [if_pos e, if_pos e.symm]
  ·rw [if_neg e, if_neg (fun q => e q.symm)]; rfl
 | cons a t ih =>
  simp only [findC] at h
  split at h
  ·cases h
  ·rename_i hne
   have ht : findC t c.flag = none := by
    cases hq : findC t c.flag with
    | none => rfl
    | some i => rw [hq] at h; cases h
   simp only [List.cons_append, findC, List.length_cons]
   rw [ih ht]
   by_cases e : x = c.flag
   ·rw [if_pos e, if_pos e, if_neg (by rw [e]; exact hne)]; rfl
   ·rw [if_neg e, if_neg e]
theorem infoC : (Tryz.prog.info? 48).map (fun i => (i.zero, i.size, i.bytes)) = some (some (.agg #[.int .u16 0, .int .i64 0, .bool false, .int .i64 0, .int .i64 0]), 5, 40) := by kernel_rfl
theorem infoU : (Tryz.prog.info? 76).map (fun i => (i.zero, i.size, i.bytes)) = some (some (.agg #[.int .i64 0, .int .u16 0, .bool false, .string ⟨#[]⟩, .string ⟨#[]⟩, .string ⟨#[]⟩, .slice none 0 0]), 7, 88) := by kernel_rfl
theorem infoI : (Tryz.prog.info? 3).map (fun i => (i.zero, i.size, i.bytes)) = some (some (.int .i64 0), 1, 8) := by kernel_rfl
theorem putClass {B : Nat} {V : World} {F : Fil} {P : Pts} (h : FAt B V F P) (c : Cls) (h1 : 1 ≤ c.flag) (h2 : c.flag ≤ 65535) (hf : findC F.classes c.flag = none) (hcn : F.classes.length ≤ 65536) :
  ∃ V3, (Instr.mapUpdate 109 (.map (some P.pm)) (.int .u16 c.flag) (.int .i64 (F.classes.length : Nat))).run Tryz.prog V.drew = .ok () V3 ∧ (∃ n, n ≤ F.classes.length + 1 ∧ MapF V3 34 P.pm n (plc (F.classes ++ [c]))) ∧ Kp P.pm V V3 ∧ Kq [] (· = P.pm) V V3 ∧ Below B V V3 := by
 obtain ⟨n0, hn0, hm0⟩ := h.plc
 obtain ⟨V3, hmu, hput, hgr⟩ := (MapF.kept (w' := V.drew) hm0 rfl).put (v := .int .i64 (F.classes.length : Nat)) lawF Tryz.underlying109 (by unfold maxLen; omega) (keyF (x := c.flag) (by omega) (by omega)) trivial
 have kp : Kp P.pm V V3 := Kp.of_grown (w := V.drew) hgr
 obtain ⟨es, cc, e⟩ := hm0.isMap
 refine ⟨V3, hmu, ⟨n0 + 1, by omega, hput _ ?_ ?_⟩, kp, Kq.kpm kp e rfl, ((Below.refl B V).drew).trans ((Below.refl B V.drew).grown hgr ?_ ?_)⟩
 ·show (findC (F.classes ++ [c]) c.flag).map _ = _
  rw [findC_snoc hf, if_pos rfl]
  rfl
 ·intro y hy
  match y with
  | .int .u16 z =>
   show (findC (F.classes ++ [c]) z).map _ = (findC F.classes z).map _
   rw [findC_snoc hf, if_neg (fun e => hy (by rw [e]))]
  | .int .u8 _ | .int .i8 _ | .int .i16 _ | .int .u32 _ | .int .i32 _ | .int .u64 _ | .int .i64 _ | .bool _ | .float _ _ | .string _ | .nil => rfl
 ·exact Nat.le_of_lt (Nat.lt_of_le_of_lt h.pmB hm0.lt)
 ·intro k hk
  injection hk with hk
  rw [← hk]
  exact h.pmB
theorem RAt.newClass {B rb : Nat} {w w1 w2 : World} {R : Rdr} {P : Pts} {v' : Value} (h : RAt B w rb R P) (c : Cls) (hc : 1 ≤ c.flag ∧ c.flag ≤ 65535) (k1 : Kq [] (· = P.pm) w w1) (l1 : Below B w w1) (m1 : ∃ n, n ≤ R.file.classes.length + 1 ∧ MapF w1 34 P.pm n (plc (R.file.classes ++ [c])))
  (k2 : Kq [48] noM w1 w2) (l2 : Below B w1 w2) (o2 : w2.ownsRow B 48 5 v' (R.file.classes.length + 1) (R.file.classes.flatMap clsC ++ clsC c)) :
  RAt B (w2.setCell ⟨P.fb, 11, none⟩ v') rb { R with file := { R.file with classes := R.file.classes ++ [c] } } { P with vc := v' } ∧ Kt B P.pm P.hm w (w2.setCell ⟨P.fb, 11, none⟩ v') := by
 have k12 : Kq [111, 48] (· = P.pm) w w2 := (k1.wide (by simp) (fun _ x => x)).trans (k2.wide (by simp) (fun _ x => x.elim))
 have hfil : w2.heap[P.fb]? = some (.cells (filC R.file P) 111 (0, 0)) :=
  ((k2.cells _ _ _ _ ((k1.cells _ _ _ _ h.file.fil (by simp)).trans h.file.fil) (by decide)).trans ((k1.cells _ _ _ _ h.file.fil (by simp)).trans h.file.fil))
 have k3 : Kq [111, 48] (· = P.pm) w2 (w2.setCell ⟨P.fb, 11, none⟩ v') := .kp (kp_set w2 P.fb 11 v') hfil (by simp)
 have kk := k12.trans k3
 obtain ⟨n, hn, hm⟩ := m1
 have ok := h.file.ok
 have hf : FAt B (w2.setCell ⟨P.fb, 11, none⟩ v') { R.file with classes := R.file.classes ++ [c] } { P with vc := v' } := by
  refine h.file.kq kk rfl rfl (set_heap1 hfil v') (.inl ⟨n, by simpa using hn, (hm.kq k2 (fun x => x)).kq (M := noM) (T := [111]) (.kp (kp_set w2 P.fb 11 v') hfil (by simp)) (fun x => x)⟩) (.inr ⟨rfl, rfl, by decide⟩) (.inr ⟨rfl, rfl, rfl, by decide⟩) (.inl ?_) (.inr ⟨rfl, rfl, rfl, by decide⟩) (by decide) ⟨ok.kind, ok.spec, ok.specB, ?_, ok.reps, ok.ali, ok.aliS, ok.rul, ok.len⟩
  ·have := own_kq o2 (Kq.kp (T := [111]) (M := noM) (kp_set w2 P.fb 11 v') hfil (by simp)) (by decide)
   simpa using this
  ·intro d hd
   rcases List.mem_append.1 hd with q | q
   ·exact ok.cls d q
   ·simp at q; subst q; exact hc
 refine ⟨h.kq kk hf rfl rfl rfl ((kk.cells _ _ _ _ h.rdr (by decide)).trans h.rdr) (own_kq h.lns kk (by decide)) rfl rfl rfl rfl (by decide) (by decide) h.hne, kk.kt ?_ (by decide) (fun g x => .inl x)⟩
 exact (l1.trans l2).setCell (p := ⟨P.fb, 11, none⟩) h.file.fbB v'
theorem zip_snoc {a : List Rul} {b : List Value} (h : b.length = a.length) (r : Rul) (u : Value) : ((a ++ [r]).zip (b ++ [u])).flatMap (fun p => rulC p.1 p.2) = ((a.zip b).flatMap fun p => rulC p.1 p.2) ++ rulC r u := by
 rw [List.zip_append h.symm, List.flatMap_append]
 simp
theorem snoc_get {α : Type} {l : List α} {x y : α} {i : Nat} (h : (l ++ [x])[i]? = some y) : (i < l.length ∧ l[i]? = some y) ∨ (i = l.length ∧ y = x) := by
 by_cases hi : i < l.length
 ·rw [List.getElem?_append_left hi] at h
  exact .inl ⟨hi, h⟩
 ·rw [List.getElem?_append_right (by omega)] at h
  obtain ⟨q, q2⟩ := List.getElem?_eq_some_iff.1 h
  simp at q
  have : i = l.length := by omega
  subst this
  simp at q2
  exact .inr ⟨rfl, q2.symm⟩
theorem RAt.addRule {B rb : Nat} {w w4 w5 w7 : World} {R : Rdr} {P : Pts} {u v' l' : Value} (h : RAt B w rb R P) (r : Rul) (hr : r.line = R.line) (hn : R.file.rules.length < 1024) (k4 : Below w.heap.size w w4) (hu : FNx w.heap.size w4 u r.next)
  (k5 : Kq [76] noM w4 w5) (l5 : Below B w4 w5) (o5 : w5.ownsRow B 76 7 v' (R.file.rules.length + 1) (((R.file.rules.zip P.nv).flatMap fun p => rulC p.1 p.2) ++ rulC r u))
  (k7 : Kq [3] noM (w5.setCell ⟨P.fb, 12, none⟩ v') w7) (l7 : Below B (w5.setCell ⟨P.fb, 12, none⟩ v') w7) (o7 : w7.ownsRow B 3 1 l' (R.file.rules.length + 1) (R.file.rules.map linC ++ [.int .i64 (R.line : Nat)])) :
  RAt B (w7.setCell ⟨rb, 5, none⟩ l') rb { R with file := { R.file with rules := R.file.rules ++ [r] } } { P with vu := v', vl := l', nv := P.nv ++ [u] } ∧ Kt B P.pm P.hm w (w7.setCell ⟨rb, 5, none⟩ l') := by
 have hB := h.base
 have h4 := h.below k4
 have hfil : w5.heap[P.fb]? = some (.cells (filC R.file P) 111 (0, 0)) := (k5.cells _ _ _ _ h4.file.fil (by decide)).trans h4.file.fil
 have k6 : Kq [111] noM w5 (w5.setCell ⟨P.fb, 12, none⟩ v') := .kp (kp_set w5 P.fb 12 v') hfil (by simp)
 have hrd : w7.heap[rb]? = some (.cells (rdrC R P) 84 (0, 0)) := by
  have e1 := (k5.cells _ _ _ _ h4.rdr (by decide)).trans h4.rdr
  have e2 := (k6.cells _ _ _ _ e1 (by decide)).trans e1
  exact (k7.cells _ _ _ _ e2 (by decide)).trans e2
 have k8 : Kq [84] noM w7 (w7.setCell ⟨rb, 5, none⟩ l') := .kp (kp_set w7 rb 5 l') hrd (by simp)
 let T : List TypeId := [84, 111, 76, 3]
 have kk : Kq T noM w4 (w7.setCell ⟨rb, 5, none⟩ l') := (((k5.wide (by decide) (fun _ x => x)).trans (k6.wide (by decide) (fun _ x => x))).trans (k7.wide (by decide) (fun _ x => x))).trans (k8.wide (by decide) (fun _ x => x))
 have kw : Kq T noM w (w7.setCell ⟨rb, 5, none⟩ l') := (Kq.below k4).trans kk
 have hlow : Below B w (w7.setCell ⟨rb, 5, none⟩ l') := (((k4.mono hB).trans l5).trans (((Below.refl B w5).setCell (p := ⟨P.fb, 12, none⟩) h.file.fbB v').trans l7)).setCell (p := ⟨rb, 5, none⟩) h.rbB l'
 have ok := h.file.ok
 have hf : FAt B (w7.setCell ⟨rb, 5, none⟩ l') { R.file with rules := R.file.rules ++ [r] } { P with vu := v', vl := l', nv := P.nv ++ [u] } := by
  refine h4.file.kq kk rfl rfl ?_ (.inr ⟨rfl, fun x => x⟩) (.inr ⟨rfl, rfl, by decide⟩) (.inr ⟨rfl, rfl, rfl, by decide⟩) (.inr ⟨rfl, rfl, by decide⟩) (.inl ⟨?_, ?_, ?_⟩) (by decide) ⟨ok.kind, ok.spec, ok.specB, ok.cls, ok.reps, ok.ali, ok.aliS, ?_, ok.len⟩
  ·have e1 := set_heap1 (k := 12) hfil v'
   have e2 := (k7.cells _ _ _ _ e1 (by decide)).trans e1
   exact (k8.cells _ _ _ _ e2 (by decide)).trans e2
  ·have e1 := own_kq (own_kq (own_kq o5 k6 (by decide)) k7 (by decide)) k8 (by decide)
   show World.ownsRow _ _ _ _ _ (R.file.rules ++ [r]).length (((R.file.rules ++ [r]).zip (P.nv ++ [u])).flatMap fun p => rulC p.1 p.2)
   rw [zip_snoc h.file.rulF.1, List.length_append]
   exact e1
  ·simp [h.file.rulF.1]
  ·intro i v q hv hq
   rcases snoc_get hv with ⟨_, hv⟩ | ⟨hi, hv⟩
   ·rcases snoc_get hq with ⟨_, hq⟩ | ⟨hi2, hq⟩
    ·exact fnx_kq (h4.file.rulF.2 i v q hv hq) kk (by decide)
    ·have := h.file.rulF.1; omega
   ·rcases snoc_get hq with ⟨hi2, hq⟩ | ⟨hi2, hq⟩
    ·have := h.file.rulF.1; omega
    ·subst hv hq
     exact (fnx_kq hu kk (by decide)).low hB
  ·simp; omega
 refine ⟨h.kq kw hf rfl rfl rfl ?_ ?_ rfl rfl rfl rfl (by decide) (by decide) (fun x => x), kw.kt hlow (by decide) (fun g x => x.elim)⟩
 ·exact set_heap1 hrd l'
 ·have e1 := own_kq o7 k8 (by decide)
  show World.ownsRow _ _ _ _ _ (R.file.rules ++ [r]).length ((R.file.rules ++ [r]).map linC)
  rw [List.length_append, List.map_append]
  simpa [linC, hr] using e1
theorem infoR : (Tryz.prog.info? 74).map (fun i => (i.zero, i.size, i.bytes)) = some (some (.agg #[.string ⟨#[]⟩, .string ⟨#[]⟩]), 2, 32) := by kernel_rfl
theorem infoA : (Tryz.prog.info? 44).map (fun i => (i.zero, i.size, i.bytes)) = some (some (.slice none 0 0), 1, 24) := by kernel_rfl
theorem repStep_g {R : Rdr} {key : Bs} {e : Er} (h : grow R [key] = .error e) : repStep key R = .error e := by unfold repStep; rw [h]
theorem repStep_r {R R1 : Rdr} {key : Bs} {row : List Bs} {e : Er} (h : grow R [key] = .ok (row, R1)) (hr : repRow R1.line row = .error e) : repStep key R = .error e := by unfold repStep; rw [h]; simp [hr]
theorem repStep_ok {R R1 : Rdr} {key : Bs} {row : List Bs} {p : Bs × Bs} (h : grow R [key] = .ok (row, R1)) (hr : repRow R1.line row = .ok p) : repStep key R = .ok { R1 with file := { R1.file with reps := R1.file.reps ++ [p] } } := by unfold repStep; rw [h]; simp [hr]
theorem repRow_n {l : Nat} {row : List Bs} (h : row.length ≠ 3) : repRow l row = .error (l, 111) := by unfold repRow; rw [if_pos h]
theorem repRow_p {l : Nat} {row : List Bs} {e : Er} (h : row.length = 3) (hp : piece l (fld row 1) = .error e) : repRow l row = .error e := by unfold repRow; rw [if_neg (by omega), hp]
theorem repRow_q {l : Nat} {row : List Bs} {e : Er} {a : Bs} (h : row.length = 3) (hp : piece l (fld row 1) = .ok a) (hq : piece0 l (fld row 2) = .error e) : repRow l row = .error e := by unfold repRow; rw [if_neg (by omega), hp]; simp [hq]
theorem repRow_ok {l : Nat} {row : List Bs} {a b : Bs} (h : row.length = 3) (hp : piece l (fld row 1) = .ok a) (hq : piece0 l (fld row 2) = .ok b) : repRow l row = .ok (a, b) := by unfold repRow; rw [if_neg (by omega), hp]; simp [hq]
theorem doReps_n {R : Rdr} {hd : List Bs} {e : Er} (h : numb R.line (fld hd 1) 256 = .error e) : doReps R hd = .error e := by unfold doReps; rw [h]
theorem doReps_t {R : Rdr} {hd : List Bs} {n : Nat} (h : numb R.line (fld hd 1) 256 = .ok n) : doReps R hd = times (repStep (fld hd 0)) n R := by unfold doReps; rw [h]
theorem aliStep_g {R : Rdr} {key : Bs} {e : Er} (h : grow R [key] = .error e) : aliStep key R = .error e := by unfold aliStep; rw [h]
theorem aliStep_r {R R1 : Rdr} {key : Bs} {row : List Bs} {e : Er} (h : grow R [key] = .ok (row, R1)) (hr : aliRow R1.file R1.line row = .error e) : aliStep key R = .error e := by unfold aliStep; rw [h]; simp [hr]
theorem aliStep_ok {R R1 : Rdr} {key : Bs} {row : List Bs} {p : List Int} (h : grow R [key] = .ok (row, R1)) (hr : aliRow R1.file R1.line row = .ok p) : aliStep key R = .ok { R1 with file := { R1.file with aliases := R1.file.aliases ++ [p] } } := by unfold aliStep; rw [h]; simp [hr]
theorem aliRow_n {F : Fil} {l : Nat} {row : List Bs} (h : row.length ≠ 2) : aliRow F l row = .error (l, 111) := by unfold aliRow; rw [if_pos h]
theorem aliRow_e {F : Fil} {l : Nat} {row : List Bs} (h : row.length = 2) (he : So.rE F.kind (fld row 1) ≠ 0) : aliRow F l row = .error (l, (So.rE F.kind (fld row 1)).toNat) := by unfold aliRow; rw [if_neg (by omega), if_pos he]
theorem aliRow_ok {F : Fil} {l : Nat} {row : List Bs} (h : row.length = 2) (he : So.rE F.kind (fld row 1) = 0) : aliRow F l row = .ok (So.rS F.kind (fld row 1)) := by unfold aliRow; rw [if_neg (by omega), if_neg (fun e => e he)]
theorem doAliases_c {R : Rdr} {hd : List Bs} (h : R.file.classes ≠ []) : doAliases R hd = .error (R.line, 113) := by unfold doAliases; rw [if_pos h]
theorem doAliases_n {R : Rdr} {hd : List Bs} {e : Er} (h0 : R.file.classes = []) (h : numb R.line (fld hd 1) 1024 = .error e) : doAliases R hd = .error e := by unfold doAliases; rw [if_neg (fun e => e h0), h]
theorem doAliases_t {R : Rdr} {hd : List Bs} {n : Nat} (h0 : R.file.classes = []) (h : numb R.line (fld hd 1) 1024 = .ok n) : doAliases R hd = times (aliStep (fld hd 0)) n R := by unfold doAliases; rw [if_neg (fun e => e h0), h]
theorem numb_le {l : Nat} {f : Bs} {m n : Nat} (h : numb l f m = .ok n) : n ≤ m := by
 unfold numb at h
 split at h
 ·rename_i q
  injection h with h
  rw [← h]
  exact (num_pos q).2
 ·cases h
theorem str_at {n g m cap : Nat} {w : World} {L : List Bs} (h : StrRow n w (.slice (some ⟨g, 0, none⟩) m cap) (L.map Fld.str)) : g < w.heap.size ∧ m = L.length ∧ ∀ (j : Nat) x, L[j]? = some x → w.cell? ⟨g, j, none⟩ = some (.string (Fld.str x)) := by
 obtain ⟨g', cap', e, h1, h2, h3, h4, h5⟩ := str_cells h
 injection e with e1 e2 e3
 injection e1 with e1
 injection e1 with e1 _ _
 subst e1
 exact ⟨h1, e2, h5⟩
theorem step_app {P : Program} {ops : Array Oper} {o : Oper} {a : Act} {w : World} {K : Act → World → Prop} {Q : Exit → Act → World → Prop} {E : Prop}
  (hg : o.guard = none) (s x : Operand) (t : TypeId) (hop : o.op = Op.call { callee := Callee.builtin Builtin.append, args := #[s, x], argTypes := #[t, t] })
  (v u v' : Value) (w' : World) (hs : a.eval s = v) (hx : a.eval x = u) (hrun : (Builtin.append_ #[t, t] o.type #[v, u]).run P w = .ok v' w') (hK : K (a.put o.dst v') w') :
  if Region.wanted o (yielded ops a.tmps) = true then Oper.wp P o a w K Q else E := by
 have hw : Region.wanted o (yielded ops a.tmps) = true := by simp [Region.wanted, hg]
 rw [if_pos hw]
 unfold Oper.wp
 simp [execOp, hop, resolve, invoke, builtin, hs, hx, hrun, Result.andThen]
 exact hK
theorem RAt.addRep {B rb : Nat} {w w4 w5 : World} {R : Rdr} {P : Pts} {v' : Value} (h : RAt B w rb R P) (p : Bs × Bs) (hn : R.file.reps.length < 256) (k4 : Below w.heap.size w w4)
  (k5 : Kq [74] noM w4 w5) (l5 : Below B w4 w5) (o5 : w5.ownsRow B 74 2 v' (R.file.reps.length + 1) (R.file.reps.flatMap repC ++ repC p)) :
  RAt B (w5.setCell ⟨P.fb, 9, none⟩ v') rb { R with file := { R.file with reps := R.file.reps ++ [p] } } { P with vr := v' } ∧ Kt B P.pm P.hm w (w5.setCell ⟨P.fb, 9, none⟩ v') := by
 have hB := h.base
 have h4 := h.below k4
 have hfil : w5.heap[P.fb]? = some (.cells (filC R.file P) 111 (0, 0)) := (k5.cells _ _ _ _ h4.file.fil (by decide)).trans h4.file.fil
 have k6 : Kq [111] noM w5 (w5.setCell ⟨P.fb, 9, none⟩ v') := .kp (kp_set w5 P.fb 9 v') hfil (by simp)
 let T : List TypeId := [111, 74]
 have kk : Kq T noM w4 (w5.setCell ⟨P.fb, 9, none⟩ v') := (k5.wide (by decide) (fun _ x => x)).trans (k6.wide (by decide) (fun _ x => x))
 have kw : Kq T noM w (w5.setCell ⟨P.fb, 9, none⟩ v') := (Kq.below k4).trans kk
 have hlow : Below B w (w5.setCell ⟨P.fb, 9, none⟩ v') := ((k4.mono hB).trans l5).setCell (p := ⟨P.fb, 9, none⟩) h.file.fbB v'
 have ok := h.file.ok
 have hf : FAt B (w5.setCell ⟨P.fb, 9, none⟩ v') { R.file with reps := R.file.reps ++ [p] } { P with vr := v' } := by
  refine h4.file.kq kk rfl rfl (set_heap1 (k := 9) hfil v') (.inr ⟨rfl, fun x => x⟩) (.inl ?_) (.inr ⟨rfl, rfl, rfl, by decide⟩) (.inr ⟨rfl, rfl, by decide⟩) (.inr ⟨rfl, rfl, rfl, by decide⟩) (by decide) ⟨ok.kind, ok.spec, ok.specB, ok.cls, ?_, ok.ali, ok.aliS, ok.rul, ok.len⟩
  ·have e1 := own_kq o5 k6 (by decide)
   simpa using e1
  ·simp; omega
 refine ⟨h.kq kw hf rfl rfl rfl ((kw.cells _ _ _ _ h.rdr (by decide)).trans h.rdr) (own_kq h.lns kw (by decide)) rfl rfl rfl rfl (by decide) (by decide) (fun x => x), kw.kt hlow (by decide) (fun g x => x.elim)⟩
theorem RAt.addAli {B rb : Nat} {w w4 w5 : World} {R : Rdr} {P : Pts} {u v' : Value} (h : RAt B w rb R P) (p : List Int) (hs : So.setOf p = p ∧ p.length ≤ 1048577) (hn : R.file.aliases.length < 1024) (k4 : Below w.heap.size w w4) (hu : FNx w.heap.size w4 u p)
  (k5 : Kq [44] noM w4 w5) (l5 : Below B w4 w5) (o5 : w5.ownsRow B 44 1 v' (R.file.aliases.length + 1) (P.av ++ [u])) :
  RAt B (w5.setCell ⟨P.fb, 10, none⟩ v') rb { R with file := { R.file with aliases := R.file.aliases ++ [p] } } { P with va := v', av := P.av ++ [u] } ∧ Kt B P.pm P.hm w (w5.setCell ⟨P.fb, 10, none⟩ v') := by
 have hB := h.base
 have h4 := h.below k4
 have hfil : w5.heap[P.fb]? = some (.cells (filC R.file P) 111 (0, 0)) := (k5.cells _ _ _ _ h4.file.fil (by decide)).trans h4.file.fil
 have k6 : Kq [111] noM w5 (w5.setCell ⟨P.fb, 10, none⟩ v') := .kp (kp_set w5 P.fb 10 v') hfil (by simp)
 let T : List TypeId := [111, 44]
 have kk : Kq T noM w4 (w5.setCell ⟨P.fb, 10, none⟩ v') := (k5.wide (by decide) (fun _ x => x)).trans (k6.wide (by decide) (fun _ x => x))
 have kw : Kq T noM w (w5.setCell ⟨P.fb, 10, none⟩ v') := (Kq.below k4).trans kk
 have hlow : Below B w (w5.setCell ⟨P.fb, 10, none⟩ v') := ((k4.mono hB).trans l5).setCell (p := ⟨P.fb, 10, none⟩) h.file.fbB v'
 have ok := h.file.ok
 have hf : FAt B (w5.setCell ⟨P.fb, 10, none⟩ v') { R.file with aliases := R.file.aliases ++ [p] } { P with va := v', av := P.av ++ [u] } := by
  refine h4.file.kq kk rfl rfl (set_heap1 (k := 10) hfil v') (.inr ⟨rfl, fun x => x⟩) (.inr ⟨rfl, rfl, by decide⟩) (.inl ⟨?_, ?_, ?_⟩) (.inr ⟨rfl, rfl, by decide⟩) (.inr ⟨rfl, rfl, rfl, by decide⟩) (by decide) ⟨ok.kind, ok.spec, ok.specB, ok.cls, ok.reps, ?_, ?_, ok.rul, ok.len⟩
  ·have e1 := own_kq o5 k6 (by decide)
   simpa using e1
  ·simp [h.file.aliF.1]
  ·intro i v q hv hq
   rcases snoc_get hv with ⟨_, hv⟩ | ⟨hi, hv⟩
   ·rcases snoc_get hq with ⟨_, hq⟩ | ⟨hi2, hq⟩
    ·exact fnx_kq (h4.file.aliF.2 i v q hv hq) kk (by decide)
    ·have := h.file.aliF.1; omega
   ·rcases snoc_get hq with ⟨hi2, hq⟩ | ⟨hi2, hq⟩
    ·have := h.file.aliF.1; omega
    ·subst hv hq
     exact (fnx_kq hu kk (by decide)).low hB
  ·simp; omega
  ·intro a ha
   rcases List.mem_append.1 ha with q | q
   ·exact ok.aliS a q
   ·simp at q; subst q; exact hs
 refine ⟨h.kq kw hf rfl rfl rfl ((kw.cells _ _ _ _ h.rdr (by decide)).trans h.rdr) (own_kq h.lns kw (by decide)) rfl rfl rfl rfl (by decide) (by decide) (fun x => x), kw.kt hlow (by decide) (fun g x => x.elim)⟩
structure LP (B rb : Nat) (w W : World) (R : Rdr) (P P0 : Pts) (hv : Value) (hd : List Bs) : Prop where
 at_ : RAt B W rb R P
 kt : Kt B P0.pm P0.hm w W
 row : StrRow B W hv (hd.map Fld.str)
 eq : P.fb = P0.fb ∧ P.pm = P0.pm ∧ P.hm = P0.hm
theorem LP.start {B rb : Nat} {w : World} {R : Rdr} {P : Pts} {hv : Value} {hd : List Bs} (h : RAt B w rb R P) (hr : StrRow B w hv (hd.map Fld.str)) : LP B rb w w R P P hv hd := ⟨h, Kt.refl _ _ _ _, hr, rfl, rfl, rfl⟩
theorem LP.below {B rb : Nat} {w W W' : World} {R : Rdr} {P P0 : Pts} {hv : Value} {hd : List Bs} (h : LP B rb w W R P P0 hv hd) (b : Below W.heap.size W W') : LP B rb w W' R P P0 hv hd :=
 ⟨h.at_.below b, h.kt.trans (Kt.of_below b h.at_.base), str_kept h.row (below_kept b), h.eq⟩
theorem LP.grow {B rb : Nat} {w W W' : World} {R R1 : Rdr} {P P0 : Pts} {hv rv : Value} {hd : List Bs} (h : LP B rb w W R P P0 hv hd) (k : Kp rb W W') (l : Below B W W') (r : RAt B W' rb R1 { P with rv := rv }) : LP B rb w W' R1 { P with rv := rv } P0 hv hd := by
 have kt : Kt B P0.pm P0.hm W W' := by rw [← h.eq.2.1, ← h.eq.2.2]; exact h.at_.kt k l
 exact ⟨r, h.kt.trans kt, kt.str h.row, h.eq⟩
theorem LP.turn {B rb : Nat} {w W W' : World} {R R1 : Rdr} {P P' P0 : Pts} {hv : Value} {hd : List Bs} (h : LP B rb w W R P P0 hv hd) (r : RAt B W' rb R1 P' ∧ Kt B P.pm P.hm W W') (e : P'.fb = P.fb ∧ P'.pm = P.pm ∧ P'.hm = P.hm) : LP B rb w W' R1 P' P0 hv hd := by
 have kt : Kt B P0.pm P0.hm W W' := by rw [← h.eq.2.1, ← h.eq.2.2]; exact r.2
 exact ⟨r.1, h.kt.trans kt, kt.str h.row, e.1.trans h.eq.1, e.2.1.trans h.eq.2.1, e.2.2.trans h.eq.2.2⟩
theorem LP.yes {B rb : Nat} {w W : World} {R : Rdr} {P P0 : Pts} {hv : Value} {hd : List Bs} {X : Except Er Rdr} (h : LP B rb w W R P P0 hv hd) (hX : X = .ok R) : Res B rb P0 w X (.returned (.tuple #[])) W := Res.yes hX h.kt h.at_ h.eq.1 h.eq.2.1 h.eq.2.2
theorem LP.no {B rb : Nat} {w W W' : World} {R : Rdr} {P P0 : Pts} {hv : Value} {hd : List Bs} {X : Except Er Rdr} {er : Er} (h : LP B rb w W R P P0 hv hd) (b : Below W.heap.size W W') (hX : X = .error er) : Res B rb P0 w X (.panicked (chn er)) W' := Res.no hX (h.kt.trans (Kt.of_below b h.at_.base))
theorem LP.no2 {B rb : Nat} {w W W' : World} {R : Rdr} {P P0 : Pts} {hv : Value} {hd : List Bs} {X : Except Er Rdr} {er : Er} (h : LP B rb w W R P P0 hv hd) (k : Kp rb W W') (l : Below B W W') (hX : X = .error er) : Res B rb P0 w X (.panicked (chn er)) W' := by
 refine Res.no hX (h.kt.trans ?_)
 rw [← h.eq.2.1, ← h.eq.2.2]
 exact h.at_.kt k l
theorem str_new (W : World) (L : List Bs) (h : L.length ≤ 1000) (_h0 : L ≠ []) : StrRow W.heap.size (W.alloc (.cells (L.map fun x => Value.string (Fld.str x)).toArray 9)) (.slice (some ⟨W.heap.size, 0, none⟩) L.length L.length) (L.map Fld.str) := by
 refine ⟨W.heap.size, L.length, _, by simp, Nat.le_refl _, alloc_new W _, by simp, by unfold maxLen; omega, by simp, ?_⟩
 rw [List.take_of_length_le (by simp)]
 simp
theorem grow_rows {R R1 : Rdr} {beg row : List Bs} (h : Af.grow R beg = .ok (row, R1)) : ∃ l t, R.rows = (l, row) :: t ∧ R1.rows = t ∧ R1.line = l ∧ R1.file = R.file ∧ R1.heads = R.heads ∧ R1.behind = R.behind := by
 obtain ⟨l, t, h1, h2⟩ := grow_fld h
 subst h2
 exact ⟨l, t, h1, rfl, rfl, rfl, rfl, rfl⟩
theorem grow_len {R R1 : Rdr} {beg row : List Bs} (hk : RowsOk R.rows) (h : Af.grow R beg = .ok (row, R1)) : row ≠ [] ∧ ∀ f ∈ row, f.length ≤ 65536 := by
 obtain ⟨l, t, h1, -⟩ := grow_fld h
 have := hk (l, row) (by rw [h1]; simp)
 exact ⟨this.2.1, this.2.2⟩
theorem doLeast_n {R : Rdr} {f : Bs} {e : Er} (h : numb R.line f 64 = .error e) : doLeast R f = .error e := by unfold doLeast; rw [h]
theorem doLeast_0 {R : Rdr} {f : Bs} (h : numb R.line f 64 = .ok 0) : doLeast R f = .error (R.line, 13) := by unfold doLeast; rw [h]; rfl
theorem doLeast_ok {R : Rdr} {f : Bs} {n : Nat} (h : numb R.line f 64 = .ok n) (h0 : n ≠ 0) : doLeast R f = .ok { R with file := { R.file with least := n } } := by unfold doLeast; rw [h]; simp [h0]
theorem readLeast_any {B rb : Nat} {R : Rdr} {P : Pts} {w : World} (h : RAt B w rb R P) (k : Value) (hd : List Bs) (hv : Value) (hrow : StrRow B w hv (hd.map Fld.str)) (hlen : hd.length = 2) (hf : ∀ f ∈ hd, f.length ≤ 65536) :
  Calls Tryz.prog 86 #[ptr rb, hv, k] w (Res B rb P w (doLeast R (fld hd 1))) := by
 obtain ⟨d0, -, hl, -, -, -, -⟩ := h.cells
 have hb := h.lt
 have HH := hide h
 obtain ⟨g, cap, rfl, hg, h1, h2, -, hcl⟩ := str_cells hrow
 unfold maxLen at h2
 have q1 := hcl 1 _ (fld_get (by omega))
 have hf1 := hf _ (List.mem_of_getElem? (fld_get (row := hd) (i := 1) (by omega)))
 have HN := hide (number_any rb R.line (Fld.str (fld hd 1)) 64 w (by rw [fstr_wd, Wd.str_size]; omega) (by decide) hl)
 have e1 : (Fld.str (fld hd 1)).data.toList = fld hd 1 := by simp [Fld.str]
 rw [e1] at HN
 have HL := hide hl
 rw [hlen] at h1 ⊢
 clear hcl hf hf1 e1 hrow hlen hl
 cases hn : numb R.line (fld hd 1) 64 with
 | error er =>
  have HX := hide (doLeast_n hn)
  have HNN := hide (noOf (unhide HN) hn)
  clear HN hn h d0
  generalize Fld.str (fld hd 1) = r1 at *
  go_enter Tryz.func86, Tryz.ntmps86
  go_wp2_with (go_at_call 114; refine (unhide HNN).mono ?_; rintro e w4 ⟨rfl, rfl⟩)
  exact ⟨rfl, Res.no (unhide HX) (Kt.refl _ _ _ _)⟩
 | ok n =>
  have HNN := hide (okOf (unhide HN) hn)
  by_cases h0 : n = 0
  ·subst h0
   have HX := hide (doLeast_0 hn)
   have HV := hide (leaveIf_no rb R.line 13 w (by decide) (by decide) (unhide HL))
   clear HN hn h d0
   generalize Fld.str (fld hd 1) = r1 at *
   go_enter Tryz.func86, Tryz.ntmps86
   go_wp2_with (first | (go_at_call 114; refine (unhide HNN).mono ?_; rintro e w4 ⟨rfl, rfl⟩) | (go_at_call 91; refine (unhide HV).mono ?_; rintro e w5 ⟨rfl, rfl⟩))
   exact ⟨rfl, Res.no (unhide HX) (Kt.refl _ _ _ _)⟩
  ·have HX := hide (doLeast_ok hn h0)
   obtain ⟨kc, kz⟩ : w.cell? ⟨P.fb, 8, none⟩ = some (.int .i64 (R.file.least : Nat)) ∧ ∀ j, w.frozen? ⟨P.fb, j, none⟩ = false := by
    have := h.file.fil
    simp [World.cell?, World.frozen?, this, filC]
   have hfb := h.file.lt
   have ok := h.file.ok
   have HF := hide (h.fset (Below.refl _ w) (F' := { R.file with least := n }) 8 (.int .i64 (n : Nat)) rfl rfl rfl rfl rfl ⟨ok.kind, ok.spec, ok.specB, ok.cls, ok.reps, ok.ali, ok.aliS, ok.rul, ok.len⟩)
   have hni : ((n : Int) == 0) = false := by simpa using h0
   have h0i : ¬ (n : Int) = 0 := by omega
   clear HN hn h ok h0
   generalize Fld.str (fld hd 1) = r1 at *
   go_enter Tryz.func86, Tryz.ntmps86
   go_wp2_with (first | (go_at_call 114; refine (unhide HNN).mono ?_; rintro e w4 ⟨rfl, rfl⟩) | (go_at_call 91; refine (leaveIf_f _ _ _ _ (by first | rfl | exact hni)).mono ?_; rintro e w5 ⟨rfl, rfl⟩))
   go_end0
   exact Res.yes (unhide HX) (unhide HF).2 (unhide HF).1 rfl rfl rfl
theorem doLetters_no {R : Rdr} {f : Bs} (h : VlW.okB f = false) : doLetters R f = .error (R.line, 21) := by unfold doLetters; rw [h]; rfl
theorem doLetters_ok {R : Rdr} {f : Bs} (h : VlW.okB f = true) : doLetters R f = .ok { R with file := { R.file with letters := Wd.uq [] f } } := by unfold doLetters; rw [if_pos h]
theorem readTry_any {B rb : Nat} {R : Rdr} {P : Pts} {w : World} (h : RAt B w rb R P) (k : Value) (hd : List Bs) (hv : Value) (hrow : StrRow B w hv (hd.map Fld.str)) (hlen : hd.length = 2) (hf : ∀ f ∈ hd, f.length ≤ 65536) :
  Calls Tryz.prog 84 #[ptr rb, hv, k] w (Res B rb P w (doLetters R (fld hd 1))) := by
 obtain ⟨d0, -, hl, -, -, -, -⟩ := h.cells
 have hb := h.lt
 have HH := hide h
 obtain ⟨g, cap, rfl, hg, h1, h2, -, hcl⟩ := str_cells hrow
 unfold maxLen at h2
 have q1 := hcl 1 _ (fld_get (by omega))
 have hf1 := hf _ (List.mem_of_getElem? (fld_get (row := hd) (i := 1) (by omega)))
 have e1 : (Fld.str (fld hd 1)).data.toList = fld hd 1 := by simp [Fld.str]
 have hsz : (Fld.str (fld hd 1)).size ≤ 140737488355328 := by rw [fstr_wd, Wd.str_size]; omega
 rw [hlen] at h1 ⊢
 clear hcl hf hf1 hrow hlen
 cases ho : VlW.okB (fld hd 1) with
 | false =>
  have HX := hide (doLetters_no (R := R) ho)
  have HT := hide (LtR.letters_bad (Fld.str (fld hd 1)) w hsz (by rw [e1]; exact ho))
  have HV := hide (leave_no rb R.line 21 w (by decide) (by decide) hl)
  clear ho h d0 hsz e1 hl
  generalize Fld.str (fld hd 1) = r1 at *
  go_enter Tryz.func84, Tryz.ntmps84
  go_wp2_with (first | (go_at_call 112; refine (unhide HT).mono ?_; rintro e w2 ⟨rfl, rfl⟩) | (go_at_call 80; refine (unhide HV).mono ?_; rintro e w3 ⟨rfl, rfl⟩))
  exact ⟨rfl, Res.no (unhide HX) (Kt.refl _ _ _ _)⟩
 | true =>
  have HX := hide (doLetters_ok (R := R) ho)
  have HT := hide (LtW.letters_ok (Fld.str (fld hd 1)) w hsz (by rw [e1]; exact ho))
  rw [e1] at HT
  have hfb := h.file.lt
  have ok := h.file.ok
  have HF := hide (fun w0 (b : Below w.heap.size w w0) => h.fset b (F' := { R.file with letters := Wd.uq [] (fld hd 1) }) 2 (.string (Wd.str (Wd.uq [] (fld hd 1)))) rfl rfl rfl rfl rfl ⟨ok.kind, ok.spec, ok.specB, ok.cls, ok.reps, ok.ali, ok.aliS, ok.rul, ok.len⟩)
  have HC : Hid (∀ w0, Below w.heap.size w w0 → w0.cell? ⟨rb, 0, none⟩ = some (.pointer (some ⟨P.fb, 0, none⟩)) ∧ w0.cell? ⟨P.fb, 2, none⟩ = some (.string (Wd.str R.file.letters)) ∧ P.fb < w0.heap.size ∧ ∀ j, w0.frozen? ⟨P.fb, j, none⟩ = false) := fun w0 b => by
   have h0 := h.below b
   have := h0.file.fil
   refine ⟨h0.cells.1, by simp [World.cell?, this, filC], h0.file.lt, fun j => by simp [World.frozen?, this]⟩
  have HL := hide (fun W => leave_ok (ptr rb) W)
  clear ho h d0 hsz e1 hl ok hfb
  generalize Fld.str (fld hd 1) = r1 at *
  go_enter Tryz.func84, Tryz.ntmps84
  go_wp2_with (first | (go_at_call 112; refine (unhide HT).mono ?_; rintro e w2 ⟨rfl, b2⟩; obtain ⟨f1, f2, f3, f4⟩ := unhide HC _ b2; have HB2 := hide b2; clear b2) | (go_at_call 80; refine (unhide HL _).mono ?_; rintro e w3 ⟨rfl, rfl⟩))
  go_end0
  exact Res.yes (unhide HX) (unhide HF _ (unhide HB2)).2 (unhide HF _ (unhide HB2)).1 rfl rfl rfl
theorem clone_txt (s : ByteArray) (w : World) (hs : s.size ≤ 67108864) : Calls Tryz.prog 111 #[.string s] w fun e w' => e = .returned (.string s) ∧ Below w.heap.size w w' := by
 have HC := hide (fun W => Tryz.stringslite_Clone s W (by omega))
 go_enter Tryz.func111, Tryz.ntmps111
 go_wp2_with (go_at_call 142; refine (unhide HC _).mono ?_; rintro e w1 ⟨rfl, hb⟩; have HB := hide hb; clear hb)
 go_ret
 exact ⟨rfl, unhide HB⟩
theorem doCharset_no {R : Rdr} {f : Bs} (h : VlW.okB f = false) : doCharset R f = .error (R.line, 21) := by unfold doCharset; rw [h]; rfl
theorem doCharset_ok {R : Rdr} {f : Bs} (h : VlW.okB f = true) : doCharset R f = .ok { R with file := { R.file with charset := f } } := by unfold doCharset; rw [if_pos h]
theorem readCharset_any {B rb : Nat} {R : Rdr} {P : Pts} {w : World} (h : RAt B w rb R P) (k : Value) (hd : List Bs) (hv : Value) (hrow : StrRow B w hv (hd.map Fld.str)) (hlen : hd.length = 2) (hf : ∀ f ∈ hd, f.length ≤ 65536) :
  Calls Tryz.prog 83 #[ptr rb, hv, k] w (Res B rb P w (doCharset R (fld hd 1))) := by
 obtain ⟨d0, -, hl, -, -, -, -⟩ := h.cells
 have hb := h.lt
 have HH := hide h
 obtain ⟨g, cap, rfl, hg, h1, h2, ⟨gcur, hgc⟩, hcl⟩ := str_cells hrow
 have HNG : Hid (P.fb ≠ g) := fun e => by
  rw [← e, h.file.fil] at hgc
  injection hgc with hgc
  injection hgc with _ hgc _
  exact absurd hgc (by decide)
 clear hgc
 unfold maxLen at h2
 have q1 := hcl 1 _ (fld_get (by omega))
 have hf1 := hf _ (List.mem_of_getElem? (fld_get (row := hd) (i := 1) (by omega)))
 have e1 : (Fld.str (fld hd 1)).data.toList = fld hd 1 := by simp [Fld.str]
 have hsz : (Fld.str (fld hd 1)).size ≤ 65536 := by rw [fstr_wd, Wd.str_size]; omega
 have HC := hide (checkBytes_any rb R.line (Fld.str (fld hd 1)) w hsz hb hl)
 rw [e1] at HC
 rw [hlen] at h1 ⊢
 clear hcl hf hrow hlen
 cases ho : VlW.okB (fld hd 1) with
 | false =>
  have HX := hide (doCharset_no (R := R) ho)
  have HT := hide (noOf (unhide HC) (ckB_no ho))
  have HB := hide h.base
  clear ho h d0 hsz e1 hl HC hf1
  generalize Fld.str (fld hd 1) = r1 at *
  go_enter Tryz.func83, Tryz.ntmps83
  go_wp2_with (go_at_call 110; refine (unhide HT).mono ?_; rintro e w2 ⟨rfl, b2⟩)
  exact ⟨rfl, Res.no (unhide HX) (Kt.of_below b2 (unhide HB))⟩
 | true =>
  have HX := hide (doCharset_ok (R := R) ho)
  have HT := hide (okOf (unhide HC) (ckB_ok ho))
  have HCT := hide (fun W => clone_txt (Fld.str (fld hd 1)) W (by omega))
  have ok := h.file.ok
  have HF := hide (fun w0 (b : Below w.heap.size w w0) => h.fset b (F' := { R.file with charset := fld hd 1 }) 1 (.string (Fld.str (fld hd 1))) rfl rfl rfl rfl rfl ⟨ok.kind, ok.spec, ok.specB, ok.cls, ok.reps, ok.ali, ok.aliS, ok.rul, hf1⟩)
  have HCC : Hid (∀ w0, Below w.heap.size w w0 → w0.cell? ⟨rb, 0, none⟩ = some (.pointer (some ⟨P.fb, 0, none⟩)) ∧ w0.cell? ⟨P.fb, 1, none⟩ = some (.string (Wd.str R.file.charset)) ∧ P.fb < w0.heap.size ∧ ∀ j, w0.frozen? ⟨P.fb, j, none⟩ = false) := fun w0 b => by
   have h0 := h.below b
   have := h0.file.fil
   refine ⟨h0.cells.1, by simp [World.cell?, this, filC], h0.file.lt, fun j => by simp [World.frozen?, this]⟩
  have HNE : Hid (P.fb ≠ rb) := fun e => h.ne e.symm
  clear ho h d0 hsz e1 hl HC hf1 ok
  generalize Fld.str (fld hd 1) = r1 at *
  go_enter Tryz.func83, Tryz.ntmps83
  go_wp2_with (go_at_call 110; refine (unhide HT).mono ?_; rintro e w2 ⟨rfl, b2⟩; have HB2 := hide b2; clear b2)
  obtain ⟨f1, -, -, -⟩ := unhide HCC _ (unhide HB2)
  have g1 := ((unhide HB2).cell (p := ⟨g, 1, none⟩) hg).trans q1
  have sA : (w2.drew.cell? ⟨rb, 0, none⟩ = some (.pointer (some ⟨P.fb, 0, none⟩)) ∧ w2.drew.cell? ⟨g, 1, none⟩ = some (.string r1)) := ⟨f1, g1⟩
  clear f1 g1
  go_region_held2 (fun w' => w'.cell? ⟨rb, 0, none⟩ = some (.pointer (some ⟨P.fb, 0, none⟩)) ∧ w'.cell? ⟨g, 1, none⟩ = some (.string r1)) (first | (with_reducible exact s6) | (with_reducible exact s5) | (with_reducible exact sA)) (first | (go_at_call 111; refine (unhide HCT _).mono ?_; rintro e w5 ⟨rfl, b5⟩; have HB5 := hide (btr (unhide HB2).drew b5); obtain ⟨n1, n2, n3, n4⟩ := unhide HCC _ (unhide HB5); have s5 : (w5.cell? ⟨rb, 0, none⟩ = some (.pointer (some ⟨P.fb, 0, none⟩)) ∧ w5.cell? ⟨g, 1, none⟩ = some (.string r1)) := ⟨n1, ((unhide HB5).cell (p := ⟨g, 1, none⟩) hg).trans q1⟩; have s6 : ((w5.setCell ⟨P.fb, 1, none⟩ (.string r1)).cell? ⟨rb, 0, none⟩ = some (.pointer (some ⟨P.fb, 0, none⟩)) ∧ (w5.setCell ⟨P.fb, 1, none⟩ (.string r1)).cell? ⟨g, 1, none⟩ = some (.string r1)) := ⟨(World.cell?_setCell_far _ _ _ _ (unhide HNE)).trans s5.1, (World.cell?_setCell_far _ _ _ _ (unhide HNG)).trans s5.2⟩; clear b5 n1))
  go_wp2
  go_end0
  exact Res.yes (unhide HX) (unhide HF _ (unhide HB5)).2 (unhide HF _ (unhide HB5)).1 rfl rfl rfl
theorem calls_nof {g : FuncId} {args : Array Value} {w W : World} {er : Er} {Q : Ending → World → Prop} (r : Value) (b : Below w.heap.size w W) (h : ∀ W, Below w.heap.size w W → Calls Tryz.prog g args W fun e w' => e = .panicked (chn er) ∧ Below W.heap.size W w') (k : ∀ w', Below w.heap.size w w' → Q (.panicked (chn er)) w') (_d : Hid False → Q (.returned r) W) : Calls Tryz.prog g args W Q :=
 (h W b).mono fun e w' q => by rw [q.1]; exact k w' (b.trans (q.2.mono b.size))
theorem doSpecial_no {i : Nat} {R : Rdr} {f : Bs} {e : Er} (h : newFlag R f = .error e) : doSpecial i R f = .error e := by unfold doSpecial; rw [h]
theorem doSpecial_ok {i : Nat} {R : Rdr} {f : Bs} {x : Int} (h : newFlag R f = .ok x) : doSpecial i R f = .ok { R with file := { R.file with specials := R.file.specials.set i x } } := by unfold doSpecial; rw [h]
theorem five {l : List Int} (h : l.length = 5) : ∃ a b c d e, l = [a, b, c, d, e] := by
 match l, h with
 | [a, b, c, d, e], _ => exact ⟨a, b, c, d, e, rfl⟩
theorem spec_ok {F : Fil} (ok : FilOk F) (i : Nat) (x : Int) (h0 : 0 ≤ x) (h1 : x ≤ 65535) : FilOk { F with specials := F.specials.set i x } := by
 refine ⟨ok.kind, by simpa using ok.spec, fun y hy => ?_, ok.cls, ok.reps, ok.ali, ok.aliS, ok.rul, ok.len⟩
 rcases List.mem_or_eq_of_mem_set hy with q | q
 ·exact ok.specB y q
 ·subst q; exact ⟨h0, h1⟩
theorem filC_spec {W : World} {F : Fil} {P : Pts} {i : Nat} (hi : i < 5) (h : W.heap[P.fb]? = some (.cells (filC F P) 111 (0, 0))) : W.cell? ⟨P.fb, 3 + i, none⟩ = some (.int .u16 (F.specials.getD i 0)) := by
 rcases i with _ | _ | _ | _ | _ | i <;> first | omega | simp [World.cell?, h, filC]
theorem spec_setP {F : Fil} {P : Pts} {i : Nat} (hi : i < 5) (ok : FilOk F) (x : Int) : (filC F P).setIfInBounds (3 + i) (.int .u16 x) = filC { F with specials := F.specials.set i x } P := by
 obtain ⟨s0, s1, s2, s3, s4, hsp⟩ := five ok.spec
 rcases i with _ | _ | _ | _ | _ | i <;> first | omega | simp [filC, hsp]
theorem readSpecial_any {B rb i : Nat} (hi : i < 5) {R : Rdr} {P : Pts} {w : World} (h : RAt B w rb R P) (hd : List Bs) (hv : Value) (hrow : StrRow B w hv (hd.map Fld.str)) (hlen : hd.length = 2) (hf : ∀ f ∈ hd, f.length ≤ 65536) :
  Calls Tryz.prog 85 #[ptr rb, hv, .int .i64 (i : Nat)] w (Res B rb P w (doSpecial i R (fld hd 1))) := by
 obtain ⟨d0, -, hl, -, -, -, -⟩ := h.cells
 have hb := h.lt
 have hfb := h.file.lt
 have HH := hide h
 have hi5 : (i : Int) < 5 := by omega
 have hi0 : ¬ (i : Int) < 0 := by omega
 obtain ⟨g, cap, rfl, hg, h1, h2, ⟨gcur, hgc⟩, hcl⟩ := str_cells hrow
 have HNG : Hid (P.fb ≠ g) := fun e => by
  rw [← e, h.file.fil] at hgc
  injection hgc with hgc
  injection hgc with _ hgc _
  exact absurd hgc (by decide)
 clear hgc
 have HNE : Hid (P.fb ≠ rb) := fun e => h.ne e.symm
 unfold maxLen at h2
 have q1 := hcl 1 _ (fld_get (by omega))
 have hf1 := hf _ (List.mem_of_getElem? (fld_get (row := hd) (i := 1) (by omega)))
 have HN := hide (fun W (b : Below w.heap.size w W) => newFlag_all (h.below b) (Fld.str (fld hd 1)) (by rw [fstr_wd, Wd.str_size]; omega))
 have e1 : (Fld.str (fld hd 1)).data.toList = fld hd 1 := by simp [Fld.str]
 rw [e1] at HN
 rw [hlen] at h1 ⊢
 clear hcl hf hrow hlen hf1 e1
 cases hn : newFlag R (fld hd 1) with
 | error er =>
  have HX := hide (doSpecial_no (i := i) hn)
  have HNN := hide (fun W b => noOf (unhide HN W b) hn)
  obtain ⟨k3, kz⟩ : (∃ u, w.cell? ⟨P.fb, 3 + i, none⟩ = some u) ∧ ∀ j, w.frozen? ⟨P.fb, j, none⟩ = false := by
   have := h.file.fil
   exact ⟨⟨_, filC_spec hi this⟩, fun j => by simp [World.frozen?, this]⟩
  obtain ⟨u, ku⟩ := k3
  clear HN hn h hl
  generalize Fld.str (fld hd 1) = r1 at *
  have sA : (w.drew.cell? ⟨rb, 0, none⟩ = some (.pointer (some ⟨P.fb, 0, none⟩)) ∧ w.drew.cell? ⟨g, 1, none⟩ = some (.string r1)) := ⟨d0, q1⟩
  have s6 : ∀ v, ((w.setCell ⟨P.fb, 3 + i, none⟩ v).drew.cell? ⟨rb, 0, none⟩ = some (.pointer (some ⟨P.fb, 0, none⟩)) ∧ (w.setCell ⟨P.fb, 3 + i, none⟩ v).drew.cell? ⟨g, 1, none⟩ = some (.string r1)) := fun v => ⟨(World.cell?_setCell_far w ⟨P.fb, _, none⟩ _ v (unhide HNE)).trans d0, (World.cell?_setCell_far w ⟨P.fb, _, none⟩ _ v (unhide HNG)).trans q1⟩
  go_enter Tryz.func85, Tryz.ntmps85
  go_wp2_with fail
  go_region_held2 (fun w' => (w'.cell? ⟨rb, 0, none⟩ = some (.pointer (some ⟨P.fb, 0, none⟩)) ∧ w'.cell? ⟨g, 1, none⟩ = some (.string r1))) (first | (with_reducible exact s6 _) | (with_reducible exact sA)) (first | (go_at_call 113; refine calls_nof (.int .u16 0) (by (repeat (first | exact Below.refl _ _ | refine Below.drew ?_ | refine Below.alloc ?_ (by first | (simp; done) | (simp; omega)) _ | refine Below.setCell ?_ (by first | (simp; done) | (simp; omega)) _))) (unhide HNN) (fun w4 b4 => ⟨rfl, Res.no (unhide HX) (Kt.of_below b4 (unhide HH).base)⟩) ?_; intro HF))
  all_goals exact (unhide HF).elim
 | ok x =>
  have HX := hide (doSpecial_ok (i := i) hn)
  have HNN := hide (fun W b => okOf (unhide HN W b) hn)
  unfold flgV at HNN
  obtain ⟨x1, x2, -, -⟩ := newFlag_pos hn
  have HF := hide (fun w0 (b : Below w.heap.size w w0) => h.fset b (F' := { R.file with specials := R.file.specials.set i x }) (3 + i) (.int .u16 x) (spec_setP hi h.file.ok x) rfl rfl rfl rfl (spec_ok h.file.ok i x (by omega) x2))
  have HCC : Hid (∀ w0, Below w.heap.size w w0 → w0.cell? ⟨rb, 0, none⟩ = some (.pointer (some ⟨P.fb, 0, none⟩)) ∧ w0.cell? ⟨P.fb, 3 + i, none⟩ = some (.int .u16 (R.file.specials.getD i 0)) ∧ P.fb < w0.heap.size ∧ ∀ j, w0.frozen? ⟨P.fb, j, none⟩ = false) := fun w0 b => by
   have h0 := h.below b
   have := h0.file.fil
   refine ⟨h0.cells.1, filC_spec hi this, h0.file.lt, fun j => by simp [World.frozen?, this]⟩
  clear HN hn h hl x1 x2
  generalize Fld.str (fld hd 1) = r1 at *
  have sA : (w.drew.cell? ⟨rb, 0, none⟩ = some (.pointer (some ⟨P.fb, 0, none⟩)) ∧ w.drew.cell? ⟨g, 1, none⟩ = some (.string r1)) := ⟨d0, q1⟩
  go_enter Tryz.func85, Tryz.ntmps85
  go_wp2_with fail
  go_region_held2 (fun w' => (w'.cell? ⟨rb, 0, none⟩ = some (.pointer (some ⟨P.fb, 0, none⟩)) ∧ w'.cell? ⟨g, 1, none⟩ = some (.string r1))) (first | (with_reducible exact s6) | (with_reducible exact s5) | (with_reducible exact sA)) (first | (go_at_call 113; refine (unhide HNN _ (by (repeat (first | exact Below.refl _ _ | refine Below.drew ?_ | refine Below.alloc ?_ (by first | (simp; done) | (simp; omega)) _ | refine Below.setCell ?_ (by first | (simp; done) | (simp; omega)) _)))).mono ?_; rintro e w5 ⟨rfl, b5⟩; have HB5 := hide (btr ((Below.refl _ w).drew) b5); obtain ⟨n1, n2, n3, n4⟩ := unhide HCC _ (unhide HB5); have s5 : (w5.cell? ⟨rb, 0, none⟩ = some (.pointer (some ⟨P.fb, 0, none⟩)) ∧ w5.cell? ⟨g, 1, none⟩ = some (.string r1)) := ⟨n1, ((unhide HB5).cell (p := ⟨g, 1, none⟩) hg).trans q1⟩; have s6 : ((w5.setCell ⟨P.fb, 3 + i, none⟩ (.int .u16 x)).cell? ⟨rb, 0, none⟩ = some (.pointer (some ⟨P.fb, 0, none⟩)) ∧ (w5.setCell ⟨P.fb, 3 + i, none⟩ (.int .u16 x)).cell? ⟨g, 1, none⟩ = some (.string r1)) := ⟨(World.cell?_setCell_far _ _ _ _ (unhide HNE)).trans s5.1, (World.cell?_setCell_far _ _ _ _ (unhide HNG)).trans s5.2⟩; clear b5 n1))
  go_wp2
  go_end0
  exact Res.yes (unhide HX) (unhide HF _ (unhide HB5)).2 (unhide HF _ (unhide HB5)).1 rfl rfl rfl
end Af
namespace Af
theorem eq5 (s0 s1 s2 s3 s4 : Int) (w : World) : Sem.run Tryz.prog (Op.equalIn 10000 35 (.agg #[.int .u16 s0, .int .u16 s1, .int .u16 s2, .int .u16 s3, .int .u16 s4]) (.agg #[.int .u16 0, .int .u16 0, .int .u16 0, .int .u16 0, .int .u16 0])) w = .ok (decide (s0 = 0 ∧ s1 = 0 ∧ s2 = 0 ∧ s3 = 0 ∧ s4 = 0)) w := by
 obtain ⟨i, hi, hz⟩ := Option.map_eq_some_iff.1 So.infoF
 rw [show (10000 : Nat) = 9999 + 1 from rfl, run_equalIn_array w 9999 _ _ Tryz.underlying35 hi]
 have hc : Tryz.prog.cellsOf 34 = 1 := by kernel_rfl
 rw [hc, show List.range 5 = [0, 1, 2, 3, 4] from rfl]
 have p0 : ∀ (a b c d e : Value) (W : World), (part 34 #[a, b, c, d, e] 0).run Tryz.prog W = .ok a W := fun a b c d e W => by kernel_rfl
 have p1 : ∀ (a b c d e : Value) (W : World), (part 34 #[a, b, c, d, e] 1).run Tryz.prog W = .ok b W := fun a b c d e W => by kernel_rfl
 have p2 : ∀ (a b c d e : Value) (W : World), (part 34 #[a, b, c, d, e] 2).run Tryz.prog W = .ok c W := fun a b c d e W => by kernel_rfl
 have p3 : ∀ (a b c d e : Value) (W : World), (part 34 #[a, b, c, d, e] 3).run Tryz.prog W = .ok d W := fun a b c d e W => by kernel_rfl
 have p4 : ∀ (a b c d e : Value) (W : World), (part 34 #[a, b, c, d, e] 4).run Tryz.prog W = .ok e W := fun a b c d e W => by kernel_rfl
 have he : ∀ (x y : Int) (W : World), (Op.equalIn 9999 34 (.int .u16 x) (.int .u16 y)).run Tryz.prog W = .ok (x == y) W := fun x y W => by kernel_rfl
 simp only [Op.eqItems, Sem.run_bind, Nat.mul_one, p0, Result.andThen_ok, he]
 by_cases a0 : s0 = 0
 ·by_cases a1 : s1 = 0
  ·by_cases a2 : s2 = 0
   ·by_cases a3 : s3 = 0
    ·by_cases a4 : s4 = 0 <;> simp [a0, a1, a2, a3, a4, p1, p2, p3, p4, he]
    ·simp [a0, a1, a2, a3, p1, p2, p3, p4, he]
   ·simp [a0, a1, a2, p1, p2, p3, p4, he]
  ·simp [a0, a1, p1, p2, p3, p4, he]
 ·simp [a0]
open RowB
def nilP (fb pm hm : Nat) : Pts := ⟨fb, pm, hm, .slice none 0 0, .slice none 0 0, .slice none 0 0, .slice none 0 0, .slice none 0 0, .slice none 0 0, [], []⟩
def Fil0 : Fil := ⟨1, [], [], [0, 0, 0, 0, 0], 3, [], [], [], []⟩
def Rdr0 : Rdr := ⟨Fil0, [], 0, 0, []⟩
theorem ok0 : FilOk Fil0 := ⟨.inl rfl, rfl, by decide, by simp [Fil0], by simp [Fil0], by simp [Fil0], by simp [Fil0], by simp [Fil0], by simp [Fil0]⟩
def filA (pm : Nat) : Array Value := #[.int .i64 1, .string ⟨#[]⟩, .string ⟨#[]⟩, .int .u16 0, .int .u16 0, .int .u16 0, .int .u16 0, .int .u16 0, .int .i64 3, .slice none 0 0, .slice none 0 0, .slice none 0 0, .slice none 0 0, .map (some pm)]
def rdrA (fb hm : Nat) : Array Value := #[.pointer (some ⟨fb, 0, none⟩), .slice none 0 0, .int .i64 0, .int .i64 0, .map (some hm), .slice none 0 0]
theorem new_at (w : World) : RAt w.heap.size ((((w.alloc (.map #[] 0)).alloc (.cells (filA w.heap.size) 111)).alloc (.map #[] 0)).alloc (.cells (rdrA (w.heap.size + 1) (w.heap.size + 2)) 84)) (w.heap.size + 3) Rdr0 (nilP (w.heap.size + 1) w.heap.size (w.heap.size + 2)) := by
 have n0 := alloc_new w (.map #[] 0)
 have n1 := alloc_new (w.alloc (.map #[] 0)) (.cells (filA w.heap.size) 111)
 have n2 := alloc_new ((w.alloc (.map #[] 0)).alloc (.cells (filA w.heap.size) 111)) (.map #[] 0)
 have n3 := alloc_new (((w.alloc (.map #[] 0)).alloc (.cells (filA w.heap.size) 111)).alloc (.map #[] 0)) (.cells (rdrA (w.heap.size + 1) (w.heap.size + 2)) 84)
 simp only [World.size_alloc] at n1 n2 n3
 have m0 := MapF.made w 34
 have m2 := MapF.made ((w.alloc (.map #[] 0)).alloc (.cells (filA w.heap.size) 111)) 9
 simp only [World.size_alloc] at m2
 have e1 := alloc_heap1 (alloc_heap1 n1 (.map #[] 0)) (.cells (rdrA (w.heap.size + 1) (w.heap.size + 2)) 84)
 have hf : FAt w.heap.size ((((w.alloc (.map #[] 0)).alloc (.cells (filA w.heap.size) 111)).alloc (.map #[] 0)).alloc (.cells (rdrA (w.heap.size + 1) (w.heap.size + 2)) 84)) Fil0 (nilP (w.heap.size + 1) w.heap.size (w.heap.size + 2)) := by
  refine ⟨by simp [nilP], by simp [nilP], e1, ⟨0, Nat.zero_le _, ?_⟩, World.ownsRow_nil _ _ _ _, World.ownsRow_nil _ _ _ _, ⟨rfl, fun i v a h => by simp [nilP] at h⟩, World.ownsRow_nil _ _ _ _, World.ownsRow_nil _ _ _ _, ⟨rfl, fun i v a h => by simp [nilP] at h⟩, ok0⟩
  have := m0.kept (w' := (((w.alloc (.map #[] 0)).alloc (.cells (filA w.heap.size) 111)).alloc (.map #[] 0)).alloc (.cells (rdrA (w.heap.size + 1) (w.heap.size + 2)) 84)) ((alloc_heap1 (alloc_heap1 (alloc_heap1 n0 _) _) _).trans n0.symm)
  have e : (fun _ : Lit => (none : Option Value)) = plc Fil0.classes := by
   funext y
   unfold plc
   split <;> rfl
  rw [e] at this
  exact this
 refine ⟨by simp, by simp [nilP], n3, ⟨none, 0, rfl, Nat.le_refl _, Nat.zero_le _, fun _ => rfl, fun h => absurd rfl h⟩, ⟨0, Nat.zero_le _, ?_⟩, by simp [nilP], World.ownsRow_nil _ _ _ _, hf, ⟨by simp [Rdr0], by simp [Rdr0], by simp [Rdr0]⟩, fun p hp => by simp [Rdr0] at hp⟩
 have := m2.kept (w' := (((w.alloc (.map #[] 0)).alloc (.cells (filA w.heap.size) 111)).alloc (.map #[] 0)).alloc (.cells (rdrA (w.heap.size + 1) (w.heap.size + 2)) 84)) ((alloc_heap1 n2 _).trans n2.symm)
 have e : (fun _ : Lit => (none : Option Value)) = cnt Rdr0.heads := by
  funext y
  unfold cnt
  split
  ·simp [Rdr0]
  ·rfl
 rw [e] at this
 exact this
theorem newReader_any (w : World) : Calls Tryz.prog 27 #[] w fun e w' => e = .returned (ptr (w.heap.size + 3)) ∧ RAt w.heap.size w' (w.heap.size + 3) Rdr0 (nilP (w.heap.size + 1) w.heap.size (w.heap.size + 2)) ∧ Below w.heap.size w w' := by
 have hmm := @run_makeMap Tryz.prog
 go_enter Tryz.func27, Tryz.ntmps27
 go_wp2
 go_ret
 exact ⟨rfl, new_at w, ((((Below.refl _ w).alloc (Nat.le_refl _) _).alloc (by simp) _).alloc (by simp; omega) _).alloc (by simp; omega) _⟩
theorem field_len (l : Bs) : (∀ f ∈ (Fld.st l).1, f.length ≤ l.length) ∧ (Fld.st l).2.length ≤ l.length := by
 refine Fld.snoc_ind (P := fun l => (∀ f ∈ (Fld.st l).1, f.length ≤ l.length) ∧ (Fld.st l).2.length ≤ l.length) ?_ ?_ l
 ·simp [Fld.st_nil]
 ·rintro l c ⟨h1, h2⟩
  rw [Fld.st_snoc]
  unfold Fld.stp
  by_cases hb : Fld.blank c = true
  ·rw [if_pos hb]
   refine ⟨fun f hf => ?_, by simp⟩
   simp only at hf
   split at hf
   ·have := h1 f hf; simp; omega
   ·rcases List.mem_append.1 hf with q | q
    ·have := h1 f q; simp; omega
    ·simp at q; subst q; simp; omega
  ·rw [if_neg hb]
   exact ⟨fun f hf => by have := h1 f hf; simp; omega, by simp; omega⟩
theorem fieldsOf_each (l : Bs) : ∀ f ∈ Fld.fieldsOf l, f.length ≤ l.length := by
 intro f hf
 obtain ⟨h1, h2⟩ := field_len l
 unfold Fld.fieldsOf Fld.fin at hf
 split at hf
 ·exact h1 f hf
 ·rcases List.mem_append.1 hf with q | q
  ·exact h1 f q
  ·simp at q; subst q; exact h2
theorem rows_ok (l : Bs) (h : l.length ≤ 65536) : RowsOk (Rw.rowsOf l) := by
 intro p hp
 unfold Rw.rowsOf Rw.rowsP at hp
 obtain ⟨x, hx, hp⟩ := List.mem_flatMap.1 hp
 obtain ⟨j, hj⟩ := List.getElem?_of_mem hx
 obtain ⟨q1, li, q2, q3⟩ := Ln.num_get _ _ _ _ hj
 have hjl := (List.getElem?_eq_some_iff.1 hj).1
 have hlen := Ln.items_length l
 have hl2 := Ln.linesOf_len l
 unfold Rw.rowOf at hp
 split at hp
 ·cases hp
 ·rename_i hne
  simp only [List.mem_singleton] at hp
  subst hp
  refine ⟨by show x.1 ≤ 65536; omega, fun e => hne (by show (Rw.keep _).isEmpty = true; rw [show Rw.keep (Fld.fieldsOf x.2.data.toList) = [] from e]; rfl), fun f hf => ?_⟩
  have hf2 : f ∈ Fld.fieldsOf x.2.data.toList := by
   have hf : f ∈ Rw.keep (Fld.fieldsOf x.2.data.toList) := hf
   rw [Rw.keep_take] at hf
   exact List.mem_of_mem_take hf
  have := fieldsOf_each _ f hf2
  rw [q3] at this
  have e : (Fld.str li).data.toList = li := by simp [Fld.str]
  rw [e] at this
  have := Ln.linesOf_each l h li (List.mem_of_getElem? q2)
  omega
theorem rows_few (l : Bs) : (Rw.rowsOf l).length ≤ l.length := by
 have := Rw.rowsP_len (Ln.items l)
 rw [Ln.items_length] at this
 exact Nat.le_trans this (Ln.linesOf_len l)
theorem fits_get {n : Nat} {W : World} : ∀ {E : List (Nat × Value)} {R : List (Nat × List Bs)}, Fits n W E R → ∀ (j : Nat) r, R[j]? = some r → ∃ e, E[j]? = some e ∧ e.1 = r.1 ∧ StrRow n W e.2 (r.2.map Fld.str)
 | [], [], _, j, r, h => by simp at h
 | [], _ :: _, h, _, _, _ => h.elim
 | _ :: _, [], h, _, _, _ => h.elim
 | e :: E, s :: R, h, 0, r, hj => by
  simp only [List.getElem?_cons_zero, Option.some.injEq] at hj
  subst hj
  exact ⟨e, rfl, h.1.1, h.1.2⟩
 | e :: E, s :: R, h, j + 1, r, hj => by
  rw [List.getElem?_cons_succ] at hj
  obtain ⟨e', h1, h2⟩ := fits_get h.2 j r hj
  exact ⟨e', by rw [List.getElem?_cons_succ]; exact h1, h2⟩
theorem rowsAt_of {B n : Nat} {W : World} {v : Value} {R : List (Nat × List Bs)} (h : RowsAre n 184 W v R) (hB : B ≤ n) (hne : ∀ p ∈ R, p.2 ≠ []) : RowsAt B W v R := by
 obtain ⟨E, hf, ho, -, -⟩ := h
 have hl := hf.length
 obtain ⟨hx, ⟨e1, e2⟩ | ⟨g, cap, cur, e1, h1, hg, h2, h3, h4, h5⟩⟩ := id ho
 ·have : R = [] := by cases R with | nil => rfl | cons _ _ => simp at hl; omega
  subst this
  exact ⟨none, 0, e1, Nat.le_refl _, Nat.zero_le _, fun _ => rfl, fun h => absurd rfl h⟩
 ·refine ⟨some ⟨g, 0, none⟩, cap, by rw [e1, hl], by omega, h3, (fun e => by cases e), fun _ => ⟨g, 0, cur, rfl, by omega, hg, fun j l fs hj => ?_⟩⟩
  obtain ⟨e, a1, a2, a3⟩ := fits_get hf j _ hj
  obtain ⟨b1, b2⟩ := cellsE_get E j e a1
  have hjl := (List.getElem?_eq_some_iff.1 a1).1
  have key : ∀ i, i < E.length * 2 → cur[i]? = (cellsE E)[i]? := fun i hi => by
   rw [← h5, List.getElem?_take_of_lt hi]
   simp
  refine ⟨e.2, ?_, ?_, a3.mono hB, hne _ (List.mem_of_getElem? hj)⟩
  ·rw [Nat.zero_add, key _ (by omega), b1, a2]
  ·rw [Nat.zero_add, key _ (by omega), b2]
theorem rows_slice {n : Nat} {t : TypeId} {W : World} {v : Value} {R : List (Nat × List Bs)} (h : RowsAre n t W v R) : ∃ a c m, v = .slice a m c := by
 obtain ⟨E, hf, ho, -, -⟩ := h
 obtain ⟨a, c, e, -, -⟩ := own_len ho
 exact ⟨a, c, _, e⟩
def cutR (R : Rdr) (l : Bs) : Rdr := { R with rows := Rw.rowsOf l, behind := (Ln.linesOf l).length + 1 }
theorem RAt.cut {B rb : Nat} {R : Rdr} {P : Pts} {w w1 : World} {v : Value} (h : RAt B w rb R P) (k : Below w.heap.size w w1) (l : Bs) (hl : l.length ≤ 65536) (hr : RowsAre w.heap.size 184 w1 v (Rw.rowsOf l)) :
  RAt B ((w1.setCell ⟨rb, 1, none⟩ v).setCell ⟨rb, 3, none⟩ (.int .i64 (((Ln.linesOf l).length + 1 : Nat)))) rb (cutR R l) { P with rv := v } ∧ Kt B P.pm P.hm w ((w1.setCell ⟨rb, 1, none⟩ v).setCell ⟨rb, 3, none⟩ (.int .i64 (((Ln.linesOf l).length + 1 : Nat)))) := by
 have h1 := h.below k
 have kp : Kp rb w1 ((w1.setCell ⟨rb, 1, none⟩ v).setCell ⟨rb, 3, none⟩ (.int .i64 (((Ln.linesOf l).length + 1 : Nat)))) := kp_trans (kp_set w1 rb 1 _) (kp_set _ rb 3 _)
 have hlen := Ln.linesOf_len l
 refine ⟨h1.turn kp (set_heap1 (set_heap1 h1.rdr _) _) ?_ (own_kept h1.lns (kp.kept h1.rdr (ne_cells (by decide)))) rfl rfl rfl ⟨by show (Ln.linesOf l).length + 1 ≤ 65537; omega, h.few.2.2⟩ (rows_ok l hl), ?_⟩
 ·exact rows_kept (rowsAt_of hr h.base (fun p hp => (rows_ok l hl p hp).2.1)) (kp.kept h1.rdr (ne_cells (by decide))) (kp.kept h1.rdr (ne_cells (by decide)))
 ·exact (Kt.of_below k h.base).trans (Kt.of_kp kp (((Below.refl B w1).setCell (p := ⟨rb, 1, none⟩) h.rbB _).setCell (p := ⟨rb, 3, none⟩) h.rbB _) h1.rdr (by decide))
theorem cut_any {B rb : Nat} {R : Rdr} {P : Pts} {w : World} (h : RAt B w rb R P) (hM : Mx B w) (s : ByteArray) :
  Calls Tryz.prog 53 #[ptr rb, .string s] w (Res B rb P w (if 65536 < s.data.toList.length then .error (R.line, 10) else .ok (cutR R s.data.toList))) := by
 obtain ⟨d0, d1, hl, d3, -, -, dz⟩ := h.cells
 have hb := h.lt
 have hz : s.data.toList.length = s.size := by simp
 by_cases hq : 65536 < s.size
 ·have HS := hide (fun W => SplW.split_long s W (by omega))
  have HV := hide (leave_no rb R.line 10 w (by decide) (by decide) hl)
  rw [if_pos (by omega)]
  have HB := hide h.base
  clear h hM d0 d1 hl d3 hz hq
  go_enter Tryz.func53, Tryz.ntmps53
  go_wp2_with (first | (go_at_call 79; refine (unhide HS _).mono ?_; rintro e w2 ⟨rfl, rfl⟩) | (go_at_call 80; refine (unhide HV).mono ?_; rintro e w3 ⟨rfl, rfl⟩))
  exact ⟨rfl, Res.no rfl (Kt.refl _ _ _ _)⟩
 ·rw [if_neg (by omega)]
  have HS := hide (SplW.split_short s w (by omega) hM.ea)
  have HRW := hide (fun W (b : Below w.heap.size w W) => RowW.rows_short s W (by omega) (hM.low (b.mono h.base)).ea)
  have HL := hide (fun W => leave_ok (ptr rb) W)
  have HC : Hid (∀ w0, Below w.heap.size w w0 → w0.cell? ⟨rb, 1, none⟩ = some P.rv ∧ w0.cell? ⟨rb, 3, none⟩ = some (.int .i64 (R.behind : Nat)) ∧ rb < w0.heap.size ∧ ∀ j, w0.frozen? ⟨rb, j, none⟩ = false) := fun w0 b => by
   have h0 := h.below b
   exact ⟨h0.cells.2.1, h0.cells.2.2.2.1, h0.lt, h0.cells.2.2.2.2.2.2⟩
  have HK := hide (fun w0 w1 (b : Below w.heap.size w w0) (c : Below w0.heap.size w0 w1) v hr => (h.below b).cut c s.data.toList (by omega) (v := v) hr)
  have HB := hide h.base
  have hsm := Ln.linesOf_len s.data.toList
  obtain ⟨N, hN⟩ : ∃ N, (Ln.linesOf s.data.toList).length = N := ⟨_, rfl⟩
  have HNN := hide hN
  rw [hN] at hsm HS HK
  have hsm2 : N ≤ 65536 := by omega
  clear h hM d0 d1 hl d3 hz hq dz hN hsm
  go_enter Tryz.func53, Tryz.ntmps53
  go_wp2_with (first | (go_at_call 79; refine (unhide HS).mono ?_; rintro e w2 ⟨v, rfl, o2, b2⟩; obtain ⟨av, cv, rfl, -, -⟩ := own_len o2; have HB2 := hide b2; clear o2 b2) | (go_at_call 80; refine (unhide HL _).mono ?_; rintro e w3 ⟨rfl, rfl⟩) | (go_at_call 81; refine (unhide HRW _ (unhide HB2)).mono ?_; rintro e w4 ⟨v4, rfl, o4, b4⟩; obtain ⟨av4, cv4, n4, rfl⟩ := rows_slice o4; obtain ⟨f1, f2, f3, f4⟩ := unhide HC _ (btr (unhide HB2) b4); have HB4 := hide b4; have HO4 := hide o4; clear o4 b4))
  go_end0
  obtain ⟨hr, kt⟩ := unhide HK _ _ (unhide HB2) (unhide HB4) _ (unhide HO4)
  rw [show ((N + 1 : Nat) : Int) = (N : Int) + 1 by omega] at hr kt
  exact Res.yes rfl ((Kt.of_below (unhide HB2) (unhide HB)).trans kt) hr rfl rfl rfl
end Af
end Go.Proofs.YtmhegbeemgagkaaGreatDoor
