/- The reader: the next row. -/
import Derived.Test.YtkefjaifaonlbaaGreatDoorGz18
import Derived.Lib.SliceRun
import Derived.Shelf.SlicesE.Index
import Derived.Shelf.SlicesE.Compact
import Derived.Test.YtkefjaifaonlbaaGreatDoorProg
import Derived.Test.YtkefjaifaonlbaaGreatDoorShAll
namespace Go.Proofs.YtkefjaifaonlbaaGreatDoor
open Go.RowKit
namespace Af
open RowB
set_option maxHeartbeats 2000000 in
theorem nextRow_any {B rb l : Nat} {fs : List Bs} {t : List (Nat × List Bs)} {R : Rdr} {P : Pts} {w : World} (h : RAt B w rb R P) (hr : R.rows = (l, fs) :: t) :
    Calls Tryz.prog 75 #[ptr rb] w fun e w' => ∃ fv rv, e = .returned fv ∧ StrRow B w' fv (fs.map Fld.str) ∧ RAt B w' rb { R with rows := t, line := l } { P with rv := rv } ∧ Below B w w' ∧ Kp rb w w' := by
  have hrk := h.rok
  rw [hr] at hrk
  have hl : l ≤ 65536 := (hrk (l, fs) (by simp)).1
  have HOK : Hid (RowsOk t) := fun p hp => hrk p (by simp [hp])
  clear hrk
  have hR := h.rows
  rw [hr] at hR
  obtain ⟨g, off, cap, fv, e1, c1, c2, c3, c4, c5, c6, c7, c8, c9⟩ := rows_tail hR
  obtain ⟨d0, d1, d2, d3, d4, d5, d6⟩ := h.cells
  rw [e1] at d1
  have hlt := h.lt
  have HH := hide h
  have H9 := hide c9
  have H5 := hide c5
  obtain ⟨gf, cf, curf, ef, -⟩ := c5
  rw [List.length_map] at ef
  subst ef
  clear hR hr h c9 d3 d4 d5
  unfold LineAt at d2
  unfold maxLen at c2
  have hne : ¬ g = rb := by
    rintro rfl
    obtain ⟨cur, e⟩ := c8
    rw [(unhide HH).rdr] at e
    injection e with e
    injection e with _ e _
    exact absurd e (by decide)
  clear c8
  go_enter Tryz.func75, Tryz.ntmps75
  go_wp2
  · obtain ⟨r1, r2, r3, r4⟩ := next_res (o := .cells #[.int .i64 (l : Nat), .slice (some ⟨gf, 0, none⟩) fs.length cf] 161) (unhide HH) hl (unhide HOK) (unhide H9 (some ⟨g, off, none⟩) 0 (fun h => by omega) (by omega) (by unfold maxLen; omega) (fun e => rfl)) (unhide H5) _ rfl
    go_ret
    exact ⟨_, rfl, r1, ⟨_, r2⟩, r3, r4⟩
  · obtain ⟨r1, r2, r3, r4⟩ := next_res (o := .cells #[.int .i64 (l : Nat), .slice (some ⟨gf, 0, none⟩) fs.length cf] 161) (unhide HH) hl (unhide HOK) (unhide H9 (some ⟨g, off + 2, none⟩) (cap - 1) (fun h => rfl) (by omega) (by unfold maxLen; omega) (fun e => by cases e)) (unhide H5) _ rfl
    go_ret
    exact ⟨_, rfl, r1, ⟨_, r2⟩, r3, r4⟩
end Af
end Go.Proofs.YtkefjaifaonlbaaGreatDoor
/- The reader: did a keyword stand; the class of a flag. -/
namespace Go.Proofs.YtkefjaifaonlbaaGreatDoor
open Go.RowKit
namespace Af
open RowB
theorem cnt_in {H : List Bs} {s : Bs} (h : s ∈ H) : cnt H (.string s) = some (.int .i64 (H.count s : Nat)) := by simp [cnt, h]
theorem cnt_out {H : List Bs} {s : Bs} (h : s ∉ H) : cnt H (.string s) = none := by simp [cnt, h]
theorem stood_any {B rb : Nat} {R : Rdr} {P : Pts} {w : World} (h : RAt B w rb R P) (s : ByteArray) (hs : s.size ≤ 65536) :
    Calls Tryz.prog 77 #[ptr rb, .string s] w fun e w' => e = .returned (.bool (decide (s.data.toList ∈ R.heads))) ∧ w' = w := by
  obtain ⟨d0, d1, d2, d3, d4, d5, d6⟩ := h.cells
  obtain ⟨n, hn, hm⟩ := h.hds
  have hk := hm.look law9 Tryz.underlying88 (zero3 w) (key9 (s := s) (by unfold maxLen; omega))
  by_cases hi : s.data.toList ∈ R.heads
  · rw [cnt_in hi] at hk
    have hp : 0 < R.heads.count s.data.toList := List.count_pos_iff.2 hi
    have hpi : (0 : Int) < ((R.heads.count s.data.toList : Nat) : Int) := by omega
    rw [decide_eq_true hi]
    generalize R.heads.count s.data.toList = q at *
    simp only [Option.getD_some] at hk
    clear h hm d0 d1 d2 d3 d5 hi hn hs
    go_enter Tryz.func77, Tryz.ntmps77
    go_wp2
    go_ret
    exact ⟨by simp, rfl⟩
  · rw [cnt_out hi] at hk
    rw [decide_eq_false hi]
    simp only [Option.getD_none] at hk
    clear h hm d0 d1 d2 d3 d5 hi hn hs
    go_enter Tryz.func77, Tryz.ntmps77
    go_wp2
    go_ret
    exact ⟨rfl, rfl⟩
theorem FAt.cells {B : Nat} {w : World} {F : Fil} {P : Pts} (h : FAt B w F P) : w.cell? ⟨P.fb, 0, none⟩ = some (.int .i64 F.kind) ∧ w.cell? ⟨P.fb, 9, none⟩ = some P.vr ∧ w.cell? ⟨P.fb, 10, none⟩ = some P.va ∧ w.cell? ⟨P.fb, 11, none⟩ = some P.vc ∧ w.cell? ⟨P.fb, 12, none⟩ = some P.vu ∧ w.cell? ⟨P.fb, 13, none⟩ = some (.map (some P.pm)) ∧ ∀ k, w.frozen? ⟨P.fb, k, none⟩ = false := by
  have h := h.fil
  refine ⟨?_, ?_, ?_, ?_, ?_, ?_, fun k => ?_⟩ <;> simp [World.cell?, World.frozen?, h, filC]
theorem FAt.lt {B : Nat} {w : World} {F : Fil} {P : Pts} (h : FAt B w F P) : P.fb < w.heap.size := (Array.getElem?_eq_some_iff.1 h.fil).1
def noC : Value := .agg #[.int .u16 0, .int .i64 0, .bool false, .int .i64 0, .int .i64 0]
set_option maxHeartbeats 1000000 in
theorem class_none {B : Nat} {F : Fil} {P : Pts} {w : World} (h : FAt B w F P) (x : Int) (h0 : 0 ≤ x) (h1 : x ≤ 65535) (hf : findC F.classes x = none) :
    Calls Tryz.prog 6 #[.pointer (some ⟨P.fb, 0, none⟩), .int .u16 x] w fun e w' => e = .returned (.tuple #[noC, .bool false]) ∧ Below w.heap.size w w' := by
  obtain ⟨d0, d9, d10, d11, d12, d13, dz⟩ := h.cells
  obtain ⟨n, hn, hm⟩ := h.plc
  have hk := fun o => (hm.kept (w' := w.alloc o) (Below.heap_alloc w o _ hm.lt)).look2 lawF Tryz.underlying48 (zero3 (w.alloc o)) (keyF h0 h1)
  simp only [plc, hf, Option.map_none, Option.getD_none, Option.isSome_none] at hk
  have hlt := h.lt
  clear h hm hf h0 h1 d9 d10 d11 d12 hn
  unfold noC
  go_enter Tryz.func6, Tryz.ntmps6
  go_wp2
  refine bodyPost_ret (v := .tuple #[.agg #[.int .u16 0, .int .i64 0, .bool false, .int .i64 0, .int .i64 0], .bool false]) (by simp [results, Tryz.results6, go_sem]) rfl ⟨rfl, (Below.refl _ w).alloc (Nat.le_refl _) _⟩
end Af
end Go.Proofs.YtkefjaifaonlbaaGreatDoor
/- Contract of slices.Contains at flags, of the shelf, laid at this program: no walk of ours. -/
namespace Go.Proofs
open Go.Shelf
def Tryz.laysCf_ren : Go.Shelf.Ren := ⟨fun | 29 => 143 | 31 => 125 | n => n, fun | 0 => 0 | 3 => 3 | 4 => 4 | 22 => 22 | 23 => 31 | n => n, fun | n => n⟩
theorem Tryz.laysCf : Go.Proofs.SlLaysE.n31 Tryz.prog Tryz.laysCf_ren := {
  mixed := by kernel_rfl
  f29 := ⟨"slices.Index[[]hornbook/api.Flag,hornbook/api.Flag]", by decide, Tryz.func143.trans (congrArg some (by kernel_rfl))⟩
  f31 := ⟨"slices.Contains[[]hornbook/api.Flag,hornbook/api.Flag]", by decide, Tryz.func125.trans (congrArg some (by kernel_rfl))⟩
  t0 := Tryz.underlying0
  a0 := Tryz.isAgg0
  z0 := Tryz.sizeOf0
  v0 := Tryz.zeroValue0
  t3 := Tryz.underlying3
  a3 := Tryz.isAgg3
  z3 := Tryz.sizeOf3
  v3 := Tryz.zeroValue3
  t4 := Tryz.underlying4
  a4 := Tryz.isAgg4
  z4 := Tryz.sizeOf4
  v4 := Tryz.zeroValue4
  t22 := Tryz.underlying22
  a22 := Tryz.isAgg22
  z22 := Tryz.sizeOf22
  v22 := Tryz.zeroValue22
  a23 := Tryz.isAgg31
  z23 := Tryz.sizeOf31 }
open Go.RowKit Go.Lib Go.Sort in
theorem Tryz.flags_Contains (b off n c : Nat) (zs : List Int) (x : Int) (w : World) (hz : n ≤ zs.length) (hbig : n ≤ 9223372036854775807) (hc : ∀ j, j < zs.length → w.cell? ⟨b, off + j, none⟩ = some (.int .u16 zs[j]!)) :
    Calls Tryz.prog 125 #[.slice (some ⟨b, off, none⟩) n c, .int .u16 x] w fun e w' => e = .returned (.bool ((zs.take n).any fun y => decide (x = y))) ∧ w' = w :=
  AnyE.slices_Contains Tryz.laysCf (Value.int .u16) (fun x y => decide (x = y)) (EqlAt.intD _ _ .u16) b off n c zs x w hz hbig hc
theorem Tryz.flags_Contains_empty (a : Option Addr) (c : Nat) (xv : Value) (w : World) :
    Calls Tryz.prog 125 #[.slice a 0 c, xv] w fun e w' => e = .returned (.bool false) ∧ w' = w :=
  AnyE.slices_Contains_empty Tryz.laysCf a c xv w
end Go.Proofs
/- The reader: a flag that is not defined yet. -/
namespace Go.Proofs.YtkefjaifaonlbaaGreatDoor
open Go.RowKit
namespace Af
open RowB
theorem below_drewN (B : Nat) (w : World) (m : Nat) : Below B w (w.drewN m) := ⟨rfl, rfl, rfl, Nat.le_refl _, fun _ _ => rfl⟩
def flgV (x : Int) : Value := .int .u16 x
theorem newFlag_bad {R : Rdr} {f : Bs} (h : One.oneE R.file.kind f ≠ 0) : newFlag R f = .error (R.line, (One.oneE R.file.kind f).toNat) := by unfold newFlag; rw [if_pos h]
theorem newFlag_taken {R : Rdr} {f : Bs} (h : One.oneE R.file.kind f = 0) (h2 : One.oneF R.file.kind f ∈ R.file.specials) : newFlag R f = .error (R.line, 115) := by unfold newFlag; rw [if_neg (fun e => e h), if_pos (.inr h2)]
theorem newFlag_ok {R : Rdr} {f : Bs} (h : One.oneE R.file.kind f = 0) (h2 : findC R.file.classes (One.oneF R.file.kind f) = none) (h3 : One.oneF R.file.kind f ∉ R.file.specials) : newFlag R f = .ok (One.oneF R.file.kind f) := by
  unfold newFlag
  rw [if_neg (fun e => e h), if_neg (by rw [h2]; simp [h3])]
theorem oneE_pos (k : Int) (f : Bs) : 0 ≤ One.oneE k f := by
  unfold One.oneE
  split
  · split <;> omega
  · omega
theorem FAt.spec {B : Nat} {w : World} {F : Fil} {P : Pts} (h : FAt B w F P) : ∀ j, j < F.specials.length → w.cell? ⟨P.fb, 3 + j, none⟩ = some (.int .u16 F.specials[j]!) := by
  intro j hj
  have h5 := h.ok.spec
  have hf := h.fil
  obtain ⟨a, b, c, d, e, he⟩ : ∃ a b c d e, F.specials = [a, b, c, d, e] := by
    match F.specials, h5 with
    | [a, b, c, d, e], _ => exact ⟨a, b, c, d, e, rfl⟩
  rw [he] at hj ⊢
  simp only [filC, he] at hf
  match j, hj with
  | 0, _ => simp [World.cell?, hf]
  | 1, _ => simp [World.cell?, hf]
  | 2, _ => simp [World.cell?, hf]
  | 3, _ => simp [World.cell?, hf]
  | 4, _ => simp [World.cell?, hf]
theorem any_mem (l : List Int) (x : Int) : ((l.take 5).any fun y => decide (x = y)) = decide (x ∈ l.take 5) := by
  rw [Bool.eq_iff_iff]
  simp
set_option maxHeartbeats 2000000 in
theorem newFlag_any {B rb : Nat} {R : Rdr} {P : Pts} {w : World} (h : RAt B w rb R P) (s : ByteArray) (hs : s.size ≤ 65536) (hn : findC R.file.classes (One.oneF R.file.kind s.data.toList) = none) (hb0 : 0 ≤ One.oneF R.file.kind s.data.toList) (hb1 : One.oneF R.file.kind s.data.toList ≤ 65535) :
    Calls Tryz.prog 101 #[ptr rb, .string s] w fun e w' => e = endX flgV (newFlag R s.data.toList) ∧ Below w.heap.size w w' := by
  obtain ⟨d0, -, dl, -, -, -, -⟩ := h.cells
  obtain ⟨k0, -, -, -, -, -, kz⟩ := h.file.cells
  have hlt := h.lt
  have hfl := h.file.lt
  have HO := hide (One.one_any R.file.kind s w (by unfold maxLen; omega))
  by_cases he : One.oneE R.file.kind s.data.toList = 0
  · rw [he] at HO
    have HL := hide (fun W => leave_ok (ptr rb) W)
    have HC := hide (fun m => class_none (h.file.below (w' := w.drewN m) (below_drewN _ w m)) _ hb0 hb1 hn)
    have h5 := h.file.ok.spec
    have HK := hide (fun W (b : Below w.heap.size w W) => Tryz.flags_Contains P.fb 3 5 5 R.file.specials (One.oneF R.file.kind s.data.toList) W (by omega) (by omega) (fun j hj => (b.cell (p := ⟨P.fb, 3 + j, none⟩) hfl).trans (h.file.spec j hj)))
    rw [any_mem, List.take_of_length_le (Nat.le_of_eq h5)] at HK
    have hb5 : Below w.heap.size w w := Below.refl _ w
    by_cases hin : One.oneF R.file.kind s.data.toList ∈ R.file.specials
    · rw [decide_eq_true hin] at HK
      rw [newFlag_taken he hin]
      have HV := hide (fun W (b : Below w.heap.size w W) => leaveIf_no rb R.line 115 W (by decide) (by decide) (lineB dl hlt b))
      clear h hn hb0 hb1 he hs hin h5 hb5 kz dl
      generalize One.oneF R.file.kind s.data.toList = x at *
      go_enter Tryz.func101, Tryz.ntmps101
      go_wp2_with (first | (go_at_call 27; refine (unhide HO).mono ?_; rintro e w2 ⟨rfl, m, rfl⟩) | (go_at_call 65; refine (unhide HL _).mono ?_; rintro e w3 ⟨rfl, rfl⟩))
      refine (unhide HC m).mono ?_
      rintro e w3 ⟨rfl, b3⟩
      have b4 : Below w.heap.size w w3 := (below_drewN w.heap.size w m).trans b3
      have e0 := (b4.cell (p := ⟨rb, 0, none⟩) hlt).trans d0
      have hsz := b4.size
      have hlt3 : rb < w3.heap.size := by omega
      have HB4 := hide b4
      clear b3 b4 d0 k0
      unfold noC
      go_wp2_with fail
      have b5 := (unhide HB4).alloc hsz (.cells #[.int .u16 0, .int .i64 0, .bool false, .int .i64 0, .int .i64 0] 33)
      refine (unhide HK _ b5).mono ?_
      rintro e w5 ⟨rfl, rfl⟩
      go_wp2_with fail
      refine (unhide HV _ b5).mono ?_
      rintro e w6 ⟨rfl, rfl⟩
      exact ⟨rfl, rfl, b5⟩
    · rw [decide_eq_false hin] at HK
      rw [newFlag_ok he hn hin]
      have HV := hide (fun W => leaveIf_ok (ptr rb) 115 W)
      clear h hn hb0 hb1 he hs hin h5 hb5 kz dl
      generalize One.oneF R.file.kind s.data.toList = x at *
      go_enter Tryz.func101, Tryz.ntmps101
      go_wp2_with (first | (go_at_call 27; refine (unhide HO).mono ?_; rintro e w2 ⟨rfl, m, rfl⟩) | (go_at_call 65; refine (unhide HL _).mono ?_; rintro e w3 ⟨rfl, rfl⟩))
      refine (unhide HC m).mono ?_
      rintro e w3 ⟨rfl, b3⟩
      have b4 : Below w.heap.size w w3 := (below_drewN w.heap.size w m).trans b3
      have e0 := (b4.cell (p := ⟨rb, 0, none⟩) hlt).trans d0
      have hsz := b4.size
      have hlt3 : rb < w3.heap.size := by omega
      have HB4 := hide b4
      clear b3 b4 d0 k0
      unfold noC
      go_wp2_with fail
      have b5 := (unhide HB4).alloc hsz (.cells #[.int .u16 0, .int .i64 0, .bool false, .int .i64 0, .int .i64 0] 33)
      refine (unhide HK _ b5).mono ?_
      rintro e w5 ⟨rfl, rfl⟩
      go_wp2_with fail
      refine (unhide HV _).mono ?_
      rintro e w6 ⟨rfl, rfl⟩
      go_wp2
      go_ret
      exact ⟨rfl, b5⟩
  · rw [newFlag_bad he]
    have HV := hide (fun m => leave_no rb R.line _ (w.drewN m) he (oneE_pos _ _) (lineB dl hlt (below_drewN _ w m)))
    clear h hn hb0 hb1 he hs hfl kz
    generalize One.oneE R.file.kind s.data.toList = cd at *
    go_enter Tryz.func101, Tryz.ntmps101
    go_wp2_with (first | (go_at_call 27; refine (unhide HO).mono ?_; rintro e w2 ⟨rfl, m, rfl⟩) | (go_at_call 65; refine (unhide HV _).mono ?_; rintro e w3 ⟨rfl, rfl⟩))
    exact ⟨rfl, rfl, below_drewN _ w m⟩
end Af
end Go.Proofs.YtkefjaifaonlbaaGreatDoor
/- The reader: what a call may turn; how a call ends; the row of a group. -/
namespace Go.Proofs.YtkefjaifaonlbaaGreatDoor
open Go.RowKit
namespace Af
open RowB
/-- the types of blocks that a reader writes into -/
def WT : List TypeId := [90, 50, 65, 22, 33, 63, 3]
/-- what stays behind a call of the reader -/
structure Kt (B pm hm : Nat) (w w' : World) : Prop where
  low : Below B w w'
  cells : ∀ (g : Nat) (cur : Array Value) (t : TypeId) (fz : Nat × Nat), w.heap[g]? = some (.cells cur t fz) → t ∉ WT → w'.heap[g]? = w.heap[g]?
  maps : ∀ (g : Nat) es c, w.heap[g]? = some (.map es c) → g ≠ pm → g ≠ hm → w'.heap[g]? = w.heap[g]?
theorem Kt.refl (B pm hm : Nat) (w : World) : Kt B pm hm w w := ⟨Below.refl _ _, fun _ _ _ _ _ _ => rfl, fun _ _ _ _ _ _ => rfl⟩
theorem Kt.trans {B pm hm : Nat} {a b c : World} (h : Kt B pm hm a b) (k : Kt B pm hm b c) : Kt B pm hm a c :=
  ⟨h.low.trans k.low, fun g cur t fz e n => (k.cells g cur t fz ((h.cells g cur t fz e n).trans e) n).trans (h.cells g cur t fz e n), fun g es c e n1 n2 => (k.maps g es c ((h.maps g es c e n1 n2).trans e) n1 n2).trans (h.maps g es c e n1 n2)⟩
theorem lt_some {w : World} {g : Nat} {o : Obj} (h : w.heap[g]? = some o) : g < w.heap.size := (Array.getElem?_eq_some_iff.1 h).1
theorem Kt.of_below {B pm hm : Nat} {a b : World} (h : Below a.heap.size a b) (hB : B ≤ a.heap.size) : Kt B pm hm a b :=
  ⟨h.mono hB, fun g _ _ _ e _ => h.block g (lt_some e), fun g _ _ e _ _ => h.block g (lt_some e)⟩
theorem Kt.of_kp {B pm hm g0 : Nat} {a b : World} {cs : Array Value} {t : TypeId} {fz : Nat × Nat} (h : Kp g0 a b) (l : Below B a b) (h0 : a.heap[g0]? = some (.cells cs t fz)) (ht : t ∈ WT) : Kt B pm hm a b :=
  ⟨l, fun g cur t' fz' e n => h.2 g (lt_some e) (by rintro rfl; rw [h0] at e; injection e with e; injection e with _ e _; subst e; exact n ht), fun g es c e _ _ => h.2 g (lt_some e) (by rintro rfl; rw [h0] at e; cases e)⟩
theorem Kt.of_map {B pm hm g0 : Nat} {a b : World} {es : _} {c : _} (h : Kp g0 a b) (l : Below B a b) (h0 : a.heap[g0]? = some (.map es c)) (hg : g0 = pm ∨ g0 = hm) : Kt B pm hm a b :=
  ⟨l, fun g cur t' fz' e n => h.2 g (lt_some e) (by rintro rfl; rw [h0] at e; cases e), fun g es c e n1 n2 => h.2 g (lt_some e) (by rintro rfl; exact hg.elim n1 n2)⟩
theorem Kt.str {B pm hm : Nat} {a b : World} {v : Value} {L : List ByteArray} {n : Nat} (h : Kt B pm hm a b) (hs : StrRow n a v L) : StrRow n b v L := str_kept hs fun g cur e => h.cells g cur 9 (0, 0) e (by decide)
/-- how a call of the reader ends -/
def Res (B rb : Nat) (P : Pts) (w : World) (X : Except Er Rdr) (e : Ending) (w' : World) : Prop :=
  Kt B P.pm P.hm w w' ∧ match X with
  | .ok R' => e = .returned (.tuple #[]) ∧ ∃ P', RAt B w' rb R' P' ∧ P'.fb = P.fb ∧ P'.pm = P.pm ∧ P'.hm = P.hm
  | .error er => e = .panicked (chn er)
theorem Res.yes {B rb : Nat} {P P' : Pts} {w w' : World} {X : Except Er Rdr} {R' : Rdr} (hX : X = .ok R') (k : Kt B P.pm P.hm w w') (h : RAt B w' rb R' P') (e1 : P'.fb = P.fb) (e2 : P'.pm = P.pm) (e3 : P'.hm = P.hm) : Res B rb P w X (.returned (.tuple #[])) w' := by
  subst hX
  exact ⟨k, rfl, P', h, e1, e2, e3⟩
theorem Res.no {B rb : Nat} {P : Pts} {w w' : World} {X : Except Er Rdr} {er : Er} (hX : X = .error er) (k : Kt B P.pm P.hm w w') : Res B rb P w X (.panicked (chn er)) w' := by
  subst hX
  exact ⟨k, rfl⟩
theorem callOk {B rb : Nat} {P : Pts} {w : World} {X : Except Er Rdr} {R' : Rdr} {g : FuncId} {args : Array Value} (h : Calls Tryz.prog g args w (Res B rb P w X)) (hX : X = .ok R') : Calls Tryz.prog g args w fun e w' => e = .returned (.tuple #[]) ∧ Kt B P.pm P.hm w w' ∧ ∃ P', RAt B w' rb R' P' ∧ P'.fb = P.fb ∧ P'.pm = P.pm ∧ P'.hm = P.hm := by
  subst hX
  exact h.mono fun e w' ⟨k, q1, q2⟩ => ⟨q1, k, q2⟩
theorem callNo {B rb : Nat} {P : Pts} {w : World} {X : Except Er Rdr} {er : Er} {g : FuncId} {args : Array Value} (h : Calls Tryz.prog g args w (Res B rb P w X)) (hX : X = .error er) : Calls Tryz.prog g args w fun e w' => e = .panicked (chn er) ∧ Kt B P.pm P.hm w w' := by
  subst hX
  exact h.mono fun e w' ⟨k, q1⟩ => ⟨q1, k⟩
theorem RAt.kt {B rb : Nat} {R : Rdr} {P : Pts} {w w' : World} (h : RAt B w rb R P) (k : Kp rb w w') (l : Below B w w') : Kt B P.pm P.hm w w' := .of_kp k l h.rdr (by decide)
theorem RAt.base {B rb : Nat} {R : Rdr} {P : Pts} {w : World} (h : RAt B w rb R P) : B ≤ w.heap.size := Nat.le_trans h.rbB (Nat.le_of_lt h.lt)

/-! rows of texts -/
theorem str_cells {n : Nat} {w : World} {v : Value} {L : List Bs} (h : StrRow n w v (L.map Fld.str)) : ∃ g cap, v = .slice (some ⟨g, 0, none⟩) L.length cap ∧ g < w.heap.size ∧ L.length ≤ cap ∧ cap ≤ maxLen ∧ (∃ cur, w.heap[g]? = some (.cells cur 9 (0, 0))) ∧ ∀ (j : Nat) x, L[j]? = some x → w.cell? ⟨g, j, none⟩ = some (.string (Fld.str x)) := by
  obtain ⟨g, cap, cur, e, hg, hh, h1, h2, h3, h4⟩ := h
  rw [List.length_map] at e h1 h4
  refine ⟨g, cap, e, lt_some hh, h1, h2, ⟨cur, hh⟩, fun j x hj => ?_⟩
  have hjl := (List.getElem?_eq_some_iff.1 hj).1
  have : (cur.toList.take L.length)[j]? = some (.string (Fld.str x)) := by
    rw [h4]
    simp [hj]
  rw [List.getElem?_take_of_lt hjl] at this
  simpa [World.cell?, hh] using this
theorem fstr_wd (l : Bs) : Fld.str l = Wd.str l := rfl
/-! the row of a group -/
def GRes (B rb : Nat) (P : Pts) (w : World) (X : Except Er (List Bs × Rdr)) (e : Ending) (w' : World) : Prop :=
  Kp rb w w' ∧ Below B w w' ∧ match X with
  | .ok p => ∃ fv rv, e = .returned fv ∧ StrRow B w' fv (p.1.map Fld.str) ∧ RAt B w' rb p.2 { P with rv := rv }
  | .error er => e = .panicked (chn er)
theorem GRes.no {B rb : Nat} {P : Pts} {w w' : World} {X : Except Er (List Bs × Rdr)} {er : Er} (hX : X = .error er) (k : Kp rb w w') (l : Below B w w') : GRes B rb P w X (.panicked (chn er)) w' := by
  subst hX
  exact ⟨k, l, rfl⟩
theorem GRes.yes {B rb : Nat} {P : Pts} {w w' : World} {X : Except Er (List Bs × Rdr)} {row : List Bs} {R1 : Rdr} {fv rv : Value} (hX : X = .ok (row, R1)) (k : Kp rb w w') (l : Below B w w') (hs : StrRow B w' fv (row.map Fld.str)) (h : RAt B w' rb R1 { P with rv := rv }) : GRes B rb P w X (.returned fv) w' := by
  subst hX
  exact ⟨k, l, fv, rv, rfl, hs, h⟩
theorem gOk {B rb : Nat} {P : Pts} {w : World} {X : Except Er (List Bs × Rdr)} {row : List Bs} {R1 : Rdr} {g : FuncId} {args : Array Value} (h : Calls Tryz.prog g args w (GRes B rb P w X)) (hX : X = .ok (row, R1)) : Calls Tryz.prog g args w fun e w' => ∃ fv rv, e = .returned fv ∧ StrRow B w' fv (row.map Fld.str) ∧ RAt B w' rb R1 { P with rv := rv } ∧ Kp rb w w' ∧ Below B w w' := by
  subst hX
  exact h.mono fun e w' ⟨k, l, fv, rv, q1, q2, q3⟩ => ⟨fv, rv, q1, q2, q3, k, l⟩
theorem gNo {B rb : Nat} {P : Pts} {w : World} {X : Except Er (List Bs × Rdr)} {er : Er} {g : FuncId} {args : Array Value} (h : Calls Tryz.prog g args w (GRes B rb P w X)) (hX : X = .error er) : Calls Tryz.prog g args w fun e w' => e = .panicked (chn er) ∧ Kp rb w w' ∧ Below B w w' := by
  subst hX
  exact h.mono fun e w' ⟨k, l, q⟩ => ⟨q, k, l⟩
theorem grow_none {R : Rdr} {beg : List Bs} (h : R.rows = []) : grow R beg = .error (R.behind, 116) := by unfold grow; rw [h]
theorem grow_no {R : Rdr} {beg row : List Bs} {l : Nat} {t : List (Nat × List Bs)} (h : R.rows = (l, row) :: t) (hn : row.take beg.length ≠ beg) : grow R beg = .error (l, 116) := by unfold grow; rw [h]; simp [hn]
theorem grow_ok {R : Rdr} {beg row : List Bs} {l : Nat} {t : List (Nat × List Bs)} (h : R.rows = (l, row) :: t) (hn : row.take beg.length = beg) : grow R beg = .ok (row, { R with rows := t, line := l }) := by unfold grow; rw [h]; simp [hn]
theorem str_inj {a b : Bs} (h : Fld.str a = Fld.str b) : a = b := by
  have := congrArg (fun s : ByteArray => s.data.toList) h
  simpa [Fld.str] using this
theorem map_str_inj {a b : List Bs} (h : a.map Fld.str = b.map Fld.str) : a = b := by
  induction a generalizing b with
  | nil => cases b with
    | nil => rfl
    | cons x t => simp at h
  | cons y t ih => cases b with
    | nil => simp at h
    | cons x s =>
      simp only [List.map_cons, List.cons.injEq] at h
      rw [str_inj h.1, ih h.2]
theorem set_line {B rb : Nat} {R : Rdr} {P : Pts} {w : World} (h : RAt B w rb R P) (l : Nat) : LineAt (w.setCell ⟨rb, 2, none⟩ (.int .i64 (l : Nat))) rb l ∧ Kp rb w (w.setCell ⟨rb, 2, none⟩ (.int .i64 (l : Nat))) ∧ Below B w (w.setCell ⟨rb, 2, none⟩ (.int .i64 (l : Nat))) := by
  refine ⟨?_, kp_set w rb 2 _, (Below.refl B w).setCell (p := ⟨rb, 2, none⟩) h.rbB _⟩
  have := set_heap1 (k := 2) h.rdr (.int .i64 (l : Nat))
  simp [LineAt, World.cell?, this, rdrC]
end Af
end Go.Proofs.YtkefjaifaonlbaaGreatDoor
