import Derived.Test.YtidhbhdcoanfcaaGreatDoorGuShP
import Derived.Test.YtidhbhdcoanfcaaGreatDoorGq02
import Derived.Test.YtidhbhdcoanfcaaGreatDoorGq00
import Derived.Test.YtidhbhdcoanfcaaGreatDoorGq16
set_option maxHeartbeats 8000000
set_option maxRecDepth 100000
namespace Go.Proofs
open Go.Shelf
def Tryz.lays166_ren : Go.Shelf.Ren := ⟨fun | 166 => 169 | 240 => 61 | 276 => 86 | n => n, fun | 0 => 0 | 3 => 3 | 4 => 4 | 5 => 5 | 9 => 9 | 20 => 20 | 37 => 104 | 70 => 103 | 72 => 106 | 75 => 109 | 80 => 111 | 164 => 157 | n => n, fun | n => n⟩
theorem Tryz.lays166 : Go.Proofs.Lays.n166 Tryz.prog Tryz.lays166_ren := {
 mixed := by kernel_rfl
 f166 := Tryz.func169.trans (congrArg some (by kernel_rfl))
 f240 := Tryz.func61.trans (congrArg some (by kernel_rfl))
 f276 := Tryz.func86.trans (congrArg some (by kernel_rfl))
 t0 := Tryz.underlying0
 a0 := Tryz.isAgg0
 z0 := Tryz.sizeOf0
 v0 := Tryz.zeroValue0
 t3 := Tryz.underlying3
 a3 := Tryz.isAgg3
 z3 := Tryz.sizeOf3
 v3 := Tryz.zeroValue3
 t4 := Tryz.underlying4
 a4 := Tryz.isAgg4
 z4 := Tryz.sizeOf4
 v4 := Tryz.zeroValue4
 t9 := Tryz.underlying9
 a9 := Tryz.isAgg9
 z9 := Tryz.sizeOf9
 v9 := Tryz.zeroValue9
 t20 := Tryz.underlying20
 a20 := Tryz.isAgg20
 z20 := Tryz.sizeOf20
 v20 := Tryz.zeroValue20
 t37 := Tryz.underlying104
 a37 := Tryz.isAgg104
 z37 := Tryz.sizeOf104
 v37 := Tryz.zeroValue104
 t70 := Tryz.underlying103
 a70 := Tryz.isAgg103
 z70 := Tryz.sizeOf103
 v70 := Tryz.zeroValue103
 t72 := Tryz.underlying106
 a72 := Tryz.isAgg106
 z72 := Tryz.sizeOf106
 v72 := Tryz.zeroValue106
 t75 := Tryz.underlying109
 a75 := Tryz.isAgg109
 z75 := Tryz.sizeOf109
 v75 := Tryz.zeroValue109
 t164 := Tryz.underlying157
 a164 := Tryz.isAgg157
 z164 := Tryz.sizeOf157
 v164 := Tryz.zeroValue157
}
theorem Tryz.Builder_Extra_166 : Builder.Extra Tryz.prog Tryz.lays166_ren := {
 sizeBuilder := by kernel_rfl
 liesBuilder := by kernel_rfl
 t5 := Tryz.underlying5
 a5 := Tryz.isAgg5
 z5 := Tryz.sizeOf5
 v5 := Tryz.zeroValue5
 infoByte := by kernel_rfl
 cellsByte := by kernel_rfl
 sizeByte := by kernel_rfl
 neB5 := by decide }
open Go.RowKit in
theorem Tryz.Builder_WriteString_k (B b : Nat) (bs : List Value) (s : ByteArray) (w : World) (h : Lib.IsBuilderF 106 5 B b bs w) (hlen : bs.length + s.size ≤ 140737488355328) (hBw : B ≤ w.heap.size) :
  Calls Tryz.prog 169 #[.pointer (some ⟨b, 0, none⟩), .string s] w fun e w' => e = .returned (.tuple #[.int .i64 s.size, .nilIface]) ∧ (Lib.BuilderAtF 106 5 B b (.pointer (some ⟨b, 0, none⟩)) (bs ++ Lib.strCells s) w' ∧ Below B w w' ∧ Lib.OthersKept 5 (some b) w w') := Any.Builder_WriteString_k Tryz.lays166 Tryz.Builder_Extra_166 B b bs s w h hlen hBw
end Go.Proofs
namespace Go.Proofs.YtidhbhdcoanfcaaGreatDoor
open Go.RowKit
namespace Pt
open Cd

theorem builder_below {T e : TypeId} {B b : Nat} {bs : List Value} {w w' : World} (h : Lib.IsBuilderF T e B b bs w) (hB : Below w.heap.size w w') : Lib.IsBuilderF T e B b bs w' := by
 have one : ∀ p, Lib.BuilderAtF T e B b p bs w → Lib.BuilderAtF T e B b p bs w' := by
  rintro p ⟨h1, v, h2, h3, h4⟩
  refine ⟨h1, v, by rw [hB.block b (Array.getElem?_eq_some_iff.1 h2).1]; exact h2, ?_, h4⟩
  obtain ⟨hl, h | ⟨g, cap, cur, fz, rfl, hg, hh, hr⟩⟩ := h3
  ·exact ⟨hl, .inl h⟩
  ·exact ⟨hl, .inr ⟨g, cap, cur, fz, rfl, hg, by rw [hB.block g (Array.getElem?_eq_some_iff.1 hh).1]; exact hh, hr⟩⟩
 exact h.elim (fun x => .inl (one _ x)) (fun x => .inr (one _ x))
theorem cells_str (l : List UInt8) : Lib.strCells (str l) = Lib.byteCells l := by simp [Lib.strCells, Lib.byteCells, str]
theorem shw_len (f : UInt8 → Bool) : (shw f).length ≤ 600 := by
 have h1 := lso_len f
 have h2 := lso_len (fun b => !f b)
 have h3 := List.length_filter_le (· != 94) (lso f)
 unfold shw
 repeat' split
 all_goals first | omega | (simp only [List.length_cons, List.length_append, List.length_nil]; omega)
def swsF (fs : List (UInt8 → Bool)) : List UInt8 := if fs = [] then [46] else (fs.map shw).flatten
theorem patShow_none (w : World) :
  Calls Tryz.prog 158 #[.agg (patC [])] w fun e w' => e = .returned (.string ⟨#[46]⟩) ∧ Below w.heap.size w w' := by
 have h0 : (patC [])[0]? = some (.int .i64 0) := patC_zero []
 generalize patC [] = X at *
 go_enter Tryz.func158, Tryz.ntmps158
 go_wp2
 go_ret
 exact ⟨rfl, (Below.refl _ w).alloc (Nat.le_refl _) _⟩
theorem flat_succ {fs : List (UInt8 → Bool)} {k : Nat} (h : k < fs.length) : ((fs.take (k + 1)).map shw).flatten = ((fs.take k).map shw).flatten ++ shw fs[k] := by
 rw [List.take_succ_eq_append_getElem h, List.map_append, List.flatten_append]
 simp only [List.map_cons, List.map_nil, List.flatten_cons, List.flatten_nil, List.append_nil]
theorem flat_small (fs : List (UInt8 → Bool)) (k : Nat) : ((fs.take k).map shw).flatten.length ≤ 600 * k := by
 induction k with
 | zero => simp
 | succ k ih =>
  by_cases h : k < fs.length
  ·rw [flat_succ h, List.length_append]
   have := shw_len fs[k]
   omega
  ·rw [List.take_of_length_le (by omega)] at ih ⊢
   omega
theorem patShow_some (fs : List (UInt8 → Bool)) (w : World) (h16 : fs.length ≤ 16) (hne : fs ≠ []) :
  Calls Tryz.prog 158 #[.agg (patC fs)] w fun e w' => e = .returned (.string (str (fs.map shw).flatten)) ∧ Below w.heap.size w w' := by
 obtain ⟨n, hn⟩ : ∃ n, n = fs.length := ⟨_, rfl⟩
 have h0 : (patC fs)[0]? = some (.int .i64 n) := by rw [hn]; exact patC_zero fs
 have HF : Hid (∀ k, k < n → ∃ (f : UInt8 → Bool) (x0 x1 x2 x3 : Nat), (patC fs)[1 + k * 4]? = some (.int .u64 x0) ∧ (patC fs)[1 + k * 4 + 1]? = some (.int .u64 x1) ∧ (patC fs)[1 + k * 4 + 2]? = some (.int .u64 x2) ∧ (patC fs)[1 + k * 4 + 3]? = some (.int .u64 x3) ∧ (∀ W, Calls Tryz.prog 170 #[.agg #[.int .u64 x0, .int .u64 x1, .int .u64 x2, .int .u64 x3]] W fun e w' => e = .returned (.string (str (shw f))) ∧ Below W.heap.size W w') ∧ ((fs.take (k + 1)).map shw).flatten = ((fs.take k).map shw).flatten ++ shw f ∧ (shw f).length ≤ 600) := fun k h => by
  obtain ⟨c0, c1, c2, c3⟩ := patC_four fs (k := k) (by omega)
  exact ⟨fs[k], _, _, _, _, c0, c1, c2, c3, fun W => show_any fs[k] W, flat_succ (by omega), shw_len _⟩
 have HSM := hide (fun k => flat_small fs k)
 have HFU : Hid (∀ k, n ≤ k → ((fs.take k).map shw).flatten = (fs.map shw).flatten) := fun k h => by rw [List.take_of_length_le (by omega)]
 have hn0 : 1 ≤ n := by rw [hn]; exact List.length_pos_iff.2 hne
 have hnz : (n : Int) ≤ 16 := by omega
 have hn0b : ((n : Int) == 0) = false := by rw [beq_eq_false_iff_ne]; omega
 generalize (fs.map shw).flatten = RES at *
 generalize patC fs = X at *
 clear hn h16 hne
 go_enter Tryz.func158, Tryz.ntmps158
 go_wp2
 go_loopw [10] (fun i wr => ∃ k : Nat, k ≤ n ∧ i = .int .i64 k ∧ Hid (Lib.IsBuilderF 106 5 (w.heap.size + 1) (w.heap.size + 1) (Lib.byteCells ((fs.take k).map shw).flatten) wr) ∧ Hid (wr.heap[w.heap.size]? = some (.cells X 229 (0, 0))) ∧ Hid (Below w.heap.size w wr)) (fun i _ => n - (intOf i).toNat)
 case atStart =>
  refine ⟨0, by omega, rfl, ?_, heap_alloc2_old w _ _, ((Below.refl _ w).alloc (Nat.le_refl _) _).alloc (by simp) _⟩
  have := Lib.IsBuilderF.of (Lib.fresh_isBuilder 106 5 (w.alloc (.cells X 229)))
  simp only [World.size_alloc] at this
  exact this
 case round =>
  obtain ⟨k, hk, rfl, HI, HG, HB⟩ := hrel
  by_cases hlt : k < n
  ·have hltz : (k : Int) < (n : Int) := by omega
   obtain ⟨f, x0, x1, x2, x3, c0, c1, c2, c3, hsh, hst, hl⟩ := unhide HF k hlt
   have hc0 := (cell_of_row wr _ (1 + k * 4) X _ _ (unhide HG)).trans c0
   have hc1 := (cell_of_row wr _ (1 + k * 4 + 1) X _ _ (unhide HG)).trans c1
   have hc2 := (cell_of_row wr _ (1 + k * 4 + 2) X _ _ (unhide HG)).trans c2
   have hc3 := (cell_of_row wr _ (1 + k * 4 + 3) X _ _ (unhide HG)).trans c3
   have HSH := hide hsh
   have HST := hide hst
   have hacc := unhide HSM k
   have hsz := str_size (shw f)
   have HCS := hide (cells_str (shw f))
   have HLT : Hid (w.heap.size + 1 ≤ wr.heap.size) := (Array.getElem?_eq_some_iff.1 (unhide HG)).1
   generalize ((fs.take k).map shw).flatten = acc at *
   have HBC : Hid ((Lib.byteCells acc).length + (str (shw f)).size ≤ 140737488355328) := hide (by rw [Lib.byteCells_length]; omega)
   have HAP : Hid (Lib.byteCells acc ++ Lib.byteCells (shw f) = Lib.byteCells (acc ++ shw f)) := hide (by rw [Lib.byteCells_append])
   clear c0 c1 c2 c3 hsh hst hl hacc hsz
   generalize str (shw f) = T at *
   go_wp2_with fail
   refine (unhide HSH _).mono ?_
   rintro e w1 ⟨rfl, hb1⟩
   have HI1 := hide (builder_below (unhide HI) hb1)
   have HG1 := hide (keep_pat (unhide HG) hb1)
   have HB1 := hide ((unhide HB).trans (hb1.mono (unhide HB).size))
   have HLT1 : Hid (w.heap.size + 1 ≤ w1.heap.size) := hide (Nat.le_trans (unhide HLT) hb1.size)
   clear hb1
   go_wp2_with fail
   refine (Tryz.Builder_WriteString_k (w.heap.size + 1) (w.heap.size + 1) _ T _ (unhide HI1) (unhide HBC) (unhide HLT1)).mono ?_
   rintro e w2 ⟨rfl, h2, b2, _⟩
   rw [unhide HCS, unhide HAP, ← unhide HST] at h2
   have HI2 := hide h2
   have HG2 := hide ((b2.block w.heap.size (by omega)).trans (unhide HG1))
   have HB2 := hide ((unhide HB1).trans (b2.mono (by omega)))
   clear h2 b2
   go_wp2
   go_roundw
   case rel => exact ⟨k + 1, by omega, by go_num, Or.inr (unhide HI2), HG2, HB2⟩
   case measure => simp [intOf]; omega
  ·have hltz : ¬ (k : Int) < (n : Int) := by omega
   have HFF := hide (unhide HFU k (by omega))
   have HLT : Hid (w.heap.size + 1 ≤ wr.heap.size) := (Array.getElem?_eq_some_iff.1 (unhide HG)).1
   generalize ((fs.take k).map shw).flatten = acc at *
   go_wp2_with fail
   refine (Tryz.Builder_String_any_k (w.heap.size + 1) (w.heap.size + 1) acc _ (unhide HI) (unhide HLT)).mono ?_
   rintro e w2 ⟨rfl, _, b2, _⟩
   have HB2 := hide ((unhide HB).trans (b2.mono (by omega)))
   clear b2
   go_wp2
   go_ret
   exact ⟨by rw [← unhide HFF]; rfl, unhide HB2⟩
theorem patShow_any (fs : List (UInt8 → Bool)) (w : World) (h16 : fs.length ≤ 16) :
  Calls Tryz.prog 158 #[.agg (patC fs)] w fun e w' => e = .returned (.string (str (swsF fs))) ∧ Below w.heap.size w w' := by
 unfold swsF
 by_cases h : fs = []
 ·rw [if_pos h, h]
  exact patShow_none w
 ·rw [if_neg h]
  exact patShow_some fs w h16 h
end Pt
namespace Af

abbrev Bs := List UInt8
abbrev Er := Nat × Nat
structure Cls where
 flag : Int
 kind : Int
 cross : Bool
 first : Nat
 count : Nat
structure Rul where
 kind : Int
 flag : Int
 cross : Bool
 strip : Bs
 add : Bs
 cond : Bs
 next : List Int
 line : Nat
structure Fil where
 kind : Int
 charset : Bs
 letters : Bs
 specials : List Int
 least : Nat
 reps : List (Bs × Bs)
 aliases : List (List Int)
 classes : List Cls
 rules : List Rul
structure Rdr where
 file : Fil
 rows : List (Nat × List Bs)
 line : Nat
 behind : Nat
 heads : List Bs

def ckB (l : Nat) (t : Bs) : Except Er Unit := if VlW.okB t = true then .ok () else .error (l, 21)
def ckA (l : Nat) (t : Bs) : Except Er Unit := if VlW.okB t = true then (if 32 < t.length then .error (l, 22) else .ok ()) else .error (l, 21)
def piece (l : Nat) (f : Bs) : Except Er Bs :=
 match Wd.rd [] f with
 | none => .error (l, 20)
 | some (a, _, c) => if c = true then .error (l, 114) else match ckA l a with
  | .error e => .error e
  | .ok _ => .ok a
def piece0 (l : Nat) (f : Bs) : Except Er Bs := if f = [48] then .ok [] else piece l f

def flgN (F : Fil) (s : Bs) : Nat := (Num.numN s F.aliases.length).toNat
def flgE (F : Fil) (s : Bs) : Int := if F.aliases = [] then So.rE F.kind s else if Num.numE s F.aliases.length = 0 ∧ flgN F s ≠ 0 then 0 else 13
def flgS (F : Fil) (s : Bs) : List Int := if F.aliases = [] then So.rS F.kind s else if Num.numE s F.aliases.length = 0 ∧ flgN F s ≠ 0 then (F.aliases[flgN F s - 1]?).getD [] else []
def findC : List Cls → Int → Option Nat
 | [], _ => none
 | c :: t, x => if c.flag = x then some 0 else (findC t x).map (· + 1)
def newFlag (R : Rdr) (f : Bs) : Except Er Int :=
 if One.oneE R.file.kind f ≠ 0 then .error (R.line, (One.oneE R.file.kind f).toNat)
 else if (findC R.file.classes (One.oneF R.file.kind f)).isSome ∨ One.oneF R.file.kind f ∈ R.file.specials then .error (R.line, 115)
 else .ok (One.oneF R.file.kind f)

def numb (l : Nat) (f : Bs) (most : Nat) : Except Er Nat := if Num.numE f most = 0 then .ok (Num.numN f most).toNat else .error (l, 13)

def grow (R : Rdr) (beg : List Bs) : Except Er (List Bs × Rdr) :=
 match R.rows with
 | [] => .error (R.behind, 116)
 | (l, row) :: t => if row.take beg.length = beg then .ok (row, { R with rows := t, line := l }) else .error (l, 116)
def fld (row : List Bs) (i : Nat) : Bs := (row[i]?).getD []
def repRow (l : Nat) (row : List Bs) : Except Er (Bs × Bs) :=
 if row.length ≠ 3 then .error (l, 111) else match piece l (fld row 1) with
 | .error e => .error e
 | .ok a => match piece0 l (fld row 2) with
  | .error e => .error e
  | .ok b => .ok (a, b)
def repStep (key : Bs) (R : Rdr) : Except Er Rdr :=
 match grow R [key] with
 | .error e => .error e
 | .ok (row, R1) => match repRow R1.line row with
  | .error e => .error e
  | .ok p => .ok { R1 with file := { R1.file with reps := R1.file.reps ++ [p] } }
def aliRow (F : Fil) (l : Nat) (row : List Bs) : Except Er (List Int) :=
 if row.length ≠ 2 then .error (l, 111) else if So.rE F.kind (fld row 1) ≠ 0 then .error (l, (So.rE F.kind (fld row 1)).toNat) else .ok (So.rS F.kind (fld row 1))
def aliStep (key : Bs) (R : Rdr) : Except Er Rdr :=
 match grow R [key] with
 | .error e => .error e
 | .ok (row, R1) => match aliRow R1.file R1.line row with
  | .error e => .error e
  | .ok p => .ok { R1 with file := { R1.file with aliases := R1.file.aliases ++ [p] } }
def addW (l : Nat) (a : Bs) : Except Er Bs := if a = [48] then .ok [] else match ckA l a with
 | .error e => .error e
 | .ok _ => .ok a
def added (F : Fil) (l : Nat) (kind : Int) (f : Bs) : Except Er (Bs × List Int) :=
 match Wd.rd [] f with
 | none => .error (l, 20)
 | some (a, r, c) => match addW l a with
  | .error e => .error e
  | .ok d => if c = false then .ok (d, []) else if kind = 1 then .error (l, 118) else if flgE F r ≠ 0 then .error (l, (flgE F r).toNat) else .ok (d, flgS F r)
def condn (l : Nat) (f : Bs) : Except Er Bs := match ckB l f with
 | .error e => .error e
 | .ok _ => if (Cd.rd f).2 ≠ 0 then .error (l, (Cd.rd f).2) else .ok (Cd.sws (Cd.rd f).1)
def rule (F : Fil) (l : Nat) (c : Cls) (row : List Bs) : Except Er Rul :=
 if row.length ≠ 4 ∧ row.length ≠ 5 then .error (l, 111) else match piece0 l (fld row 2) with
 | .error e => .error e
 | .ok s => match added F l c.kind (fld row 3) with
  | .error e => .error e
  | .ok p => if row.length = 5 then (match condn l (fld row 4) with
    | .error e => .error e
    | .ok k => .ok ⟨c.kind, c.flag, c.cross, s, p.1, k, p.2, l⟩) else .ok ⟨c.kind, c.flag, c.cross, s, p.1, [46], p.2, l⟩
def rulStep (beg : List Bs) (c : Cls) (R : Rdr) : Except Er Rdr :=
 match grow R beg with
 | .error e => .error e
 | .ok (row, R1) => match rule R1.file R1.line c row with
  | .error e => .error e
  | .ok p => .ok { R1 with file := { R1.file with rules := R1.file.rules ++ [p] } }
def times (f : Rdr → Except Er Rdr) : Nat → Rdr → Except Er Rdr
 | 0, R => .ok R
 | n + 1, R => match f R with
  | .error e => .error e
  | .ok R' => times f n R'

inductive Key where
 | kind | charset | letters | special (i : Nat) | least | reps | aliases | cls (k : Int)
structure Kw where
 fields : Nat
 again : Bool
 key : Key
def kws : List (Bs × Kw) := [
 ([70, 76, 65, 71], ⟨2, false, .kind⟩),
 ([83, 69, 84], ⟨2, false, .charset⟩),
 ([84, 82, 89], ⟨2, false, .letters⟩),
 ([78, 69, 69, 68, 65, 70, 70, 73, 88], ⟨2, false, .special 0⟩),
 ([70, 79, 82, 66, 73, 68, 68, 69, 78, 87, 79, 82, 68], ⟨2, false, .special 1⟩),
 ([75, 69, 69, 80, 67, 65, 83, 69], ⟨2, false, .special 2⟩),
 ([67, 79, 77, 80, 79, 85, 78, 68, 70, 76, 65, 71], ⟨2, false, .special 3⟩),
 ([78, 79, 83, 85, 71, 71, 69, 83, 84], ⟨2, false, .special 4⟩),
 ([67, 79, 77, 80, 79, 85, 78, 68, 77, 73, 78], ⟨2, false, .least⟩),
 ([82, 69, 80], ⟨2, false, .reps⟩),
 ([65, 70], ⟨2, false, .aliases⟩),
 ([80, 70, 88], ⟨4, true, .cls 1⟩),
 ([83, 70, 88], ⟨4, true, .cls 2⟩)]
def kwOf (n : Bs) : Option Kw := (kws.find? fun p => p.1 == n).map (·.2)
def doKind (R : Rdr) (f : Bs) : Except Er Rdr :=
 if (∃ x ∈ R.file.specials, x ≠ 0) ∨ [65, 70] ∈ R.heads ∨ R.file.classes ≠ [] then .error (R.line, 113)
 else if f = [115, 104, 111, 114, 116] then .ok { R with file := { R.file with kind := 1 } }
 else if f = [108, 111, 110, 103] then .ok { R with file := { R.file with kind := 2 } }
 else if f = [110, 117, 109] then .ok { R with file := { R.file with kind := 3 } }
 else .error (R.line, 114)
def doCharset (R : Rdr) (f : Bs) : Except Er Rdr := if VlW.okB f = true then .ok { R with file := { R.file with charset := f } } else .error (R.line, 21)
def doLetters (R : Rdr) (f : Bs) : Except Er Rdr := if VlW.okB f = true then .ok { R with file := { R.file with letters := Wd.uq [] f } } else .error (R.line, 21)
def doSpecial (i : Nat) (R : Rdr) (f : Bs) : Except Er Rdr := match newFlag R f with
 | .error e => .error e
 | .ok x => .ok { R with file := { R.file with specials := R.file.specials.set i x } }
def doLeast (R : Rdr) (f : Bs) : Except Er Rdr := match numb R.line f 64 with
 | .error e => .error e
 | .ok n => if n = 0 then .error (R.line, 13) else .ok { R with file := { R.file with least := n } }
def doReps (R : Rdr) (h : List Bs) : Except Er Rdr := match numb R.line (fld h 1) 256 with
 | .error e => .error e
 | .ok n => times (repStep (fld h 0)) n R
def doAliases (R : Rdr) (h : List Bs) : Except Er Rdr := if R.file.classes ≠ [] then .error (R.line, 113) else match numb R.line (fld h 1) 1024 with
 | .error e => .error e
 | .ok n => times (aliStep (fld h 0)) n R
def doClass (k : Int) (R : Rdr) (h : List Bs) : Except Er Rdr := match newFlag R (fld h 1) with
 | .error e => .error e
 | .ok x => if fld h 2 ≠ [89] ∧ fld h 2 ≠ [78] then .error (R.line, 114) else match numb R.line (fld h 3) 1024 with
  | .error e => .error e
  | .ok n => if 1024 < R.file.rules.length + n then .error (R.line, 117)
   else times (rulStep [fld h 0, fld h 1] ⟨x, k, fld h 2 == [89], R.file.rules.length, n⟩) n { R with file := { R.file with classes := R.file.classes ++ [⟨x, k, fld h 2 == [89], R.file.rules.length, n⟩] } }
def doKey (R : Rdr) (h : List Bs) : Key → Except Er Rdr
 | .kind => doKind R (fld h 1)
 | .charset => doCharset R (fld h 1)
 | .letters => doLetters R (fld h 1)
 | .special i => doSpecial i R (fld h 1)
 | .least => doLeast R (fld h 1)
 | .reps => doReps R h
 | .aliases => doAliases R h
 | .cls k => doClass k R h
def heading (R : Rdr) (l : Nat) (h : List Bs) : Except Er Rdr := match kwOf (fld h 0) with
 | none => .error (l, 110)
 | some k => if h.length ≠ k.fields then .error (l, 111) else if k.again = false ∧ fld h 0 ∈ R.heads then .error (l, 112)
  else match doKey { R with line := l } h k.key with
   | .error e => .error e
   | .ok R' => .ok { R' with heads := R'.heads ++ [fld h 0] }
def heads : Nat → Rdr → Except Er Rdr
 | 0, R => .ok R
 | n + 1, R => match R.rows with
  | [] => .ok R
  | (l, h) :: t => match heading { R with rows := t } l h with
   | .error e => .error e
   | .ok R' => heads n R'
def goesOn (F : Fil) (x : Int) : Bool := (match findC F.classes x with
 | some i => ((F.classes[i]?).map (·.kind)) == some 2
 | none => false) || some x == F.specials[0]?
def nexts (F : Fil) : Option Nat := (F.rules.find? fun r => !(r.next.all (goesOn F))).map (·.line)
def start (l : Bs) : Rdr := ⟨⟨1, [], [], [0, 0, 0, 0, 0], 3, [], [], [], []⟩, Rw.rowsOf l, 0, (Ln.linesOf l).length + 1, []⟩
def affR (l : Bs) : Except Er Fil := if 65536 < l.length then .error (0, 10) else match heads (Rw.rowsOf l).length (start l) with
 | .error e => .error e
 | .ok R => match nexts R.file with
  | some k => .error (k, 118)
  | none => .ok R.file

theorem hide {p : Prop} (h : p) : Hid p := h
theorem unhide {p : Prop} (h : Hid p) : p := h

def chn (e : Er) : List PanicEntry := [{ v := .iface 31 (.agg #[.int .i64 1, .int .i64 (e.1 : Nat), .int .i64 (e.2 : Nat)]), recovered := false }]
def endX {α : Type} (f : α → Value) : Except Er α → Ending
 | .ok x => .returned (f x)
 | .error e => .panicked (chn e)
theorem okOf {α : Type} {g : FuncId} {args : Array Value} {w : World} {f : α → Value} {r : Except Er α} {x : α} {Q : World → Prop} (h : Calls Tryz.prog g args w fun e w' => e = endX f r ∧ Q w') (hr : r = .ok x) : Calls Tryz.prog g args w fun e w' => e = .returned (f x) ∧ Q w' :=
 h.mono (by rintro e w' ⟨rfl, q⟩; rw [hr]; exact ⟨rfl, q⟩)
theorem noOf {α : Type} {g : FuncId} {args : Array Value} {w : World} {f : α → Value} {r : Except Er α} {x : Er} {Q : World → Prop} (h : Calls Tryz.prog g args w fun e w' => e = endX f r ∧ Q w') (hr : r = .error x) : Calls Tryz.prog g args w fun e w' => e = .panicked (chn x) ∧ Q w' :=
 h.mono (by rintro e w' ⟨rfl, q⟩; rw [hr]; exact ⟨rfl, q⟩)
def unitV : Unit → Value := fun _ => .tuple #[]
def strV (s : Bs) : Value := .string (Wd.str s)
abbrev LineAt (w : World) (rb l : Nat) : Prop := w.cell? ⟨rb, 2, none⟩ = some (.int .i64 (l : Nat))

theorem leave_ok (v : Value) (w : World) : Calls Tryz.prog 72 #[v, .int .i64 0] w fun e w' => e = .returned (.tuple #[]) ∧ w' = w := by
 go_enter Tryz.func72, Tryz.ntmps72
 go_wp2
 go_end0
 exact ⟨rfl, rfl⟩
theorem leave_no (rb l : Nat) (c : Int) (w : World) (hc : c ≠ 0) (h0 : 0 ≤ c) (hl : LineAt w rb l) : Calls Tryz.prog 72 #[.pointer (some ⟨rb, 0, none⟩), .int .i64 c] w fun e w' => e = .panicked (chn (l, c.toNat)) ∧ w' = w := by
 have hq : (c != 0) = true := by simpa using hc
 have HE : Hid (chn (l, c.toNat) = [{ v := .iface 31 (.agg #[.int .i64 1, .int .i64 (l : Nat), .int .i64 c]), recovered := false }]) := by
  rw [Hid, chn]
  simp only [Int.toNat_of_nonneg h0]
 rw [unhide HE]
 clear HE hc
 unfold LineAt at hl
 go_enter Tryz.func72, Tryz.ntmps72
 go_wp2
 exact ⟨rfl, rfl, rfl⟩
theorem leaveIf_ok (v : Value) (c : Int) (w : World) : Calls Tryz.prog 82 #[v, .bool false, .int .i64 c] w fun e w' => e = .returned (.tuple #[]) ∧ w' = w := by
 go_enter Tryz.func82, Tryz.ntmps82
 go_wp2
 go_end0
 exact ⟨rfl, rfl⟩
theorem leaveIf_no (rb l : Nat) (c : Int) (w : World) (hc : c ≠ 0) (h0 : 0 ≤ c) (hl : LineAt w rb l) : Calls Tryz.prog 82 #[.pointer (some ⟨rb, 0, none⟩), .bool true, .int .i64 c] w fun e w' => e = .panicked (chn (l, c.toNat)) ∧ w' = w := by
 have HL := hide (leave_no rb l c w hc h0 hl)
 clear hc h0 hl
 go_enter Tryz.func82, Tryz.ntmps82
 go_wp2_with (go_at_call 72; refine (unhide HL).mono ?_; rintro e w2 ⟨rfl, rfl⟩)
 exact ⟨rfl, rfl, rfl⟩
theorem leaveIf_f (v : Value) (b : Bool) (c : Int) (w : World) (h : b = false) : Calls Tryz.prog 82 #[v, .bool b, .int .i64 c] w fun e w' => e = .returned (.tuple #[]) ∧ w' = w := by
 subst h
 exact leaveIf_ok v c w
theorem leaveIf_t (rb l : Nat) (b : Bool) (c : Int) (w : World) (h : b = true) (hc : c ≠ 0) (h0 : 0 ≤ c) (hl : LineAt w rb l) : Calls Tryz.prog 82 #[.pointer (some ⟨rb, 0, none⟩), .bool b, .int .i64 c] w fun e w' => e = .panicked (chn (l, c.toNat)) ∧ w' = w := by
 subst h
 exact leaveIf_no rb l c w hc h0 hl
theorem lineB {w w' : World} {rb l : Nat} (h : LineAt w rb l) (hb : rb < w.heap.size) (c : Below w.heap.size w w') : LineAt w' rb l := (c.cell (p := ⟨rb, 2, none⟩) hb).trans h
theorem btr {a b c : World} (h : Below a.heap.size a b) (k : Below b.heap.size b c) : Below a.heap.size a c := h.trans (k.mono h.size)
abbrev ptr (rb : Nat) : Value := .pointer (some ⟨rb, 0, none⟩)

theorem checkBytes_any (rb l : Nat) (s : ByteArray) (w : World) (hs : s.size ≤ 65536) (hb : rb < w.heap.size) (hl : LineAt w rb l) :
  Calls Tryz.prog 97 #[ptr rb, .string s] w fun e w' => e = endX unitV (ckB l s.data.toList) ∧ Below w.heap.size w w' := by
 unfold ckB
 cases ho : VlW.okB s.data.toList with
 | true =>
  have HT := hide (LtW.letters_ok s w (by omega) ho)
  have HV := hide (fun W => leave_ok (ptr rb) W)
  clear ho hl
  go_enter Tryz.func97, Tryz.ntmps97
  go_wp2_with (first | (go_at_call 99; refine (unhide HT).mono ?_; rintro e w2 ⟨rfl, b2⟩) | (go_at_call 72; refine (unhide HV _).mono ?_; rintro e w3 ⟨rfl, rfl⟩))
  go_end0
  exact ⟨rfl, b2⟩
 | false =>
  have HT := hide (LtR.letters_bad s w (by omega) ho)
  have HV := hide (leave_no rb l 21 w (by decide) (by decide) hl)
  clear ho hl
  go_enter Tryz.func97, Tryz.ntmps97
  go_wp2_with (first | (go_at_call 99; refine (unhide HT).mono ?_; rintro e w2 ⟨rfl, rfl⟩) | (go_at_call 72; refine (unhide HV).mono ?_; rintro e w3 ⟨rfl, rfl⟩))
  exact ⟨rfl, rfl, Below.refl _ _⟩
theorem ckB_ok {l : Nat} {t : Bs} (h : VlW.okB t = true) : ckB l t = .ok () := by unfold ckB; rw [if_pos h]
theorem ckB_no {l : Nat} {t : Bs} (h : VlW.okB t = false) : ckB l t = .error (l, 21) := by unfold ckB; rw [if_neg (by rw [h]; decide)]
theorem ckA_ok {l : Nat} {t : Bs} (h : VlW.okB t = true) (h2 : ¬ 32 < t.length) : ckA l t = .ok () := by unfold ckA; rw [if_pos h, if_neg h2]
theorem ckA_long {l : Nat} {t : Bs} (h : VlW.okB t = true) (h2 : 32 < t.length) : ckA l t = .error (l, 22) := by unfold ckA; rw [if_pos h, if_pos h2]
theorem ckA_no {l : Nat} {t : Bs} (h : VlW.okB t = false) : ckA l t = .error (l, 21) := by unfold ckA; rw [if_neg (by rw [h]; decide)]
theorem checkAffix_any (rb l : Nat) (s : ByteArray) (w : World) (hs : s.size ≤ 65536) (hb : rb < w.heap.size) (hl : LineAt w rb l) :
  Calls Tryz.prog 132 #[ptr rb, .string s] w fun e w' => e = endX unitV (ckA l s.data.toList) ∧ Below w.heap.size w w' := by
 have hB := checkBytes_any rb l s w hs hb hl
 have hz : s.data.toList.length = s.size := by simp
 cases ho : VlW.okB s.data.toList with
 | true =>
  have HB := hide (okOf hB (ckB_ok ho))
  clear hB
  by_cases hq : 32 < s.size
  ·have hqi : (32 : Int) < (s.size : Int) := by omega
   have HV := hide (fun w2 (b2 : Below w.heap.size w w2) => leaveIf_no rb l 22 w2 (by decide) (by decide) (lineB hl hb b2))
   rw [ckA_long ho (by omega)]
   clear ho hl hz hq hs
   go_enter Tryz.func132, Tryz.ntmps132
   go_wp2_with (first | (go_at_call 97; refine (unhide HB).mono ?_; rintro e w2 ⟨rfl, b2⟩) | (go_at_call 82; refine (unhide HV _ b2).mono ?_; rintro e w3 ⟨rfl, rfl⟩))
   exact ⟨rfl, rfl, b2⟩
  ·have hqi : ¬ (32 : Int) < (s.size : Int) := by omega
   rw [ckA_ok ho (by omega)]
   clear ho hl hz hq hs
   go_enter Tryz.func132, Tryz.ntmps132
   go_wp2_with (first | (go_at_call 97; refine (unhide HB).mono ?_; rintro e w2 ⟨rfl, b2⟩) | (go_at_call 82; refine (leaveIf_f _ _ _ _ (by simp; omega)).mono ?_; rintro e w3 ⟨rfl, rfl⟩))
   go_end0
   exact ⟨rfl, b2⟩
 | false =>
  have HB := hide (noOf hB (ckB_no ho))
  rw [ckA_no ho]
  clear ho hl hz hB
  go_enter Tryz.func132, Tryz.ntmps132
  go_wp2_with (first | (go_at_call 97; refine (unhide HB).mono ?_; rintro e w2 ⟨rfl, b2⟩))
  exact ⟨rfl, rfl, b2⟩
theorem number_any (rb l : Nat) (s : ByteArray) (m : Nat) (w : World) (hs : s.size ≤ 65536) (hm : m ≤ 65536) (hl : LineAt w rb l) :
  Calls Tryz.prog 101 #[ptr rb, .string s, .int .i64 (m : Nat)] w fun e w' => e = endX (fun n => .int .i64 ((n : Nat) : Int)) (numb l s.data.toList m) ∧ w' = w := by
 have HN := hide (fun W => NumW.number_any s (m : Int) W (by unfold maxLen; omega) (by omega) (by omega))
 unfold numb
 have hn0 : 0 ≤ Num.numN s.data.toList (m : Int) := by unfold Num.numN; split <;> omega
 by_cases ho : Num.numE s.data.toList (m : Int) = 0
 ·rw [if_pos ho]
  rw [ho] at HN
  have HV := hide (fun W => leave_ok (ptr rb) W)
  have HE : Hid ((((Num.numN s.data.toList (m : Int)).toNat : Nat) : Int) = Num.numN s.data.toList (m : Int)) := Int.toNat_of_nonneg hn0
  show Calls _ _ _ _ fun e w' => e = .returned (.int .i64 (((Num.numN s.data.toList (m : Int)).toNat : Nat) : Int)) ∧ w' = w
  rw [unhide HE]
  clear ho hl hn0 HE
  go_enter Tryz.func101, Tryz.ntmps101
  go_wp2_with (first | (go_at_call 90; refine (unhide HN _).mono ?_; rintro e w2 ⟨rfl, rfl⟩) | (go_at_call 72; refine (unhide HV _).mono ?_; rintro e w3 ⟨rfl, rfl⟩))
  go_ret
  exact ⟨rfl, rfl⟩
 ·rw [if_neg ho]
  have he : Num.numE s.data.toList (m : Int) = 13 := by
   unfold Num.numE at ho ⊢
   split at ho
   ·exact absurd rfl ho
   ·rename_i hg
    rw [if_neg hg]
  rw [he] at HN
  have HV := hide (leave_no rb l 13 w (by decide) (by decide) hl)
  clear ho hl hn0 he
  go_enter Tryz.func101, Tryz.ntmps101
  go_wp2_with (first | (go_at_call 90; refine (unhide HN _).mono ?_; rintro e w2 ⟨rfl, rfl⟩) | (go_at_call 72; refine (unhide HV).mono ?_; rintro e w3 ⟨rfl, rfl⟩))
  exact ⟨rfl, rfl, rfl⟩


theorem rd_len : ∀ (acc l : Bs) {a r : Bs} {c : Bool}, Wd.rd acc l = some (a, r, c) → a.length ≤ acc.length + l.length ∧ r.length ≤ l.length
 | acc, [], a, r, c, h => by
  simp only [Wd.rd, Option.some.injEq, Prod.mk.injEq] at h
  obtain ⟨rfl, rfl, _⟩ := h
  simp
 | acc, [x], a, r, c, h => by
  simp only [Wd.rd] at h
  split at h
  ·simp only [Option.some.injEq, Prod.mk.injEq] at h
   obtain ⟨rfl, rfl, _⟩ := h
   simp
  ·split at h
   ·cases h
   ·simp only [Option.some.injEq, Prod.mk.injEq] at h
    obtain ⟨rfl, rfl, _⟩ := h
    simp
 | acc, x :: d :: u, a, r, c, h => by
  simp only [Wd.rd] at h
  split at h
  ·simp only [Option.some.injEq, Prod.mk.injEq] at h
   obtain ⟨rfl, rfl, _⟩ := h
   simp
  ·split at h
   ·split at h
    ·have := rd_len (acc ++ [d]) u h
     simp at this ⊢
     omega
    ·cases h
   ·have := rd_len (acc ++ [x]) (d :: u) h
    simp at this ⊢
    omega
theorem rd_len0 {s : ByteArray} {a r : Bs} {c : Bool} (h : Wd.rd [] s.data.toList = some (a, r, c)) : (Wd.str a).size ≤ s.size ∧ (Wd.str r).size ≤ s.size := by
 have := rd_len [] _ h
 simp at this
 rw [Wd.str_size, Wd.str_size]
 exact this
theorem piece_esc {l : Nat} {f : Bs} (h : Wd.rd [] f = none) : piece l f = .error (l, 20) := by unfold piece; rw [h]
theorem piece_cut {l : Nat} {f a r : Bs} (h : Wd.rd [] f = some (a, r, true)) : piece l f = .error (l, 114) := by unfold piece; rw [h]; rfl
theorem piece_no {l : Nat} {f a r : Bs} {e : Er} (h : Wd.rd [] f = some (a, r, false)) (hc : ckA l a = .error e) : piece l f = .error e := by
 unfold piece
 rw [h]
 simp [hc]
theorem piece_ok {l : Nat} {f a r : Bs} {u : Unit} (h : Wd.rd [] f = some (a, r, false)) (hc : ckA l a = .ok u) : piece l f = .ok a := by
 unfold piece
 rw [h]
 simp [hc]
theorem piece_any (rb l : Nat) (s : ByteArray) (w : World) (hs : s.size ≤ 65536) (hb : rb < w.heap.size) (hl : LineAt w rb l) :
  Calls Tryz.prog 103 #[ptr rb, .string s] w fun e w' => e = endX strV (piece l s.data.toList) ∧ Below w.heap.size w w' := by
 have hR := RdW.read_any s w (by omega)
 rcases hr : Wd.rd [] s.data.toList with _ | ⟨a, r, c⟩
 ·rw [piece_esc hr]
  rw [hr] at hR
  have HR := hide hR
  have HV := hide (fun w2 (b2 : Below w.heap.size w w2) => leave_no rb l 20 w2 (by decide) (by decide) (lineB hl hb b2))
  clear hR hl hr hs
  unfold RdW.ans at HR
  go_enter Tryz.func103, Tryz.ntmps103
  go_wp2_with (first | (go_at_call 113; refine (unhide HR).mono ?_; rintro e w2 ⟨rfl, b2⟩) | (go_at_call 72; refine (unhide HV _ b2).mono ?_; rintro e w3 ⟨rfl, rfl⟩))
  exact ⟨rfl, rfl, b2⟩
 ·rw [hr] at hR
  have HR := hide hR
  unfold RdW.ans at HR
  have hz := rd_len0 hr
  have HL := hide (fun W => leave_ok (ptr rb) W)
  cases c with
  | true =>
   rw [piece_cut hr]
   have HV := hide (fun w2 (b2 : Below w.heap.size w w2) => leaveIf_no rb l 114 w2 (by decide) (by decide) (lineB hl hb b2))
   clear hR hl hr hs hz
   go_enter Tryz.func103, Tryz.ntmps103
   go_wp2_with (first | (go_at_call 113; refine (unhide HR).mono ?_; rintro e w2 ⟨rfl, b2⟩) | (go_at_call 72; refine (unhide HL _).mono ?_; rintro e w3 ⟨rfl, rfl⟩) | (go_at_call 82; refine (unhide HV _ b2).mono ?_; rintro e w3 ⟨rfl, rfl⟩))
   exact ⟨rfl, rfl, b2⟩
  | false =>
   have HI := hide (fun W => leaveIf_ok (ptr rb) 114 W)
   have hA := fun w2 (b2 : Below w.heap.size w w2) => checkAffix_any rb l (Wd.str a) w2 (by omega) (Nat.lt_of_lt_of_le hb b2.size) (lineB hl hb b2)
   rw [Wd.str_list] at hA
   cases hc : ckA l a with
   | error er =>
    have HA := hide (fun w2 b2 => noOf (hA w2 b2) hc)
    rw [piece_no hr hc]
    clear hR hl hr hs hz hA hc
    go_enter Tryz.func103, Tryz.ntmps103
    go_wp2_with (first | (go_at_call 113; refine (unhide HR).mono ?_; rintro e w2 ⟨rfl, b2⟩) | (go_at_call 72; refine (unhide HL _).mono ?_; rintro e w3 ⟨rfl, rfl⟩) | (go_at_call 82; refine (unhide HI _).mono ?_; rintro e w3 ⟨rfl, rfl⟩) | (go_at_call 132; refine (unhide HA _ b2).mono ?_; rintro e w4 ⟨rfl, b4⟩))
    exact ⟨rfl, rfl, btr b2 b4⟩
   | ok u =>
    have HA := hide (fun w2 b2 => okOf (hA w2 b2) hc)
    rw [piece_ok hr hc]
    clear hR hl hr hs hz hA hc
    go_enter Tryz.func103, Tryz.ntmps103
    go_wp2_with (first | (go_at_call 113; refine (unhide HR).mono ?_; rintro e w2 ⟨rfl, b2⟩) | (go_at_call 72; refine (unhide HL _).mono ?_; rintro e w3 ⟨rfl, rfl⟩) | (go_at_call 82; refine (unhide HI _).mono ?_; rintro e w3 ⟨rfl, rfl⟩) | (go_at_call 132; refine (unhide HA _ b2).mono ?_; rintro e w4 ⟨rfl, b4⟩))
    go_ret
    exact ⟨rfl, btr b2 b4⟩
theorem eq48 (s : ByteArray) (h : s.data.toList = [48]) : s = ⟨#[48]⟩ := by
 have : s = Wd.str s.data.toList := (Wd.str_self s).symm
 rw [this, h]
 rfl
theorem piece0_any (rb l : Nat) (s : ByteArray) (w : World) (hs : s.size ≤ 65536) (hb : rb < w.heap.size) (hl : LineAt w rb l) :
  Calls Tryz.prog 104 #[ptr rb, .string s] w fun e w' => e = endX strV (piece0 l s.data.toList) ∧ Below w.heap.size w w' := by
 by_cases h : s.data.toList = [48]
 ·rw [show piece0 l s.data.toList = .ok [] from if_pos h]
  rw [eq48 s h]
  clear h hl
  go_enter Tryz.func104, Tryz.ntmps104
  go_wp2
  go_ret
  exact ⟨rfl, Below.refl _ _⟩
 ·rw [show piece0 l s.data.toList = piece l s.data.toList from if_neg h]
  have hne : (s.toList == [48]) = false := by
   rw [beq_eq_false_iff_ne, Lib.toList_data]
   exact h
  have hP := piece_any rb l s w hs hb hl
  cases hp : piece l s.data.toList with
  | error er =>
   have HP := hide (noOf hP hp)
   clear hP hp hl h hs
   go_enter Tryz.func104, Tryz.ntmps104
   go_wp2_with (go_at_call 103; refine (unhide HP).mono ?_; rintro e w2 ⟨rfl, b2⟩)
   exact ⟨rfl, rfl, b2⟩
  | ok x =>
   have HP := hide (okOf hP hp)
   clear hP hp hl h hs
   go_enter Tryz.func104, Tryz.ntmps104
   go_wp2_with (go_at_call 103; refine (unhide HP).mono ?_; rintro e w2 ⟨rfl, b2⟩)
   go_ret
   exact ⟨rfl, b2⟩
open Pt
theorem sws_eq (P : List (List UInt8)) : swsF (P.map Cd.adm) = Cd.sws P := by
 unfold swsF Cd.sws
 cases P with
 | nil => rfl
 | cons a t => simp; rfl
theorem condn_no {l : Nat} {f : Bs} {e : Er} (h : ckB l f = .error e) : condn l f = .error e := by unfold condn; rw [h]
theorem condn_bad {l : Nat} {f : Bs} {u : Unit} (h : ckB l f = .ok u) (h2 : (Cd.rd f).2 ≠ 0) : condn l f = .error (l, (Cd.rd f).2) := by unfold condn; rw [h]; simp [h2]
theorem condn_ok {l : Nat} {f : Bs} {u : Unit} (h : ckB l f = .ok u) (h2 : (Cd.rd f).2 = 0) : condn l f = .ok (Cd.sws (Cd.rd f).1) := by unfold condn; rw [h]; simp [h2]
attribute [local go_sem ↓] load_as
attribute [local go_sem] ldP_new ldP_drew
theorem condition_any (rb l : Nat) (s : ByteArray) (w : World) (hs : s.size ≤ 65536) (hb : rb < w.heap.size) (hl : LineAt w rb l) :
  Calls Tryz.prog 137 #[ptr rb, .string s] w fun e w' => e = endX strV (condn l s.data.toList) ∧ Below w.heap.size w w' := by
 have hB := checkBytes_any rb l s w hs hb hl
 cases hk : ckB l s.data.toList with
 | error er =>
  have HB := hide (noOf hB hk)
  rw [condn_no hk]
  clear hB hk hl hs
  go_enter Tryz.func137, Tryz.ntmps137
  go_wp2_with (go_at_call 97; refine (unhide HB).mono ?_; rintro e w2 ⟨rfl, b2⟩)
  exact ⟨rfl, rfl, b2⟩
 | ok u =>
  have HB := hide (okOf hB hk)
  have HR := hide (fun W => Pt.read_any s W)
  unfold rdV at HR
  have hX := sz_pat s.data.toList
  have hstn := fun W => store_new W _ hX (patC_one _)
  have hz := zero_pat
  have hS := fun W => patShow_any (rdP s.data.toList) W (rdP_len _)
  have hsw : swsF (rdP s.data.toList) = Cd.sws (Cd.rd s.data.toList).1 := sws_eq _
  rw [hsw] at hS
  have HS := hide hS
  have e1 : (Cd.rd s.data.toList).1.map Cd.adm = rdP s.data.toList := rfl
  rw [e1] at HR
  clear hB hS hsw e1
  by_cases h0 : (Cd.rd s.data.toList).2 = 0
  ·rw [condn_ok hk h0]
   rw [h0] at HR
   have HL := hide (fun W => leave_ok (ptr rb) W)
   clear h0 hl hs hk
   generalize patC (rdP s.data.toList) = X at *
   generalize patC [] = Z at *
   go_enter Tryz.func137, Tryz.ntmps137
   go_wp2_with (first | (go_at_call 97; refine (unhide HB).mono ?_; rintro e w2 ⟨rfl, b2⟩; have HB2 := hide b2; clear b2) | (go_at_call 157; refine (unhide HR _).mono ?_; rintro e w3 ⟨rfl, b3⟩; have HB3 := hide b3; clear b3) | (go_at_call 72; refine (unhide HL _).mono ?_; rintro e w4 ⟨rfl, rfl⟩) | (go_at_call 158; refine (unhide HS _).mono ?_; rintro e w5 ⟨rfl, b5⟩; have HB5 := hide b5; clear b5))
   go_ret
   have b3 := btr (unhide HB2) (unhide HB3)
   have b4 := b3.alloc b3.size (.cells X 229)
   exact ⟨rfl, btr b4 (unhide HB5)⟩
  ·rw [condn_bad hk h0]
   have HL := hide (fun w2 (b2 : Below w.heap.size w w2) => leave_no rb l ((Cd.rd s.data.toList).2 : Int) w2 (by omega) (by omega) (lineB hl hb b2))
   rw [Int.toNat_natCast] at HL
   generalize (Cd.rd s.data.toList).2 = cd at *
   clear h0 hl hs hk
   generalize patC (rdP s.data.toList) = X at *
   generalize patC [] = Z at *
   go_enter Tryz.func137, Tryz.ntmps137
   go_wp2_with (first | (go_at_call 97; refine (unhide HB).mono ?_; rintro e w2 ⟨rfl, b2⟩; have HB2 := hide b2; clear b2) | (go_at_call 157; refine (unhide HR _).mono ?_; rintro e w3 ⟨rfl, b3⟩; have HB3 := hide b3; clear b3))
   have b3 := btr (unhide HB2) (unhide HB3)
   have b4 := b3.alloc b3.size (.cells X 229)
   refine (unhide HL _ b4).mono ?_
   rintro e w4 ⟨rfl, rfl⟩
   exact ⟨rfl, rfl, b4⟩
end Af
namespace Af

abbrev DV := DataW Value
def Rh (v : Value) : Option (DV × List MemPlace) := some (.held v, [])
def MapF (w : World) (k : TypeId) (b n : Nat) (f : Lit → Option Value) : Prop :=
 ∃ D : DV, w.ownsMap Tryz.prog k Rh b n D ∧ Maps.IsMap D ∧ ∀ kl zd, D.atKey kl zd = (match f kl with | some v => .held v | none => zd)
theorem MapF.lt {w : World} {k : TypeId} {b n : Nat} {f : Lit → Option Value} (h : MapF w k b n f) : b < w.heap.size := by
 obtain ⟨D, ho, _⟩ := h
 exact ho.lt
theorem MapF.isMap {w : World} {k : TypeId} {b n : Nat} {f : Lit → Option Value} (h : MapF w k b n f) : ∃ es c, w.heap[b]? = some (.map es c) := by
 obtain ⟨D, ⟨es, c, h1, _⟩, _⟩ := h
 exact ⟨es, c, h1⟩
theorem MapF.kept {w w' : World} {k : TypeId} {b n : Nat} {f : Lit → Option Value} (h : MapF w k b n f) (hb : w'.heap[b]? = w.heap[b]?) : MapF w' k b n f := by
 obtain ⟨D, ⟨es, c, h1, h2⟩, r⟩ := h
 exact ⟨D, ⟨es, c, hb.trans h1, h2⟩, r⟩
theorem MapF.made (w : World) (k : TypeId) : MapF (w.alloc (.map #[] 0)) k w.heap.size 0 (fun _ => none) :=
 ⟨_, World.ownsMap_made w _ _ _, Maps.isMap_empty, fun _ _ => rfl⟩
theorem MapF.look {w : World} {k t e : TypeId} {b n : Nat} {f : Lit → Option Value} {z key : Value} {kl : Lit} (h : MapF w k b n f) (K : Maps.Keyed Tryz.prog k) (ht : Tryz.prog.underlying t = some (.map k e)) (hz : (zeroValue e).run Tryz.prog w = .ok z w) (hkey : keyOf Tryz.prog k key = some kl) :
  (Instr.lookup t (.map (some b)) key false).run Tryz.prog w = .ok ((f kl).getD z) w := by
 obtain ⟨D, ho, _, hf⟩ := h
 obtain ⟨v, ps, hr, hv⟩ := ho.lookup K ht hz (zd := .held z) (zp := []) rfl hkey
 rw [hf] at hv
 cases hk : f kl with
 | none =>
  rw [hk] at hv
  simp only [Rh, Option.some.injEq, Prod.mk.injEq, DataW.held.injEq] at hv
  rw [hv.1] at hr
  exact hr
 | some x =>
  rw [hk] at hv
  simp only [Rh, Option.some.injEq, Prod.mk.injEq, DataW.held.injEq] at hv
  rw [hv.1] at hr
  exact hr
theorem MapF.look2 {w : World} {k t e : TypeId} {b n : Nat} {f : Lit → Option Value} {z key : Value} {kl : Lit} (h : MapF w k b n f) (K : Maps.Keyed Tryz.prog k) (ht : Tryz.prog.underlying t = some (.map k e)) (hz : (zeroValue e).run Tryz.prog w = .ok z w) (hkey : keyOf Tryz.prog k key = some kl) :
  (Instr.lookup t (.map (some b)) key true).run Tryz.prog w = .ok (.tuple #[(f kl).getD z, .bool (f kl).isSome]) w := by
 obtain ⟨D, ho, _, hf⟩ := h
 obtain ⟨v, ps, hr, hv⟩ := ho.look_ok K ht hz (zd := .held z) (zp := []) rfl hkey
 rw [hf] at hv
 cases hk : f kl with
 | none =>
  rw [hk] at hv
  simp only [Rh, Option.some.injEq, Prod.mk.injEq, DataW.held.injEq] at hv
  rw [hv.1, Maps.has_false_of_atKey (fun zd => by rw [hf, hk])] at hr
  exact hr
 | some x =>
  rw [hk] at hv
  simp only [Rh, Option.some.injEq, Prod.mk.injEq, DataW.held.injEq] at hv
  rw [hv.1, Maps.has_true_of_atKey (y := .held x) (fun zd => by rw [hf, hk])] at hr
  exact hr
theorem MapF.put {w : World} {k t e : TypeId} {b n : Nat} {f : Lit → Option Value} {key : Value} {kl : Lit} (h : MapF w k b n f) (K : Maps.Keyed Tryz.prog k) (ht : Tryz.prog.underlying t = some (.map k e)) (hn : n < maxLen) (hkey : keyOf Tryz.prog k key = some kl) (hl : WideAt.IsKeyLit kl) (v : Value) :
  ∃ w', (Instr.mapUpdate t (.map (some b)) key v).run Tryz.prog w = .ok () w' ∧ (∀ f', f' kl = some v → (∀ x, x ≠ kl → f' x = f x) → MapF w' k b (n + 1) f') ∧ w.grownBy w' (some b) := by
 obtain ⟨D, ho, hm, hf⟩ := h
 obtain ⟨w', hr, ho', hg⟩ := ho.update (t := t) (e := e) (val := v) (d := .held v) (ps := []) K ht hn hkey rfl
 refine ⟨w', hr, fun f' f1 f2 => ⟨_, ho', hm.put _ _, fun x zd => ?_⟩, hg⟩
 by_cases e : x = kl
 ·subst e
  rw [Maps.atKey_put_same hm hl, f1]
 ·rw [Maps.atKey_put_other e, hf, f2 x e]
theorem law9 : Maps.Keyed Tryz.prog 9 := Maps.string_keyed Tryz.underlying9
theorem lawF : Maps.Keyed Tryz.prog 36 := Maps.int_keyed Tryz.underlying36
theorem key9 {s : ByteArray} (h : s.size ≤ maxLen) : keyOf Tryz.prog 9 (.string s) = some (.string s.data.toList) := WideMaps.keyOf_string_mk Tryz.underlying9 h
theorem keyF {x : Int} (h0 : 0 ≤ x) (h1 : x ≤ 65535) : keyOf Tryz.prog 36 (.int .u16 x) = some (.int .u16 x) := Maps.keyOf_int_mk Tryz.underlying36 (WalkArith.wf_u16 (by omega))
theorem zero3 (w : World) : (zeroValue 3).run Tryz.prog w = .ok (.int .i64 0) w := by kernel_rfl
end Af
end Go.Proofs.YtidhbhdcoanfcaaGreatDoor
