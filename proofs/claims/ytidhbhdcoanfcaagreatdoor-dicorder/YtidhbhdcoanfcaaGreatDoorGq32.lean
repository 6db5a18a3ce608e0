import Derived.Test.YtidhbhdcoanfcaaGreatDoorGuAt
import Derived.Test.YtidhbhdcoanfcaaGreatDoorGq31
import Derived.Laws.EntriesVeiled
set_option maxHeartbeats 8000000
set_option maxRecDepth 100000
namespace Go.Proofs.YtidhbhdcoanfcaaGreatDoor
open Go.RowKit
namespace Af
open RowB
def kwV (n : Int) (a : Bool) (f : FuncId) (i : Int) : Value := .agg #[.int .i64 n, .bool a, .func (.func f) #[] #[], .int .i64 i]
def kwF (L : List (Bs × Value)) : Lit → Option Value
 | .string s => (L.find? fun p => p.1 == s).map (·.2)
 | _ => none
theorem kwF_snoc (L : List (Bs × Value)) (k : Bs) (v : Value) (h : (L.any fun p => p.1 == k) = false) : kwF (L ++ [(k, v)]) (.string k) = some v ∧ ∀ y, y ≠ .string k → kwF (L ++ [(k, v)]) y = kwF L y := by
 refine ⟨?_, fun y hy => ?_⟩
 ·show ((L ++ [(k, v)]).find? fun p => p.1 == k).map (·.2) = some v
  rw [List.find?_append]
  have : L.find? (fun p => p.1 == k) = none := by
   rw [List.find?_eq_none]
   intro p hp
   have := List.any_eq_false.1 h p hp
   simpa using this
  simp [this]
 ·cases y with
  | string s =>
   have hne : (k == s) = false := by
    rw [beq_eq_false_iff_ne]
    rintro rfl
    exact hy rfl
   show ((L ++ [(k, v)]).find? fun p => p.1 == s).map (·.2) = (L.find? fun p => p.1 == s).map (·.2)
   rw [List.find?_append]
   cases hq : L.find? (fun p => p.1 == s) with
   | none => simp [hne]
   | some q => simp
  | _ => rfl
def kwL0 : List (Bs × Value) := []
def kwL1 : List (Bs × Value) := kwL0 ++ [([70, 76, 65, 71], kwV 2 false 73 0)]
def kwL2 : List (Bs × Value) := kwL1 ++ [([83, 69, 84], kwV 2 false 74 0)]
def kwL3 : List (Bs × Value) := kwL2 ++ [([84, 82, 89], kwV 2 false 75 0)]
def kwL4 : List (Bs × Value) := kwL3 ++ [([78, 69, 69, 68, 65, 70, 70, 73, 88], kwV 2 false 76 0)]
def kwL5 : List (Bs × Value) := kwL4 ++ [([70, 79, 82, 66, 73, 68, 68, 69, 78, 87, 79, 82, 68], kwV 2 false 76 1)]
def kwL6 : List (Bs × Value) := kwL5 ++ [([75, 69, 69, 80, 67, 65, 83, 69], kwV 2 false 76 2)]
def kwL7 : List (Bs × Value) := kwL6 ++ [([67, 79, 77, 80, 79, 85, 78, 68, 70, 76, 65, 71], kwV 2 false 76 3)]
def kwL8 : List (Bs × Value) := kwL7 ++ [([78, 79, 83, 85, 71, 71, 69, 83, 84], kwV 2 false 76 4)]
def kwL9 : List (Bs × Value) := kwL8 ++ [([67, 79, 77, 80, 79, 85, 78, 68, 77, 73, 78], kwV 2 false 77 0)]
def kwL10 : List (Bs × Value) := kwL9 ++ [([82, 69, 80], kwV 2 false 78 0)]
def kwL11 : List (Bs × Value) := kwL10 ++ [([65, 70], kwV 2 false 79 0)]
def kwL12 : List (Bs × Value) := kwL11 ++ [([80, 70, 88], kwV 4 true 80 1)]
def kwL13 : List (Bs × Value) := kwL12 ++ [([83, 70, 88], kwV 4 true 80 2)]
theorem keywords_any (w : World) : Calls Tryz.prog 58 #[] w fun e w' => e = .returned (.map (some w.heap.size)) ∧ (∃ n, MapF w' 9 w.heap.size n (kwF kwL13)) ∧ Below w.heap.size w w' := by
 have hmm := @run_makeMap Tryz.prog
 have m0 : MapF (w.alloc (.map #[] 0)) 9 w.heap.size 0 (kwF kwL0) := by
  have := MapF.made w 9
  have e : (fun _ : Lit => (none : Option Value)) = kwF kwL0 := by
   funext y
   cases y <;> rfl
  rw [e] at this
  exact this
 have b0 : Below w.heap.size w (w.alloc (.map #[] 0)) := (Below.refl _ w).alloc (Nat.le_refl _) _
 obtain ⟨w1, r1, p1, g1⟩ := m0.put (t := 128) (key := .string ⟨#[70, 76, 65, 71]⟩) (kl := .string [70, 76, 65, 71]) law9 Tryz.underlying128 (by unfold maxLen; omega) (key9 (s := ⟨#[70, 76, 65, 71]⟩) (by decide)) trivial (kwV 2 false 73 0)
 have m1 := p1 (kwF kwL1) (kwF_snoc kwL0 [70, 76, 65, 71] _ (by decide)).1 (kwF_snoc kwL0 [70, 76, 65, 71] _ (by decide)).2
 have b1 : Below w.heap.size w w1 := b0.grown g1 b0.size (fun k hk => by injection hk with hk; omega)
 obtain ⟨w2, r2, p2, g2⟩ := m1.put (t := 128) (key := .string ⟨#[83, 69, 84]⟩) (kl := .string [83, 69, 84]) law9 Tryz.underlying128 (by unfold maxLen; omega) (key9 (s := ⟨#[83, 69, 84]⟩) (by decide)) trivial (kwV 2 false 74 0)
 have m2 := p2 (kwF kwL2) (kwF_snoc kwL1 [83, 69, 84] _ (by decide)).1 (kwF_snoc kwL1 [83, 69, 84] _ (by decide)).2
 have b2 : Below w.heap.size w w2 := b1.grown g2 b1.size (fun k hk => by injection hk with hk; omega)
 obtain ⟨w3, r3, p3, g3⟩ := m2.put (t := 128) (key := .string ⟨#[84, 82, 89]⟩) (kl := .string [84, 82, 89]) law9 Tryz.underlying128 (by unfold maxLen; omega) (key9 (s := ⟨#[84, 82, 89]⟩) (by decide)) trivial (kwV 2 false 75 0)
 have m3 := p3 (kwF kwL3) (kwF_snoc kwL2 [84, 82, 89] _ (by decide)).1 (kwF_snoc kwL2 [84, 82, 89] _ (by decide)).2
 have b3 : Below w.heap.size w w3 := b2.grown g3 b2.size (fun k hk => by injection hk with hk; omega)
 obtain ⟨w4, r4, p4, g4⟩ := m3.put (t := 128) (key := .string ⟨#[78, 69, 69, 68, 65, 70, 70, 73, 88]⟩) (kl := .string [78, 69, 69, 68, 65, 70, 70, 73, 88]) law9 Tryz.underlying128 (by unfold maxLen; omega) (key9 (s := ⟨#[78, 69, 69, 68, 65, 70, 70, 73, 88]⟩) (by decide)) trivial (kwV 2 false 76 0)
 have m4 := p4 (kwF kwL4) (kwF_snoc kwL3 [78, 69, 69, 68, 65, 70, 70, 73, 88] _ (by decide)).1 (kwF_snoc kwL3 [78, 69, 69, 68, 65, 70, 70, 73, 88] _ (by decide)).2
 have b4 : Below w.heap.size w w4 := b3.grown g4 b3.size (fun k hk => by injection hk with hk; omega)
 obtain ⟨w5, r5, p5, g5⟩ := m4.put (t := 128) (key := .string ⟨#[70, 79, 82, 66, 73, 68, 68, 69, 78, 87, 79, 82, 68]⟩) (kl := .string [70, 79, 82, 66, 73, 68, 68, 69, 78, 87, 79, 82, 68]) law9 Tryz.underlying128 (by unfold maxLen; omega) (key9 (s := ⟨#[70, 79, 82, 66, 73, 68, 68, 69, 78, 87, 79, 82, 68]⟩) (by decide)) trivial (kwV 2 false 76 1)
 have m5 := p5 (kwF kwL5) (kwF_snoc kwL4 [70, 79, 82, 66, 73, 68, 68, 69, 78, 87, 79, 82, 68] _ (by decide)).1 (kwF_snoc kwL4 [70, 79, 82, 66, 73, 68, 68, 69, 78, 87, 79, 82, 68] _ (by decide)).2
 have b5 : Below w.heap.size w w5 := b4.grown g5 b4.size (fun k hk => by injection hk with hk; omega)
 obtain ⟨w6, r6, p6, g6⟩ := m5.put (t := 128) (key := .string ⟨#[75, 69, 69, 80, 67, 65, 83, 69]⟩) (kl := .string [75, 69, 69, 80, 67, 65, 83, 69]) law9 Tryz.underlying128 (by unfold maxLen; omega) (key9 (s := ⟨#[75, 69, 69, 80, 67, 65, 83, 69]⟩) (by decide)) trivial (kwV 2 false 76 2)
 have m6 := p6 (kwF kwL6) (kwF_snoc kwL5 [75, 69, 69, 80, 67, 65, 83, 69] _ (by decide)).1 (kwF_snoc kwL5 [75, 69, 69, 80, 67, 65, 83, 69] _ (by decide)).2
 have b6 : Below w.heap.size w w6 := b5.grown g6 b5.size (fun k hk => by injection hk with hk; omega)
 obtain ⟨w7, r7, p7, g7⟩ := m6.put (t := 128) (key := .string ⟨#[67, 79, 77, 80, 79, 85, 78, 68, 70, 76, 65, 71]⟩) (kl := .string [67, 79, 77, 80, 79, 85, 78, 68, 70, 76, 65, 71]) law9 Tryz.underlying128 (by unfold maxLen; omega) (key9 (s := ⟨#[67, 79, 77, 80, 79, 85, 78, 68, 70, 76, 65, 71]⟩) (by decide)) trivial (kwV 2 false 76 3)
 have m7 := p7 (kwF kwL7) (kwF_snoc kwL6 [67, 79, 77, 80, 79, 85, 78, 68, 70, 76, 65, 71] _ (by decide)).1 (kwF_snoc kwL6 [67, 79, 77, 80, 79, 85, 78, 68, 70, 76, 65, 71] _ (by decide)).2
 have b7 : Below w.heap.size w w7 := b6.grown g7 b6.size (fun k hk => by injection hk with hk; omega)
 obtain ⟨w8, r8, p8, g8⟩ := m7.put (t := 128) (key := .string ⟨#[78, 79, 83, 85, 71, 71, 69, 83, 84]⟩) (kl := .string [78, 79, 83, 85, 71, 71, 69, 83, 84]) law9 Tryz.underlying128 (by unfold maxLen; omega) (key9 (s := ⟨#[78, 79, 83, 85, 71, 71, 69, 83, 84]⟩) (by decide)) trivial (kwV 2 false 76 4)
 have m8 := p8 (kwF kwL8) (kwF_snoc kwL7 [78, 79, 83, 85, 71, 71, 69, 83, 84] _ (by decide)).1 (kwF_snoc kwL7 [78, 79, 83, 85, 71, 71, 69, 83, 84] _ (by decide)).2
 have b8 : Below w.heap.size w w8 := b7.grown g8 b7.size (fun k hk => by injection hk with hk; omega)
 obtain ⟨w9, r9, p9, g9⟩ := m8.put (t := 128) (key := .string ⟨#[67, 79, 77, 80, 79, 85, 78, 68, 77, 73, 78]⟩) (kl := .string [67, 79, 77, 80, 79, 85, 78, 68, 77, 73, 78]) law9 Tryz.underlying128 (by unfold maxLen; omega) (key9 (s := ⟨#[67, 79, 77, 80, 79, 85, 78, 68, 77, 73, 78]⟩) (by decide)) trivial (kwV 2 false 77 0)
 have m9 := p9 (kwF kwL9) (kwF_snoc kwL8 [67, 79, 77, 80, 79, 85, 78, 68, 77, 73, 78] _ (by decide)).1 (kwF_snoc kwL8 [67, 79, 77, 80, 79, 85, 78, 68, 77, 73, 78] _ (by decide)).2
 have b9 : Below w.heap.size w w9 := b8.grown g9 b8.size (fun k hk => by injection hk with hk; omega)
 obtain ⟨w10, r10, p10, g10⟩ := m9.put (t := 128) (key := .string ⟨#[82, 69, 80]⟩) (kl := .string [82, 69, 80]) law9 Tryz.underlying128 (by unfold maxLen; omega) (key9 (s := ⟨#[82, 69, 80]⟩) (by decide)) trivial (kwV 2 false 78 0)
 have m10 := p10 (kwF kwL10) (kwF_snoc kwL9 [82, 69, 80] _ (by decide)).1 (kwF_snoc kwL9 [82, 69, 80] _ (by decide)).2
 have b10 : Below w.heap.size w w10 := b9.grown g10 b9.size (fun k hk => by injection hk with hk; omega)
 obtain ⟨w11, r11, p11, g11⟩ := m10.put (t := 128) (key := .string ⟨#[65, 70]⟩) (kl := .string [65, 70]) law9 Tryz.underlying128 (by unfold maxLen; omega) (key9 (s := ⟨#[65, 70]⟩) (by decide)) trivial (kwV 2 false 79 0)
 have m11 := p11 (kwF kwL11) (kwF_snoc kwL10 [65, 70] _ (by decide)).1 (kwF_snoc kwL10 [65, 70] _ (by decide)).2
 have b11 : Below w.heap.size w w11 := b10.grown g11 b10.size (fun k hk => by injection hk with hk; omega)
 obtain ⟨w12, r12, p12, g12⟩ := m11.put (t := 128) (key := .string ⟨#[80, 70, 88]⟩) (kl := .string [80, 70, 88]) law9 Tryz.underlying128 (by unfold maxLen; omega) (key9 (s := ⟨#[80, 70, 88]⟩) (by decide)) trivial (kwV 4 true 80 1)
 have m12 := p12 (kwF kwL12) (kwF_snoc kwL11 [80, 70, 88] _ (by decide)).1 (kwF_snoc kwL11 [80, 70, 88] _ (by decide)).2
 have b12 : Below w.heap.size w w12 := b11.grown g12 b11.size (fun k hk => by injection hk with hk; omega)
 obtain ⟨w13, r13, p13, g13⟩ := m12.put (t := 128) (key := .string ⟨#[83, 70, 88]⟩) (kl := .string [83, 70, 88]) law9 Tryz.underlying128 (by unfold maxLen; omega) (key9 (s := ⟨#[83, 70, 88]⟩) (by decide)) trivial (kwV 4 true 80 2)
 have m13 := p13 (kwF kwL13) (kwF_snoc kwL12 [83, 70, 88] _ (by decide)).1 (kwF_snoc kwL12 [83, 70, 88] _ (by decide)).2
 have b13 : Below w.heap.size w w13 := b12.grown g13 b12.size (fun k hk => by injection hk with hk; omega)
 have HM := hide m13
 have HB := hide b13
 unfold kwV at r1 r2 r3 r4 r5 r6 r7 r8 r9 r10 r11 r12 r13
 clear m1 p1 g1 b1 m2 p2 g2 b2 m3 p3 g3 b3 m4 p4 g4 b4 m5 p5 g5 b5 m6 p6 g6 b6 m7 p7 g7 b7 m8 p8 g8 b8 m9 p9 g9 b9 m10 p10 g10 b10 m11 p11 g11 b11 m12 p12 g12 b12 m13 p13 g13 b13 m0 b0
 go_enter Tryz.func58, Tryz.ntmps58
 go_wp2
 go_ret
 exact ⟨rfl, ⟨_, unhide HM⟩, unhide HB⟩
theorem times_rel {f : Rdr → Except Er Rdr} {rel : Rdr → Rdr → Prop} (rf : ∀ R, rel R R) (tr : ∀ a b c, rel a b → rel b c → rel a c) (hf : ∀ R R', f R = .ok R' → rel R R') : ∀ (n : Nat) (R R' : Rdr), times f n R = .ok R' → rel R R'
 | 0, R, R', h => by
  simp only [times, Except.ok.injEq] at h
  subst h
  exact rf _
 | n + 1, R, R', h => by
  rw [times] at h
  cases hq : f R with
  | error e => rw [hq] at h; cases h
  | ok R1 => rw [hq] at h; exact tr _ _ _ (hf _ _ hq) (times_rel rf tr hf n R1 R' h)
structure Mo (R R' : Rdr) : Prop where
 heads : R'.heads = R.heads
 rows : R'.rows.length ≤ R.rows.length
 cls : R'.file.classes = R.file.classes
theorem Mo.refl (R : Rdr) : Mo R R := ⟨rfl, Nat.le_refl _, rfl⟩
theorem Mo.trans {a b c : Rdr} (h : Mo a b) (k : Mo b c) : Mo a c := ⟨k.heads.trans h.heads, Nat.le_trans k.rows h.rows, k.cls.trans h.cls⟩
theorem grow_mo {R R1 : Rdr} {beg row : List Bs} (h : grow R beg = .ok (row, R1)) : Mo R R1 ∧ R1.file = R.file := by
 obtain ⟨l, t, h1, h2⟩ := grow_fld h
 subst h2
 exact ⟨⟨rfl, by rw [h1]; simp, rfl⟩, rfl⟩
theorem repStep_mo {key : Bs} {R R' : Rdr} (h : repStep key R = .ok R') : Mo R R' ∧ R'.file.aliases = R.file.aliases := by
 unfold repStep at h
 split at h
 ·cases h
 ·rename_i row R1 hg
  obtain ⟨m, e⟩ := grow_mo hg
  split at h
  ·cases h
  ·injection h with h
   subst h
   exact ⟨⟨m.heads, m.rows, m.cls⟩, by rw [e]⟩
theorem aliStep_mo {key : Bs} {R R' : Rdr} (h : aliStep key R = .ok R') : Mo R R' ∧ R'.file.reps = R.file.reps := by
 unfold aliStep at h
 split at h
 ·cases h
 ·rename_i row R1 hg
  obtain ⟨m, e⟩ := grow_mo hg
  split at h
  ·cases h
  ·injection h with h
   subst h
   exact ⟨⟨m.heads, m.rows, m.cls⟩, by rw [e]⟩
theorem rulStep_mo {beg : List Bs} {c : Cls} {R R' : Rdr} (h : rulStep beg c R = .ok R') : Mo R R' ∧ R'.file.reps = R.file.reps ∧ R'.file.aliases = R.file.aliases := by
 unfold rulStep at h
 split at h
 ·cases h
 ·rename_i row R1 hg
  obtain ⟨m, e⟩ := grow_mo hg
  split at h
  ·cases h
  ·injection h with h
   subst h
   exact ⟨⟨m.heads, m.rows, m.cls⟩, by rw [e], by rw [e]⟩
structure Kd (R R' : Rdr) (k : Key) : Prop where
 heads : R'.heads = R.heads
 rows : R'.rows.length ≤ R.rows.length
 cls : R'.file.classes.length ≤ R.file.classes.length + 1
 reps : k ≠ .reps → R'.file.reps = R.file.reps
 alis : k ≠ .aliases → R'.file.aliases = R.file.aliases
theorem doKey_kd {R R' : Rdr} {h : List Bs} {k : Key} (hk : doKey R h k = .ok R') : Kd R R' k := by
 cases k with
 | kind =>
  simp only [doKey, doKind] at hk
  repeat' split at hk
  all_goals first | (cases hk; done) | (injection hk with hk; subst hk; exact ⟨rfl, Nat.le_refl _, Nat.le_succ _, fun _ => rfl, fun _ => rfl⟩)
 | charset =>
  simp only [doKey, doCharset] at hk
  split at hk
  ·injection hk with hk; subst hk; exact ⟨rfl, Nat.le_refl _, Nat.le_succ _, fun _ => rfl, fun _ => rfl⟩
  ·cases hk
 | letters =>
  simp only [doKey, doLetters] at hk
  split at hk
  ·injection hk with hk; subst hk; exact ⟨rfl, Nat.le_refl _, Nat.le_succ _, fun _ => rfl, fun _ => rfl⟩
  ·cases hk
 | special i =>
  simp only [doKey, doSpecial] at hk
  split at hk
  ·cases hk
  ·injection hk with hk; subst hk; exact ⟨rfl, Nat.le_refl _, Nat.le_succ _, fun _ => rfl, fun _ => rfl⟩
 | least =>
  simp only [doKey, doLeast] at hk
  repeat' split at hk
  all_goals first | (cases hk; done) | (injection hk with hk; subst hk; exact ⟨rfl, Nat.le_refl _, Nat.le_succ _, fun _ => rfl, fun _ => rfl⟩)
 | reps =>
  simp only [doKey, doReps] at hk
  split at hk
  ·cases hk
  ·have m := times_rel (rel := fun R R' => Mo R R' ∧ R'.file.aliases = R.file.aliases) (fun R => ⟨Mo.refl R, rfl⟩) (fun a b c x y => ⟨x.1.trans y.1, y.2.trans x.2⟩) (fun R R' q => repStep_mo q) _ _ _ hk
   exact ⟨m.1.heads, m.1.rows, by rw [m.1.cls]; exact Nat.le_succ _, fun x => absurd rfl x, fun _ => m.2⟩
 | aliases =>
  simp only [doKey, doAliases] at hk
  split at hk
  ·cases hk
  ·split at hk
   ·cases hk
   ·have m := times_rel (rel := fun R R' => Mo R R' ∧ R'.file.reps = R.file.reps) (fun R => ⟨Mo.refl R, rfl⟩) (fun a b c x y => ⟨x.1.trans y.1, y.2.trans x.2⟩) (fun R R' q => aliStep_mo q) _ _ _ hk
    exact ⟨m.1.heads, m.1.rows, by rw [m.1.cls]; exact Nat.le_succ _, fun _ => m.2, fun x => absurd rfl x⟩
 | cls kk =>
  simp only [doKey, doClass] at hk
  split at hk
  ·cases hk
  ·split at hk
   ·cases hk
   ·split at hk
    ·cases hk
    ·split at hk
     ·cases hk
     ·have m := times_rel (rel := fun R R' => Mo R R' ∧ R'.file.reps = R.file.reps ∧ R'.file.aliases = R.file.aliases) (fun R => ⟨Mo.refl R, rfl, rfl⟩) (fun a b c x y => ⟨x.1.trans y.1, y.2.1.trans x.2.1, y.2.2.trans x.2.2⟩) (fun R R' q => rulStep_mo q) _ _ _ hk
      exact ⟨m.1.heads, m.1.rows, by rw [m.1.cls]; simp, fun _ => m.2.1, fun _ => m.2.2⟩
structure Inv (R : Rdr) : Prop where
 cls : R.file.classes.length ≤ R.heads.length
 few : R.heads.length + R.rows.length ≤ 65536
 reps : [82, 69, 80] ∉ R.heads → R.file.reps = []
 alis : [65, 70] ∉ R.heads → R.file.aliases = []
theorem kw_reps {s : Bs} {k : Kw} (h : kwOf s = some k) (hk : k.key = .reps) : s = [82, 69, 80] ∧ k.again = false ∧ k.fields = 2 := by
 unfold kwOf at h
 obtain ⟨p, hp, rfl⟩ := Option.map_eq_some_iff.1 h
 have hm := List.mem_of_find?_eq_some hp
 have hs : p.1 = s := by simpa using List.find?_some hp
 subst hs
 simp [kws] at hm
 rcases hm with rfl | rfl | rfl | rfl | rfl | rfl | rfl | rfl | rfl | rfl | rfl | rfl | rfl <;> first | (cases hk; done) | exact ⟨rfl, rfl, rfl⟩
theorem kw_alis {s : Bs} {k : Kw} (h : kwOf s = some k) (hk : k.key = .aliases) : s = [65, 70] ∧ k.again = false ∧ k.fields = 2 := by
 unfold kwOf at h
 obtain ⟨p, hp, rfl⟩ := Option.map_eq_some_iff.1 h
 have hm := List.mem_of_find?_eq_some hp
 have hs : p.1 = s := by simpa using List.find?_some hp
 subst hs
 simp [kws] at hm
 rcases hm with rfl | rfl | rfl | rfl | rfl | rfl | rfl | rfl | rfl | rfl | rfl | rfl | rfl <;> first | (cases hk; done) | exact ⟨rfl, rfl, rfl⟩
theorem heading_inv {R R' : Rdr} {l : Nat} {hd : List Bs} {t : List (Nat × List Bs)} (hi : Inv R) (hr : R.rows = (l, hd) :: t) (h : heading { R with rows := t } l hd = .ok R') : Inv R' ∧ R'.rows.length ≤ t.length := by
 unfold heading at h
 split at h
 ·cases h
 ·rename_i k hk
  split at h
  ·cases h
  ·split at h
   ·cases h
   ·rename_i hag
    split at h
    ·cases h
    ·rename_i R2 hd2
     injection h with h
     subst h
     have d := doKey_kd hd2
     have hl := hi.few
     have hc := hi.cls
     rw [hr, List.length_cons] at hl
     have e1 : R2.heads = R.heads := d.heads
     have e2 : R2.rows.length ≤ t.length := d.rows
     have e3 : R2.file.classes.length ≤ R.file.classes.length + 1 := d.cls
     refine ⟨⟨?_, ?_, fun hn => ?_, fun hn => ?_⟩, e2⟩
     ·simp only [List.length_append, List.length_singleton, e1]; omega
     ·simp only [List.length_append, List.length_singleton, e1]; omega
     ·simp only [List.mem_append, List.mem_singleton, not_or, e1] at hn
      have : k.key ≠ .reps := fun q => hn.2 (kw_reps hk q).1.symm
      exact (d.reps this).trans (hi.reps hn.1)
     ·simp only [List.mem_append, List.mem_singleton, not_or, e1] at hn
      have : k.key ≠ .aliases := fun q => hn.2 (kw_alis hk q).1.symm
      exact (d.alis this).trans (hi.alis hn.1)
def fnOf : Key → FuncId
 | .kind => 73
 | .charset => 74
 | .letters => 75
 | .special _ => 76
 | .least => 77
 | .reps => 78
 | .aliases => 79
 | .cls _ => 80
def whOf : Key → Int
 | .special i => i
 | .cls k => k
 | _ => 0
def kval (k : Kw) : Value := kwV k.fields k.again (fnOf k.key) (whOf k.key)
theorem kw_table : kwL13 = kws.map fun p => (p.1, kval p.2) := by rfl
theorem kwF_of (s : Bs) : kwF kwL13 (.string s) = (kwOf s).map kval := by
 show (kwL13.find? fun p => p.1 == s).map (·.2) = _
 rw [kw_table, List.find?_map]
 unfold kwOf
 simp only [Option.map_map]
 rfl
theorem ent_fn (k : Key) (x y z : Value) (W : World) : Sem.run Tryz.prog (callFunc (fnOf k) #[x, y, z]) W = .ok (.enter (fnOf k) #[x, y, z]) W := by
 cases k <;> kernel_rfl
theorem dispatch {B rb : Nat} {R : Rdr} {P : Pts} {w : World} {s : Bs} {k : Kw} (hk : kwOf s = some k) (h : RAt B w rb R P) (hM : Mx B w) (hd : List Bs) (hv : Value) (hrow : StrRow B w hv (hd.map Fld.str)) (hlen : hd.length = k.fields) (hf : ∀ f ∈ hd, f.length ≤ 65536)
  (hcn : R.file.classes.length ≤ 65536) (hre : k.key = .reps → R.file.reps = []) (hal : k.key = .aliases → R.file.aliases = []) :
  Calls Tryz.prog (fnOf k.key) #[ptr rb, hv, .int .i64 (whOf k.key)] w (Res B rb P w (doKey R hd k.key)) := by
 unfold kwOf at hk
 obtain ⟨p, hp, rfl⟩ := Option.map_eq_some_iff.1 hk
 have hm := List.mem_of_find?_eq_some hp
 simp [kws] at hm
 rcases hm with rfl | rfl | rfl | rfl | rfl | rfl | rfl | rfl | rfl | rfl | rfl | rfl | rfl
 ·exact readKind_any h _ hd hv hrow hlen
 ·exact readCharset_any h _ hd hv hrow hlen hf
 ·exact readTry_any h _ hd hv hrow hlen hf
 ·exact readSpecial_any (i := 0) (by decide) h hd hv hrow hlen hf
 ·exact readSpecial_any (i := 1) (by decide) h hd hv hrow hlen hf
 ·exact readSpecial_any (i := 2) (by decide) h hd hv hrow hlen hf
 ·exact readSpecial_any (i := 3) (by decide) h hd hv hrow hlen hf
 ·exact readSpecial_any (i := 4) (by decide) h hd hv hrow hlen hf
 ·exact readLeast_any h _ hd hv hrow hlen hf
 ·exact readReps_any h _ hd hv hrow hlen hf (hre rfl)
 ·exact readAliases_any h hM _ hd hv hrow hlen hf (hal rfl)
 ·exact readClass_any h hM 1 hd hv hrow hlen hf hcn
 ·exact readClass_any h hM 2 hd hv hrow hlen hf hcn
theorem cnt_getD (H : List Bs) (s : Bs) : (cnt H (.string s)).getD (.int .i64 0) = .int .i64 (H.count s : Nat) := by
 by_cases h : s ∈ H
 ·rw [cnt_in h]; rfl
 ·rw [cnt_out h, List.count_eq_zero.2 h]; rfl
theorem RAt.head {B rb : Nat} {R : Rdr} {P : Pts} {w : World} (h : RAt B w rb R P) (key : Bs) (hk : key.length ≤ 65536) (hlt : R.heads.length < 65536) :
  (Instr.lookup 86 (.map (some P.hm)) (.string (Fld.str key)) false).run Tryz.prog w = .ok (.int .i64 (R.heads.count key : Nat)) w ∧
  ∃ w', (Instr.mapUpdate 86 (.map (some P.hm)) (.string (Fld.str key)) (.int .i64 ((R.heads.count key : Nat) + 1))).run Tryz.prog w = .ok () w' ∧ RAt B w' rb { R with heads := R.heads ++ [key] } P ∧ Kt B P.pm P.hm w w' := by
 obtain ⟨n, hn, hm⟩ := h.hds
 have hsz : (Fld.str key).size ≤ maxLen := by rw [fstr_wd, Wd.str_size]; unfold maxLen; omega
 have e1 : (Fld.str key).data.toList = key := by simp [Fld.str]
 have hkey := key9 hsz
 rw [e1] at hkey
 have hlook := hm.look law9 Tryz.underlying86 (zero3 w) hkey
 rw [cnt_getD] at hlook
 refine ⟨hlook, ?_⟩
 obtain ⟨w', hr, hput, hg⟩ := hm.put (v := .int .i64 ((R.heads.count key : Nat) + 1)) law9 Tryz.underlying86 (by unfold maxLen; omega) hkey trivial
 obtain ⟨es, c, ee⟩ := hm.isMap
 have kp : Kp P.hm w w' := Kp.of_grown hg
 have kq : Kq [] (· = P.hm) w w' := Kq.kpm kp ee rfl
 have low : Below B w w' := (Below.refl B w).grown hg (Nat.le_of_lt (Nat.lt_of_le_of_lt h.hmB hm.lt)) (fun k hk => by injection hk with hk; rw [← hk]; exact h.hmB)
 have hf : FAt B w' R.file P := h.file.kq kq rfl rfl ((kq.cells _ _ _ _ h.file.fil (by simp)).trans h.file.fil) (.inr ⟨rfl, fun e => h.hne e.symm⟩) (.inr ⟨rfl, rfl, by simp⟩) (.inr ⟨rfl, rfl, rfl, by simp⟩) (.inr ⟨rfl, rfl, by simp⟩) (.inr ⟨rfl, rfl, rfl, by simp⟩) (by simp) h.file.ok
 refine ⟨w', hr, ⟨h.rbB, h.hmB, (kq.cells _ _ _ _ h.rdr (by simp)).trans h.rdr, rows_kept h.rows (fun g cur q => kq.cells g cur _ (0, 0) q (by simp)) (fun g cur q => kq.cells g cur _ (0, 0) q (by simp)), ⟨n + 1, by simp; omega, hput _ ?_ ?_⟩, h.hne, own_kq h.lns kq (by simp), hf, ⟨by simp; omega, h.few.2.1, h.few.2.2⟩, h.rok⟩, kq.kt low (by simp) (fun g e => .inr e)⟩
 ·rw [cnt_in (by simp)]
  simp [List.count_append]
 ·intro x hx
  cases x with
  | string s =>
   have hne : s ≠ key := fun e => hx (by rw [e])
   simp only [cnt, List.mem_append, List.mem_singleton, hne, or_false, List.count_append]
   rw [List.count_singleton]
   have : (key == s) = false := by simpa using fun e : key = s => hne e.symm
   simp [this]
  | _ => rfl
noncomputable def hdg6 : Code := dropSeq 6 (Tryz.f59.body.getD .skip)
def kcells (k : Kw) : Array Value := #[.int .i64 k.fields, .bool k.again, .func (.func (fnOf k.key)) #[] #[], .int .i64 (whOf k.key)]
def hres (s : Bs) (X : Except Er Rdr) : Except Er Rdr := match X with
 | .error e => .error e
 | .ok R' => .ok { R' with heads := R'.heads ++ [s] }
theorem hdg_tail {B rb kb g m cap : Nat} {R : Rdr} {P P0 : Pts} {w V : World} {k : Kw} {hd : List Bs} (hk : kwOf (fld hd 0) = some k) (hL : LP B rb w V R P P0 (.slice (some ⟨g, 0, none⟩) m cap) hd) (hM : Mx B w) (hB : V.heap[kb]? = some (.cells (kcells k) 151 (0, 0))) (hlen : hd.length = k.fields) (hf : ∀ f ∈ hd, f.length ≤ 65536)
  (hcn : R.file.classes.length ≤ 65536) (hre : k.key = .reps → R.file.reps = []) (hal : k.key = .aliases → R.file.aliases = []) (hhd : R.heads.length < 65536) (h0 : 0 < hd.length) (u1 u2 u3 u7 u8 u9 u10 u11 u12 u13 u14 u15 u16 u17 u18 u19 u20 u21 u22 u23 u24 u25 u26 u27 u28 u29 u30 u31 u32 u33 u34 u35 u36 u37 u38 u39 u40 u41 u42 u43 u44 u45 u46 u47 u48 u49 u50 u51 u52 u53 : Value) :
  Code.wp Tryz.prog hdg6 (bodyPost Tryz.prog Tryz.f59 (Res B rb P0 w (hres (fld hd 0) (doKey R hd k.key)))) ⟨#[ptr rb, u1, u2, u3, .slice (some ⟨g, 0, none⟩) m cap, .string (Fld.str (fld hd 0)), .pointer (some ⟨kb, 0, none⟩), u7, u8, u9, u10, u11, u12, u13, u14, u15, u16, u17, u18, u19, u20, u21, u22, u23, u24, u25, u26, u27, u28, u29, u30, u31, u32, u33, u34, u35, u36, u37, u38, u39, u40, u41, u42, u43, u44, u45, u46, u47, u48, u49, u50, u51, u52, u53], []⟩ V := by
 conv => arg 2; whnf
 have HD := hide (dispatch hk hL.at_ (hM.low hL.kt.low) hd _ hL.row hlen hf hcn hre hal)
 have hent := ent_fn k.key
 have k2 : V.cell? ⟨kb, 2, none⟩ = some (.func (.func (fnOf k.key)) #[] #[]) := by simp [World.cell?, hB, kcells]
 have k3 : V.cell? ⟨kb, 3, none⟩ = some (.int .i64 (whOf k.key)) := by simp [World.cell?, hB, kcells]
 have HL := hide hL
 have HF := hide (hf _ (List.mem_of_getElem? (fld_get h0)))
 have HH := hide hhd
 clear hk hL hM hB hlen hf hcn hre hal h0 hhd
 cases hx : doKey R hd k.key with
 | error er =>
  have HN := hide (callNo (unhide HD) hx)
  clear HD
  generalize fnOf k.key = fn at *
  generalize whOf k.key = wh at *
  go_wp2_with fail
  refine (unhide HN).mono ?_
  rintro e w2 ⟨rfl, kt⟩
  refine ⟨rfl, Res.no rfl ((unhide HL).kt.trans ?_)⟩
  rw [← (unhide HL).eq.2.1, ← (unhide HL).eq.2.2]
  exact kt
 | ok R' =>
  have HO := hide (callOk (unhide HD) hx)
  have HHE := hide (doKey_kd hx).heads
  have HX : Hid (hres (fld hd 0) (.ok R') = .ok { R' with heads := R'.heads ++ [fld hd 0] }) := rfl
  clear HD hx
  generalize hres (fld hd 0) (.ok R') = X at *
  generalize fnOf k.key = fn at *
  generalize whOf k.key = wh at *
  go_wp2_with fail
  refine (unhide HO).mono ?_
  rintro e w2 ⟨rfl, kt, P', hR', e1, e2, e3⟩
  obtain ⟨-, -, -, -, d4, -, -⟩ := hR'.cells
  obtain ⟨hlk, w3, hmu, hR3, kt3⟩ := hR'.head (fld hd 0) (unhide HF) (by rw [unhide HHE]; exact unhide HH)
  have HR3 := hide hR3
  have HKT : Hid (Kt B P0.pm P0.hm w w3) := by
   refine (unhide HL).kt.trans ?_
   rw [← (unhide HL).eq.2.1, ← (unhide HL).eq.2.2]
   rw [e2, e3] at kt3
   exact kt.trans kt3
  have HE := hide (And.intro (e1.trans (unhide HL).eq.1) (And.intro (e2.trans (unhide HL).eq.2.1) (e3.trans (unhide HL).eq.2.2)))
  clear hR' hR3 kt3 kt e1 e2 e3 k2 k3 hent
  have hcl : (R'.heads.count (fld hd 0) : Nat) ≤ 65536 := by
   have := List.count_le_length (a := fld hd 0) (l := R'.heads)
   rw [unhide HHE] at this ⊢
   have := unhide HH
   omega
  generalize List.count (fld hd 0) R'.heads = cn at *
  generalize Fld.str (fld hd 0) = r0 at *
  go_wp2
  go_end0
  exact Res.yes (unhide HX) (unhide HKT) (unhide HR3) (unhide HE).1 (unhide HE).2.1 (unhide HE).2.2
def zkw : Array Value := #[.int .i64 0, .bool false, .nilFunc, .int .i64 0]
theorem zeroK (w : World) : (zeroValue 151).run Tryz.prog w = .ok (.agg zkw) w := by kernel_rfl
theorem heading_none {R : Rdr} {l : Nat} {hd : List Bs} (h : kwOf (fld hd 0) = none) : heading R l hd = .error (l, 110) := by unfold heading; rw [h]
theorem heading_len {R : Rdr} {l : Nat} {hd : List Bs} {k : Kw} (h : kwOf (fld hd 0) = some k) (h2 : hd.length ≠ k.fields) : heading R l hd = .error (l, 111) := by unfold heading; rw [h]; simp [h2]
theorem heading_two {R : Rdr} {l : Nat} {hd : List Bs} {k : Kw} (h : kwOf (fld hd 0) = some k) (h2 : hd.length = k.fields) (h3 : k.again = false) (h4 : fld hd 0 ∈ R.heads) : heading R l hd = .error (l, 112) := by unfold heading; rw [h]; simp [h2, h3, h4]
theorem heading_do {R : Rdr} {l : Nat} {hd : List Bs} {k : Kw} (h : kwOf (fld hd 0) = some k) (h2 : hd.length = k.fields) (h3 : ¬ (k.again = false ∧ fld hd 0 ∈ R.heads)) : heading R l hd = hres (fld hd 0) (doKey { R with line := l } hd k.key) := by
 unfold heading hres
 rw [h]
 simp only
 rw [if_neg (by omega), if_neg h3]
 cases doKey { R with line := l } hd k.key <;> rfl
theorem readHeading_any {B rb tb nt l : Nat} {R : Rdr} {P : Pts} {w : World} {hd : List Bs} {t : List (Nat × List Bs)} (h : RAt B w rb R P) (hM : Mx B w) (hr : R.rows = (l, hd) :: t) (hT : MapF w 9 tb nt (kwF kwL13)) (hi : Inv R) :
  Calls Tryz.prog 59 #[ptr rb, .map (some tb)] w (Res B rb P w (heading { R with rows := t } l hd)) := by
 have hrk := h.rok (l, hd) (by rw [hr]; simp)
 have h0 : 0 < hd.length := List.length_pos_iff.2 hrk.2.1
 have hf0 := hrk.2.2 _ (List.mem_of_getElem? (fld_get h0))
 have e1 : (Fld.str (fld hd 0)).data.toList = fld hd 0 := by simp [Fld.str]
 have hsz : (Fld.str (fld hd 0)).size ≤ 65536 := by rw [fstr_wd, Wd.str_size]; omega
 have HN := hide (nextRow_any h hr)
 have HT : Hid (∀ w1, Kp rb w w1 → ∀ W, W.heap[tb]? = w1.heap[tb]? → (Instr.lookup 128 (.map (some tb)) (.string (Fld.str (fld hd 0))) true).run Tryz.prog W = .ok (.tuple #[((kwOf (fld hd 0)).map kval).getD (.agg zkw), .bool (kwOf (fld hd 0)).isSome]) W) := by
  intro w1 k1 W hW
  have hm := (k1.keptM h.rdr hT).kept hW
  have hkey := key9 (s := Fld.str (fld hd 0)) (by unfold maxLen; omega)
  rw [e1] at hkey
  have := hm.look2 law9 Tryz.underlying128 (zeroK W) hkey
  rw [kwF_of] at this
  rw [this]
  cases kwOf (fld hd 0) <;> rfl
 have HLP : Hid (∀ w1 fv rv, StrRow B w1 fv (hd.map Fld.str) → RAt B w1 rb { R with rows := t, line := l } { P with rv := rv } → Below B w w1 → Kp rb w w1 → LP B rb w w1 { R with rows := t, line := l } { P with rv := rv } P fv hd) := fun w1 fv rv s1 r1 l1 k1 => ⟨r1, h.kt k1 l1, s1, rfl, rfl, rfl⟩
 have HM := hide hM
 have HR0 := hide hrk
 have HI := hide hi
 have HRR := hide hr
 have H0 := hide h0
 have HE1 := hide e1
 have HSZ := hide hsz
 clear h hM hr hT hi hrk e1 hf0 hsz
 have hpos : (0 : Int) < (hd.length : Int) := by omega
 cases hk : kwOf (fld hd 0) with
 | none =>
  have HX := hide (heading_none (R := { R with rows := t }) (l := l) hk)
  rw [hk] at HT
  clear hk
  go_enter Tryz.func59, Tryz.ntmps59
  go_wp2_with (go_at_call 81; refine (unhide HN).mono ?_; rintro e w1 ⟨fv, rv, rfl, s1, r1, l1, k1⟩; have HL1 := hide (unhide HLP w1 fv rv s1 r1 l1 k1); have hlk : (Instr.lookup 128 (.map (some tb)) (.string (Fld.str (fld hd 0))) true).run Tryz.prog w1 = .ok (.tuple #[.agg #[.int .i64 0, .bool false, .nilFunc, .int .i64 0], .bool false]) w1 := unhide HT w1 k1 w1 rfl; obtain ⟨g, cap, rfl, hg, x1, x2, -, hc⟩ := str_cells s1; have q0 := hc 0 _ (fld_get (unhide H0)); clear s1 r1 l1 k1 hc HN)
  have bA := (Below.refl w1.heap.size w1).alloc (Nat.le_refl _) (.cells #[.int .i64 0, .bool false, .nilFunc, .int .i64 0] 151)
  refine (leaveIf_no rb l 110 _ (by decide) (by decide) ((unhide HL1).below bA).at_.cells.2.2.1).mono ?_
  rintro e w5 ⟨rfl, rfl⟩
  exact ⟨rfl, (unhide HL1).no bA (unhide HX)⟩
 | some k =>
  rw [hk] at HT
  have HK := hide hk
  by_cases hlen : hd.length = k.fields
  ·have hlf : ((hd.length : Int) != (k.fields : Int)) = false := by simp [hlen]
   have HLN := hide hlen
   have HX0 := hide (fun h3 => heading_do (R := { R with rows := t }) (l := l) hk hlen h3)
   have HX2 := hide (fun h3 h4 => heading_two (R := { R with rows := t }) (l := l) hk hlen h3 h4)
   clear hk hlen
   cases HAG : k.again with
   | true =>
    have HX := hide (unhide HX0 (fun q => by rw [HAG] at q; exact absurd q.1 (by decide)))
    have HST := hide (show ∀ z : Bs, fld hd 0 = z → k.again = false → z ∉ R.heads from fun _ _ q => by rw [HAG] at q; cases q)
    clear HX0 HX2
    go_enter Tryz.func59, Tryz.ntmps59
    go_wp2_with (first | (go_at_call 81; refine (unhide HN).mono ?_; rintro e w1 ⟨fv, rv, rfl, s1, r1, l1, k1⟩; have HL1 := hide ((unhide HLP w1 fv rv s1 r1 l1 k1).below ((Below.refl _ w1).alloc (Nat.le_refl _) (.cells #[.int .i64 k.fields, .bool true, .func (.func (fnOf k.key)) #[] #[], .int .i64 (whOf k.key)] 151))); have HBL := hide (alloc_new w1 (.cells #[.int .i64 k.fields, .bool true, .func (.func (fnOf k.key)) #[] #[], .int .i64 (whOf k.key)] 151)); have hlk : (Instr.lookup 128 (.map (some tb)) (.string (Fld.str (fld hd 0))) true).run Tryz.prog w1 = .ok (.tuple #[.agg #[.int .i64 k.fields, .bool true, .func (.func (fnOf k.key)) #[] #[], .int .i64 (whOf k.key)], .bool true]) w1 := (unhide HT w1 k1 w1 rfl).trans (by simp [kval, kwV, HAG]); obtain ⟨g, cap, rfl, hg, x1, x2, -, hc⟩ := str_cells s1; have q0 := hc 0 _ (fld_get (unhide H0)); clear s1 r1 l1 k1 hc HN) | (go_at_call 82; with_reducible (show Calls _ _ #[_, _, .int .i64 110] _ _); refine (leaveIf_f _ _ _ _ rfl).mono ?_; rintro e w3 ⟨rfl, hw3⟩; subst w3) | (go_at_call 82; with_reducible (show Calls _ _ #[_, _, .int .i64 111] _ _); refine (leaveIf_f _ _ _ _ (by first | rfl | exact hlf)).mono ?_; rintro e w3 ⟨rfl, hw3⟩; subst w3))
    refine (leaveIf_f _ _ _ _ rfl).mono ?_
    rintro e w5 ⟨rfl, hw5⟩
    rename_i K3 hK3 K2 hK2
    subst w5
    apply hK2
    refine hK3 _ _ ?_
    rw [unhide HX]
    refine hdg_tail (R := { R with rows := t, line := l }) (unhide HK) (unhide HL1) (unhide HM) (by rw [unhide HBL, kcells, HAG]) (unhide HLN) (unhide HR0).2.2 ?_ ?_ ?_ ?_ (unhide H0) _ _ _ _ _ _ _ _ _ _ _ _ _ _ _ _ _ _ _ _ _ _ _ _ _ _ _ _ _ _ _ _ _ _ _ _ _ _ _ _ _ _ _ _ _ _ _ _ _ _
    ·have := (unhide HI).cls
     have := (unhide HI).few
     show R.file.classes.length ≤ 65536
     omega
    ·intro q
     exact (unhide HI).reps ((unhide HST) _ (kw_reps (unhide HK) q).1 (kw_reps (unhide HK) q).2.1)
    ·intro q
     exact (unhide HI).alis ((unhide HST) _ (kw_alis (unhide HK) q).1 (kw_alis (unhide HK) q).2.1)
    ·have := (unhide HI).few
     rw [unhide HRR, List.length_cons] at this
     show R.heads.length < 65536
     omega
   | false =>
    by_cases hst : fld hd 0 ∈ R.heads
    ·have HX := hide (unhide HX2 HAG hst)
     have HSD : decide ((Fld.str (fld hd 0)).data.toList ∈ R.heads) = true := by rw [unhide HE1]; simpa using hst
     clear HX0 HX2 hst
     go_enter Tryz.func59, Tryz.ntmps59
     go_wp2_with (first | (go_at_call 81; refine (unhide HN).mono ?_; rintro e w1 ⟨fv, rv, rfl, s1, r1, l1, k1⟩; have HL1 := hide ((unhide HLP w1 fv rv s1 r1 l1 k1).below ((Below.refl _ w1).alloc (Nat.le_refl _) (.cells #[.int .i64 k.fields, .bool false, .func (.func (fnOf k.key)) #[] #[], .int .i64 (whOf k.key)] 151))); have HBL := hide (alloc_new w1 (.cells #[.int .i64 k.fields, .bool false, .func (.func (fnOf k.key)) #[] #[], .int .i64 (whOf k.key)] 151)); have hlk : (Instr.lookup 128 (.map (some tb)) (.string (Fld.str (fld hd 0))) true).run Tryz.prog w1 = .ok (.tuple #[.agg #[.int .i64 k.fields, .bool false, .func (.func (fnOf k.key)) #[] #[], .int .i64 (whOf k.key)], .bool true]) w1 := (unhide HT w1 k1 w1 rfl).trans (by simp [kval, kwV, HAG]); obtain ⟨g, cap, rfl, hg, x1, x2, -, hc⟩ := str_cells s1; have q0 := hc 0 _ (fld_get (unhide H0)); clear s1 r1 l1 k1 hc HN) | (go_at_call 82; with_reducible (show Calls _ _ #[_, _, .int .i64 110] _ _); refine (leaveIf_f _ _ _ _ rfl).mono ?_; rintro e w3 ⟨rfl, hw3⟩; subst w3) | (go_at_call 82; with_reducible (show Calls _ _ #[_, _, .int .i64 111] _ _); refine (leaveIf_f _ _ _ _ (by first | rfl | exact hlf)).mono ?_; rintro e w3 ⟨rfl, hw3⟩; subst w3) | (go_at_call 83; refine (stood_any (unhide HL1).at_ _ (unhide HSZ)).mono ?_; rintro e w3 ⟨rfl, hw3⟩; subst w3))
     refine (leaveIf_t rb l _ 112 _ (by first | rfl | exact HSD) (by decide) (by decide) (unhide HL1).at_.cells.2.2.1).mono ?_
     rintro e w5 ⟨rfl, rfl⟩
     exact ⟨rfl, (unhide HL1).no (Below.refl _ _) (unhide HX)⟩
    ·have HX := hide (unhide HX0 (fun q => hst q.2))
     have HST := hide (show ∀ z : Bs, fld hd 0 = z → k.again = false → z ∉ R.heads from fun z e _ => by rw [← e]; exact hst)
     have HSD : decide ((Fld.str (fld hd 0)).data.toList ∈ R.heads) = false := by rw [unhide HE1]; simpa using hst
     clear HX0 HX2 hst
     go_enter Tryz.func59, Tryz.ntmps59
     go_wp2_with (first | (go_at_call 81; refine (unhide HN).mono ?_; rintro e w1 ⟨fv, rv, rfl, s1, r1, l1, k1⟩; have HL1 := hide ((unhide HLP w1 fv rv s1 r1 l1 k1).below ((Below.refl _ w1).alloc (Nat.le_refl _) (.cells #[.int .i64 k.fields, .bool false, .func (.func (fnOf k.key)) #[] #[], .int .i64 (whOf k.key)] 151))); have HBL := hide (alloc_new w1 (.cells #[.int .i64 k.fields, .bool false, .func (.func (fnOf k.key)) #[] #[], .int .i64 (whOf k.key)] 151)); have hlk : (Instr.lookup 128 (.map (some tb)) (.string (Fld.str (fld hd 0))) true).run Tryz.prog w1 = .ok (.tuple #[.agg #[.int .i64 k.fields, .bool false, .func (.func (fnOf k.key)) #[] #[], .int .i64 (whOf k.key)], .bool true]) w1 := (unhide HT w1 k1 w1 rfl).trans (by simp [kval, kwV, HAG]); obtain ⟨g, cap, rfl, hg, x1, x2, -, hc⟩ := str_cells s1; have q0 := hc 0 _ (fld_get (unhide H0)); clear s1 r1 l1 k1 hc HN) | (go_at_call 82; with_reducible (show Calls _ _ #[_, _, .int .i64 110] _ _); refine (leaveIf_f _ _ _ _ rfl).mono ?_; rintro e w3 ⟨rfl, hw3⟩; subst w3) | (go_at_call 82; with_reducible (show Calls _ _ #[_, _, .int .i64 111] _ _); refine (leaveIf_f _ _ _ _ (by first | rfl | exact hlf)).mono ?_; rintro e w3 ⟨rfl, hw3⟩; subst w3) | (go_at_call 83; refine (stood_any (unhide HL1).at_ _ (unhide HSZ)).mono ?_; rintro e w3 ⟨rfl, hw3⟩; subst w3))
     refine (leaveIf_f _ _ _ _ (by first | rfl | exact HSD)).mono ?_
     rintro e w5 ⟨rfl, hw5⟩
     rename_i K3 hK3 K2 hK2
     subst w5
     apply hK2
     refine hK3 _ _ ?_
     rw [unhide HX]
     refine hdg_tail (R := { R with rows := t, line := l }) (unhide HK) (unhide HL1) (unhide HM) (by rw [unhide HBL, kcells, HAG]) (unhide HLN) (unhide HR0).2.2 ?_ ?_ ?_ ?_ (unhide H0) _ _ _ _ _ _ _ _ _ _ _ _ _ _ _ _ _ _ _ _ _ _ _ _ _ _ _ _ _ _ _ _ _ _ _ _ _ _ _ _ _ _ _ _ _ _ _ _ _ _
     ·have := (unhide HI).cls
      have := (unhide HI).few
      show R.file.classes.length ≤ 65536
      omega
     ·intro q
      exact (unhide HI).reps ((unhide HST) _ (kw_reps (unhide HK) q).1 (kw_reps (unhide HK) q).2.1)
     ·intro q
      exact (unhide HI).alis ((unhide HST) _ (kw_alis (unhide HK) q).1 (kw_alis (unhide HK) q).2.1)
     ·have := (unhide HI).few
      rw [unhide HRR, List.length_cons] at this
      show R.heads.length < 65536
      omega
  ·have HX := hide (heading_len (R := { R with rows := t }) (l := l) hk hlen)
   have hlf : ((hd.length : Int) != (k.fields : Int)) = true := by simp; omega
   clear hk hlen
   obtain ⟨ag, HAG⟩ : ∃ ag, k.again = ag := ⟨_, rfl⟩
   go_enter Tryz.func59, Tryz.ntmps59
   go_wp2_with (first | (go_at_call 81; refine (unhide HN).mono ?_; rintro e w1 ⟨fv, rv, rfl, s1, r1, l1, k1⟩; have HL1 := hide ((unhide HLP w1 fv rv s1 r1 l1 k1).below ((Below.refl _ w1).alloc (Nat.le_refl _) (.cells #[.int .i64 k.fields, .bool ag, .func (.func (fnOf k.key)) #[] #[], .int .i64 (whOf k.key)] 151))); have HBL := hide (alloc_new w1 (.cells #[.int .i64 k.fields, .bool ag, .func (.func (fnOf k.key)) #[] #[], .int .i64 (whOf k.key)] 151)); have hlk : (Instr.lookup 128 (.map (some tb)) (.string (Fld.str (fld hd 0))) true).run Tryz.prog w1 = .ok (.tuple #[.agg #[.int .i64 k.fields, .bool ag, .func (.func (fnOf k.key)) #[] #[], .int .i64 (whOf k.key)], .bool true]) w1 := (unhide HT w1 k1 w1 rfl).trans (by simp [kval, kwV, HAG]); obtain ⟨g, cap, rfl, hg, x1, x2, -, hc⟩ := str_cells s1; have q0 := hc 0 _ (fld_get (unhide H0)); clear s1 r1 l1 k1 hc HN) | (go_at_call 82; with_reducible (show Calls _ _ #[_, _, .int .i64 110] _ _); refine (leaveIf_f _ _ _ _ rfl).mono ?_; rintro e w3 ⟨rfl, hw3⟩; subst w3))
   refine (leaveIf_t rb l _ 111 _ (by first | rfl | exact hlf) (by decide) (by decide) (unhide HL1).at_.cells.2.2.1).mono ?_
   rintro e w5 ⟨rfl, rfl⟩
   exact ⟨rfl, (unhide HL1).no (Below.refl _ _) (unhide HX)⟩
end Af
end Go.Proofs.YtidhbhdcoanfcaaGreatDoor
