import Derived.Test.YtmhegbeemgagkaaGreatDoorAt
import Derived.Test.YtmhegbeemgagkaaGreatDoorGm30
set_option maxHeartbeats 8000000
set_option maxRecDepth 100000
namespace Go.Proofs.YtmhegbeemgagkaaGreatDoor
open Go.RowKit
namespace Af
open RowB
def kwV (n : Int) (a : Bool) (f : FuncId) (i : Int) : Value := .agg #[.int .i64 n, .bool a, .func (.func f) #[] #[], .int .i64 i]
def kwF (L : List (Bs × Value)) : Lit → Option Value
 | .string s => (L.find? fun p => p.1 == s).map (·.2)
 | _ => none
theorem kwF_snoc (L : List (Bs × Value)) (k : Bs) (v : Value) (h : (L.any fun p => p.1 == k) = false) : kwF (L ++ [(k, v)]) (.string k) = some v ∧ ∀ y, y ≠ .string k → kwF (L ++ [(k, v)]) y = kwF L y := by
 refine ⟨?_, fun y hy => ?_⟩
 ·show ((L ++ [(k, v)]).find? fun p => p.1 == k).map (·.2) = some v
  rw [List.find?_append]
  have : L.find? (fun p => p.1 == k) = none := by
   rw [List.find?_eq_none]
   intro p hp
   have := List.any_eq_false.1 h p hp
   simpa using this
  simp [this]
 ·cases y with
  | string s =>
   have hne : (k == s) = false := by
    rw [beq_eq_false_iff_ne]
    rintro rfl
    exact hy rfl
   show ((L ++ [(k, v)]).find? fun p => p.1 == s).map (·.2) = (L.find? fun p => p.1 == s).map (·.2)
   rw [List.find?_append]
   cases hq : L.find? (fun p => p.1 == s) with
   | none => simp [hne]
   | some q => simp
  | _ => rfl
def kwL0 : List (Bs × Value) := []
def kwL1 : List (Bs × Value) := kwL0 ++ [([70, 76, 65, 71], kwV 2 false 82 0)]
def kwL2 : List (Bs × Value) := kwL1 ++ [([83, 69, 84], kwV 2 false 83 0)]
def kwL3 : List (Bs × Value) := kwL2 ++ [([84, 82, 89], kwV 2 false 84 0)]
def kwL4 : List (Bs × Value) := kwL3 ++ [([78, 69, 69, 68, 65, 70, 70, 73, 88], kwV 2 false 85 0)]
def kwL5 : List (Bs × Value) := kwL4 ++ [([70, 79, 82, 66, 73, 68, 68, 69, 78, 87, 79, 82, 68], kwV 2 false 85 1)]
def kwL6 : List (Bs × Value) := kwL5 ++ [([75, 69, 69, 80, 67, 65, 83, 69], kwV 2 false 85 2)]
def kwL7 : List (Bs × Value) := kwL6 ++ [([67, 79, 77, 80, 79, 85, 78, 68, 70, 76, 65, 71], kwV 2 false 85 3)]
def kwL8 : List (Bs × Value) := kwL7 ++ [([78, 79, 83, 85, 71, 71, 69, 83, 84], kwV 2 false 85 4)]
def kwL9 : List (Bs × Value) := kwL8 ++ [([67, 79, 77, 80, 79, 85, 78, 68, 77, 73, 78], kwV 2 false 86 0)]
def kwL10 : List (Bs × Value) := kwL9 ++ [([82, 69, 80], kwV 2 false 87 0)]
def kwL11 : List (Bs × Value) := kwL10 ++ [([65, 70], kwV 2 false 88 0)]
def kwL12 : List (Bs × Value) := kwL11 ++ [([80, 70, 88], kwV 4 true 89 1)]
def kwL13 : List (Bs × Value) := kwL12 ++ [([83, 70, 88], kwV 4 true 89 2)]
theorem keywords_any (w : World) : Calls Tryz.prog 54 #[] w fun e w' => e = .returned (.map (some w.heap.size)) ∧ (∃ n, MapF w' 9 w.heap.size n (kwF kwL13)) ∧ Below w.heap.size w w' := by
 have hmm := @run_makeMap Tryz.prog
 have m0 : MapF (w.alloc (.map #[] 0)) 9 w.heap.size 0 (kwF kwL0) := by
  have := MapF.made w 9
  have e : (fun _ : Lit => (none : Option Value)) = kwF kwL0 := by
   funext y
   cases y <;> rfl
  rw [e] at this
  exact this
 have b0 : Below w.heap.size w (w.alloc (.map #[] 0)) := (Below.refl _ w).alloc (Nat.le_refl _) _
 obtain ⟨w1, r1, p1, g1⟩ := m0.put (t := 131) (key := .string ⟨#[70, 76, 65, 71]⟩) (kl := .string [70, 76, 65, 71]) law9 Tryz.underlying131 (by unfold maxLen; omega) (key9 (s := ⟨#[70, 76, 65, 71]⟩) (by decide)) trivial (kwV 2 false 82 0)
 have m1 := p1 (kwF kwL1) (kwF_snoc kwL0 [70, 76, 65, 71] _ (by decide)).1 (kwF_snoc kwL0 [70, 76, 65, 71] _ (by decide)).2
 have b1 : Below w.heap.size w w1 := b0.grown g1 b0.size (fun k hk => by injection hk with hk; omega)
 obtain ⟨w2, r2, p2, g2⟩ := m1.put (t := 131) (key := .string ⟨#[83, 69, 84]⟩) (kl := .string [83, 69, 84]) law9 Tryz.underlying131 (by unfold maxLen; omega) (key9 (s := ⟨#[83, 69, 84]⟩) (by decide)) trivial (kwV 2 false 83 0)
 have m2 := p2 (kwF kwL2) (kwF_snoc kwL1 [83, 69, 84] _ (by decide)).1 (kwF_snoc kwL1 [83, 69, 84] _ (by decide)).2
 have b2 : Below w.heap.size w w2 := b1.grown g2 b1.size (fun k hk => by injection hk with hk; omega)
 obtain ⟨w3, r3, p3, g3⟩ := m2.put (t := 131) (key := .string ⟨#[84, 82, 89]⟩) (kl := .string [84, 82, 89]) law9 Tryz.underlying131 (by unfold maxLen; omega) (key9 (s := ⟨#[84, 82, 89]⟩) (by decide)) trivial (kwV 2 false 84 0)
 have m3 := p3 (kwF kwL3) (kwF_snoc kwL2 [84, 82, 89] _ (by decide)).1 (kwF_snoc kwL2 [84, 82, 89] _ (by decide)).2
 have b3 : Below w.heap.size w w3 := b2.grown g3 b2.size (fun k hk => by injection hk with hk; omega)
 obtain ⟨w4, r4, p4, g4⟩ := m3.put (t := 131) (key := .string ⟨#[78, 69, 69, 68, 65, 70, 70, 73, 88]⟩) (kl := .string [78, 69, 69, 68, 65, 70, 70, 73, 88]) law9 Tryz.underlying131 (by unfold maxLen; omega) (key9 (s := ⟨#[78, 69, 69, 68, 65, 70, 70, 73, 88]⟩) (by decide)) trivial (kwV 2 false 85 0)
 have m4 := p4 (kwF kwL4) (kwF_snoc kwL3 [78, 69, 69, 68, 65, 70, 70, 73, 88] _ (by decide)).1 (kwF_snoc kwL3 [78, 69, 69, 68, 65, 70, 70, 73, 88] _ (by decide)).2
 have b4 : Below w.heap.size w w4 := b3.grown g4 b3.size (fun k hk => by injection hk with hk; omega)
 obtain ⟨w5, r5, p5, g5⟩ := m4.put (t := 131) (key := .string ⟨#[70, 79, 82, 66, 73, 68, 68, 69, 78, 87, 79, 82, 68]⟩) (kl := .string [70, 79, 82, 66, 73, 68, 68, 69, 78, 87, 79, 82, 68]) law9 Tryz.underlying131 (by unfold maxLen; omega) (key9 (s := ⟨#[70, 79, 82, 66, 73, 68, 68, 69, 78, 87, 79, 82, 68]⟩) (by decide)) trivial (kwV 2 false 85 1)
 have m5 := p5 (kwF kwL5) (kwF_snoc kwL4 [70, 79, 82, 66, 73, 68, 68, 69, 78, 87, 79, 82, 68] _ (by decide)).1 (kwF_snoc kwL4 [70, 79, 82, 66, 73, 68, 68, 69, 78, 87, 79, 82, 68] _ (by decide)).2
 have b5 : Below w.heap.size w w5 := b4.grown g5 b4.size (fun k hk => by injection hk with hk; omega)
 obtain ⟨w6, r6, p6, g6⟩ := m5.put (t := 131) (key := .string ⟨#[75, 69, 69, 80, 67, 65, 83, 69]⟩) (kl := .string [75, 69, 69, 80, 67, 65, 83, 69]) law9 Tryz.underlying131 (by unfold maxLen; omega) (key9 (s := ⟨#[75, 69, 69, 80, 67, 65, 83, 69]⟩) (by decide)) trivial (kwV 2 false 85 2)
 have m6 := p6 (kwF kwL6) (kwF_snoc kwL5 [75, 69, 69, 80, 67, 65, 83, 69] _ (by decide)).1 (kwF_snoc kwL5 [75, 69, 69, 80, 67, 65, 83, 69] _ (by decide)).2
 have b6 : Below w.heap.size w w6 := b5.grown g6 b5.size (fun k hk => by injection hk with hk; omega)
 obtain ⟨w7, r7, p7, g7⟩ := m6.put (t := 131) (key := .string ⟨#[67, 79, 77, 80, 79, 85, 78, 68, 70, 76, 65, 71]⟩) (kl := .string [67, 79, 77, 80, 79, 85, 78, 68, 70, 76, 65, 71]) law9 Tryz.underlying131 (by unfold maxLen; omega) (key9 (s := ⟨#[67, 79, 77, 80, 79, 85, 78, 68, 70, 76, 65, 71]⟩) (by decide)) trivial (kwV 2 false 85 3)
 have m7 := p7 (kwF kwL7) (kwF_snoc kwL6 [67, 79, 77, 80, 79, 85, 78, 68, 70, 76, 65, 71] _ (by decide)).1 (kwF_snoc kwL6 [67, 79, 77, 80, 79, 85, 78, 68, 70, 76, 65, 71] _ (by decide)).2
 have b7 : Below w.heap.size w w7 := b6.grown g7 b6.size (fun k hk => by injection hk with hk; omega)
 obtain ⟨w8, r8, p8, g8⟩ := m7.put (t := 131) (key := .string ⟨#[78, 79, 83, 85, 71, 71, 69, 83, 84]⟩) (kl := .string [78, 79, 83, 85, 71, 71, 69, 83, 84]) law9 Tryz.underlying131 (by unfold maxLen; omega) (key9 (s := ⟨#[78, 79, 83, 85, 71, 71, 69, 83, 84]⟩) (by decide)) trivial (kwV 2 false 85 4)
 have m8 := p8 (kwF kwL8) (kwF_snoc kwL7 [78, 79, 83, 85, 71, 71, 69, 83, 84] _ (by decide)).1 (kwF_snoc kwL7 [78, 79, 83, 85, 71, 71, 69, 83, 84] _ (by decide)).2
 have b8 : Below w.heap.size w w8 := b7.grown g8 b7.size (fun k hk => by injection hk with hk; omega)
 obtain ⟨w9, r9, p9, g9⟩ := m8.put (t := 131) (key := .string ⟨#[67, 79, 77, 80, 79, 85, 78, 68, 77, 73, 78]⟩) (kl := .string [67, 79, 77, 80, 79, 85, 78, 68, 77, 73, 78]) law9 Tryz.underlying131 (by unfold maxLen; omega) (key9 (s := ⟨#[67, 79, 77, 80, 79, 85, 78, 68, 77, 73, 78]⟩) (by decide)) trivial (kwV 2 false 86 0)
 have m9 := p9 (kwF kwL9) (kwF_snoc kwL8 [67, 79, 77, 80, 79, 85, 78, 68, 77, 73, 78] _ (by decide)).1 (kwF_snoc kwL8 [67, 79, 77, 80, 79, 85, 78, 68, 77, 73, 78] _ (by decide)).2
 have b9 : Below w.heap.size w w9 := b8.grown g9 b8.size (fun k hk => by injection hk with hk; omega)
 obtain ⟨w10, r10, p10, g10⟩ := m9.put (t := 131) (key := .string ⟨#[82, 69, 80]⟩) (kl := .string [82, 69, 80]) law9 Tryz.underlying131 (by unfold maxLen; omega) (key9 (s := ⟨#[82, 69, 80]⟩) (by decide)) trivial (kwV 2 false 87 0)
 have m10 := p10 (kwF kwL10) (kwF_snoc kwL9 [82, 69, 80] _ (by decide)).1 (kwF_snoc kwL9 [82, 69, 80] _ (by decide)).2
 have b10 : Below w.heap.size w w10 := b9.grown g10 b9.size (fun k hk => by injection hk with hk; omega)
 obtain ⟨w11, r11, p11, g11⟩ := m10.put (t := 131) (key := .string ⟨#[65, 70]⟩) (kl := .string [65, 70]) law9 Tryz.underlying131 (by unfold maxLen; omega) (key9 (s := ⟨#[65, 70]⟩) (by decide)) trivial (kwV 2 false 88 0)
 have m11 := p11 (kwF kwL11) (kwF_snoc kwL10 [65, 70] _ (by decide)).1 (kwF_snoc kwL10 [65, 70] _ (by decide)).2
 have b11 : Below w.heap.size w w11 := b10.grown g11 b10.size (fun k hk => by injection hk with hk; omega)
 obtain ⟨w12, r12, p12, g12⟩ := m11.put (t := 131) (key := .string ⟨#[80, 70, 88]⟩) (kl := .string [80, 70, 88]) law9 Tryz.underlying131 (by unfold maxLen; omega) (key9 (s := ⟨#[80, 70, 88]⟩) (by decide)) trivial (kwV 4 true 89 1)
 have m12 := p12 (kwF kwL12) (kwF_snoc kwL11 [80, 70, 88] _ (by decide)).1 (kwF_snoc kwL11 [80, 70, 88] _ (by decide)).2
 have b12 : Below w.heap.size w w12 := b11.grown g12 b11.size (fun k hk => by injection hk with hk; omega)
 obtain ⟨w13, r13, p13, g13⟩ := m12.put (t := 131) (key := .string ⟨#[83, 70, 88]⟩) (kl := .string [83, 70, 88]) law9 Tryz.underlying131 (by unfold maxLen; omega) (key9 (s := ⟨#[83, 70, 88]⟩) (by decide)) trivial (kwV 4 true 89 2)
 have m13 := p13 (kwF kwL13) (kwF_snoc kwL12 [83, 70, 88] _ (by decide)).1 (kwF_snoc kwL12 [83, 70, 88] _ (by decide)).2
 have b13 : Below w.heap.size w w13 := b12.grown g13 b12.size (fun k hk => by injection hk with hk; omega)
 have HM := hide m13
 have HB := hide b13
 unfold kwV at r1 r2 r3 r4 r5 r6 r7 r8 r9 r10 r11 r12 r13
 clear m1 p1 g1 b1 m2 p2 g2 b2 m3 p3 g3 b3 m4 p4 g4 b4 m5 p5 g5 b5 m6 p6 g6 b6 m7 p7 g7 b7 m8 p8 g8 b8 m9 p9 g9 b9 m10 p10 g10 b10 m11 p11 g11 b11 m12 p12 g12 b12 m13 p13 g13 b13 m0 b0
 go_enter Tryz.func54, Tryz.ntmps54
 go_wp2
 go_ret
 exact ⟨rfl, ⟨_, unhide HM⟩, unhide HB⟩
theorem times_rel {f : Rdr → Except Er Rdr} {rel : Rdr → Rdr → Prop} (rf : ∀ R, rel R R) (tr : ∀ a b c, rel a b → rel b c → rel a c) (hf : ∀ R R', f R = .ok R' → rel R R') : ∀ (n : Nat) (R R' : Rdr), times f n R = .ok R' → rel R R'
 | 0, R, R', h => by
  simp only [times, Except.ok.injEq] at h
  subst h
  exact rf _
 | n + 1, R, R', h => by
  rw [times] at h
  cases hq : f R with
  | error e => rw [hq] at h; cases h
  | ok R1 => rw [hq] at h; exact tr _ _ _ (hf _ _ hq) (times_rel rf tr hf n R1 R' h)
structure Mo (R R' : Rdr) : Prop where
 heads : R'.heads = R.heads
 rows : R'.rows.length ≤ R.rows.length
 cls : R'.file.classes = R.file.classes
theorem Mo.refl (R : Rdr) : Mo R R := ⟨rfl, Nat.le_refl _, rfl⟩
theorem Mo.trans {a b c : Rdr} (h : Mo a b) (k : Mo b c) : Mo a c := ⟨k.heads.trans h.heads, Nat.le_trans k.rows h.rows, k.cls.trans h.cls⟩
theorem grow_mo {R R1 : Rdr} {beg row : List Bs} (h : grow R beg = .ok (row, R1)) : Mo R R1 ∧ R1.file = R.file := by
 obtain ⟨l, t, h1, h2⟩ := grow_fld h
 subst h2
 exact ⟨⟨rfl, by rw [h1]; simp, rfl⟩, rfl⟩
theorem repStep_mo {key : Bs} {R R' : Rdr} (h : repStep key R = .ok R') : Mo R R' ∧ R'.file.aliases = R.file.aliases := by
 unfold repStep at h
 split at h
 ·cases h
 ·rename_i row R1 hg
  obtain ⟨m, e⟩ := grow_mo hg
  split at h
  ·cases h
  ·injection h with h
   subst h
   exact ⟨⟨m.heads, m.rows, m.cls⟩, by rw [e]⟩
theorem aliStep_mo {key : Bs} {R R' : Rdr} (h : aliStep key R = .ok R') : Mo R R' ∧ R'.file.reps = R.file.reps := by
 unfold aliStep at h
 split at h
 ·cases h
 ·rename_i row R1 hg
  obtain ⟨m, e⟩ := grow_mo hg
  split at h
  ·cases h
  ·injection h with h
   subst h
   exact ⟨⟨m.heads, m.rows, m.cls⟩, by rw [e]⟩
theorem rulStep_mo {beg : List Bs} {c : Cls} {R R' : Rdr} (h : rulStep beg c R = .ok R') : Mo R R' ∧ R'.file.reps = R.file.reps ∧ R'.file.aliases = R.file.aliases := by
 unfold rulStep at h
 split at h
 ·cases h
 ·rename_i row R1 hg
  obtain ⟨m, e⟩ := grow_mo hg
  split at h
  ·cases h
  ·injection h with h
   subst h
   exact ⟨⟨m.heads, m.rows, m.cls⟩, by rw [e], by rw [e]⟩
structure Kd (R R' : Rdr) (k : Key) : Prop where
 heads : R'.heads = R.heads
 rows : R'.rows.length ≤ R.rows.length
 cls : R'.file.classes.length ≤ R.file.classes.length + 1
 reps : k ≠ .reps → R'.file.reps = R.file.reps
 alis : k ≠ .aliases → R'.file.aliases = R.file.aliases
theorem doKey_kd {R R' : Rdr} {h : List Bs} {k : Key} (hk : doKey R h k = .ok R') : Kd R R' k := by
 cases k with
 | kind =>
  simp only [doKey, doKind] at hk
  repeat' split at hk
  all_goals first | (cases hk; done) | (injection hk with hk; subst hk; exact ⟨rfl, Nat.le_refl _, Nat.le_succ _, fun _ => rfl, fun _ => rfl⟩)
 | charset =>
  simp only [doKey, doCharset] at hk
  split at hk
  ·injection hk with hk; subst hk; exact ⟨rfl, Nat.le_refl _, Nat.le_succ _, fun _ => rfl, fun _ => rfl⟩
  ·cases hk
 | letters =>
  simp only [doKey, doLetters] at hk
  split at hk
  ·injection hk with hk; subst hk; exact ⟨rfl, Nat.le_refl _, Nat.le_succ _, fun _ => rfl, fun _ => rfl⟩
  ·cases hk
 | special i =>
  simp only [doKey, doSpecial] at hk
  split at hk
  ·cases hk
  ·injection hk with hk; subst hk; exact ⟨rfl, Nat.le_refl _, Nat.le_succ _, fun _ => rfl, fun _ => rfl⟩
 | least =>
  simp only [doKey, doLeast] at hk
  repeat' split at hk
  all_goals first | (cases hk; done) | (injection hk with hk; subst hk; exact ⟨rfl, Nat.le_refl _, Nat.le_succ _, fun _ => rfl, fun _ => rfl⟩)
 | reps =>
  simp only [doKey, doReps] at hk
  split at hk
  ·cases hk
  ·have m := times_rel (rel := fun R R' => Mo R R' ∧ R'.file.aliases = R.file.aliases) (fun R => ⟨Mo.refl R, rfl⟩) (fun a b c x y => ⟨x.1.trans y.1, y.2.trans x.2⟩) (fun R R' q => repStep_mo q) _ _ _ hk
   exact ⟨m.1.heads, m.1.rows, by rw [m.1.cls]; exact Nat.le_succ _, fun x => absurd rfl x, fun _ => m.2⟩
 | aliases =>
  simp only [doKey, doAliases] at hk
  split at hk
  ·cases hk
  ·split at hk
   ·cases hk
   ·have m := times_rel (rel := fun R R' => Mo R R' ∧ R'.file.reps = R.file.reps) (fun R => ⟨Mo.refl R, rfl⟩) (fun a b c x y => ⟨x.1.trans y.1, y.2.trans x.2⟩) (fun R R' q => aliStep_mo q) _ _ _ hk
    exact ⟨m.1.heads, m.1.rows, by rw [m.1.cls]; exact Nat.le_succ _, fun _ => m.2, fun x => absurd rfl x⟩
 | cls kk =>
  simp only [doKey, doClass] at hk
  split at hk
  ·cases hk
  ·split at hk
   ·cases hk
   ·split at hk
    ·cases hk
    ·split at hk
     ·cases hk
     ·have m := times_rel (rel := fun R R' => Mo R R' ∧ R'.file.reps = R.file.reps ∧ R'.file.aliases = R.file.aliases) (fun R => ⟨Mo.refl R, rfl, rfl⟩) (fun a b c x y => ⟨x.1.trans y.1, y.2.1.trans x.2.1, y.2.2.trans x.2.2⟩) (fun R R' q => rulStep_mo q) _ _ _ hk
      exact ⟨m.1.heads, m.1.rows, by rw [m.1.cls]; simp, fun _ => m.2.1, fun _ => m.2.2⟩
structure Inv (R : Rdr) : Prop where
 cls : R.file.classes.length ≤ R.heads.length
 few : R.heads.length + R.rows.length ≤ 65536
 reps : [82, 69, 80] ∉ R.heads → R.file.reps = []
 alis : [65, 70] ∉ R.heads → R.file.aliases = []
theorem kw_reps {s : Bs} {k : Kw} (h : kwOf s = some k) (hk : k.key = .reps) : s = [82, 69, 80] ∧ k.again = false ∧ k.fields = 2 := by
 unfold kwOf at h
 obtain ⟨p, hp, rfl⟩ := Option.map_eq_some_iff.1 h
 have hm := List.mem_of_find?_eq_some hp
 have hs : p.1 = s := by simpa using List.find?_some hp
 subst hs
 simp [kws] at hm
 rcases hm with rfl | rfl | rfl | rfl | rfl | rfl | rfl | rfl | rfl | rfl | rfl | rfl | rfl <;> first | (cases hk; done) | exact ⟨rfl, rfl, rfl⟩
theorem kw_alis {s : Bs} {k : Kw} (h : kwOf s = some k) (hk : k.key = .aliases) : s = [65, 70] ∧ k.again = false ∧ k.fields = 2 := by
 unfold kwOf at h
 obtain ⟨p, hp, rfl⟩ := Option.map_eq_some_iff.1 h
 have hm := List.mem_of_find?_eq_some hp
 have hs : p.1 = s := by simpa using List.find?_some hp
 subst hs
 simp [kws] at hm
 rcases hm with rfl | rfl | rfl | rfl | rfl | rfl | rfl | rfl | rfl | rfl | rfl | rfl | rfl <;> first | (cases hk; done) | exact ⟨rfl, rfl, rfl⟩
theorem heading_inv {R R' : Rdr} {l : Nat} {hd : List Bs} {t : List (Nat × List Bs)} (hi : Inv R) (hr : R.rows = (l, hd) :: t) (h : heading { R with rows := t } l hd = .ok R') : Inv R' ∧ R'.rows.length ≤ t.length := by
 unfold heading at h
 split at h
 ·cases h
 ·rename_i k hk
  split at h
  ·cases h
  ·split at h
   ·cases h
   ·rename_i hag
    split at h
    ·cases h
    ·rename_i R2 hd2
     injection h with h
     subst h
     have d := doKey_kd hd2
     have hl := hi.few
     have hc := hi.cls
     rw [hr, List.length_cons] at hl
     have e1 : R2.heads = R.heads := d.heads
     have e2 : R2.rows.length ≤ t.length := d.rows
     have e3 : R2.file.classes.length ≤ R.file.classes.length + 1 := d.cls
     refine ⟨⟨?_, ?_, fun hn => ?_, fun hn => ?_⟩, e2⟩
     ·simp only [List.length_append, List.length_singleton, e1]; omega
     ·simp only [List.length_append, List.length_singleton, e1]; omega
     ·simp only [List.mem_append, List.mem_singleton, not_or, e1] at hn
      have : k.key ≠ .reps := fun q => hn.2 (kw_reps hk q).1.symm
      exact (d.reps this).trans (hi.reps hn.1)
     ·simp only [List.mem_append, List.mem_singleton, not_or, e1] at hn
      have : k.key ≠ .aliases := fun q => hn.2 (kw_alis hk q).1.symm
      exact (d.alis this).trans (hi.alis hn.1)
def fnOf : Key → FuncId
 | .kind => 82
 | .charset => 83
 | .letters => 84
 | .special _ => 85
 | .least => 86
 | .reps => 87
 | .aliases => 88
 | .cls _ => 89
def whOf : Key → Int
 | .special i => i
 | .cls k => k
 | _ => 0
def kval (k : Kw) : Value := kwV k.fields k.again (fnOf k.key) (whOf k.key)
theorem kw_table : kwL13 = kws.map fun p => (p.1, kval p.2) := by rfl
theorem kwF_of (s : Bs) : kwF kwL13 (.string s) = (kwOf s).map kval := by
 show (kwL13.find? fun p => p.1 == s).map (·.2) = _
 rw [kw_table, List.find?_map]
 unfold kwOf
 simp only [Option.map_map]
 rfl
theorem ent_fn (k : Key) (x y z : Value) (W : World) : Sem.run Tryz.prog (callFunc (fnOf k) #[x, y, z]) W = .ok (.enter (fnOf k) #[x, y, z]) W := by
 cases k <;> kernel_rfl
theorem dispatch {B rb : Nat} {R : Rdr} {P : Pts} {w : World} {s : Bs} {k : Kw} (hk : kwOf s = some k) (h : RAt B w rb R P) (hM : Mx B w) (hd : List Bs) (hv : Value) (hrow : StrRow B w hv (hd.map Fld.str)) (hlen : hd.length = k.fields) (hf : ∀ f ∈ hd, f.length ≤ 65536)
  (hcn : R.file.classes.length ≤ 65536) (hre : k.key = .reps → R.file.reps = []) (hal : k.key = .aliases → R.file.aliases = []) :
  Calls Tryz.prog (fnOf k.key) #[ptr rb, hv, .int .i64 (whOf k.key)] w (Res B rb P w (doKey R hd k.key)) := by
 unfold kwOf at hk
 obtain ⟨p, hp, rfl⟩ := Option.map_eq_some_iff.1 hk
 have hm := List.mem_of_find?_eq_some hp
 simp [kws] at hm
 rcases hm with rfl | rfl | rfl | rfl | rfl | rfl | rfl | rfl | rfl | rfl | rfl | rfl | rfl
 ·exact readKind_any h _ hd hv hrow hlen
 ·exact readCharset_any h _ hd hv hrow hlen hf
 ·exact readTry_any h _ hd hv hrow hlen hf
 ·exact readSpecial_any (i := 0) (by decide) h hd hv hrow hlen hf
 ·exact readSpecial_any (i := 1) (by decide) h hd hv hrow hlen hf
 ·exact readSpecial_any (i := 2) (by decide) h hd hv hrow hlen hf
 ·exact readSpecial_any (i := 3) (by decide) h hd hv hrow hlen hf
 ·exact readSpecial_any (i := 4) (by decide) h hd hv hrow hlen hf
 ·exact readLeast_any h _ hd hv hrow hlen hf
 ·exact readReps_any h _ hd hv hrow hlen hf (hre rfl)
 ·exact readAliases_any h hM _ hd hv hrow hlen hf (hal rfl)
 ·exact readClass_any h hM 1 hd hv hrow hlen hf hcn
 ·exact readClass_any h hM 2 hd hv hrow hlen hf hcn
theorem cnt_getD (H : List Bs) (s : Bs) : (cnt H (.string s)).getD (.int .i64 0) = .int .i64 (H.count s : Nat) := by
 by_cases h : s ∈ H
 ·rw [cnt_in h]; rfl
 ·rw [cnt_out h, List.count_eq_zero.2 h]; rfl
theorem RAt.head {B rb : Nat} {R : Rdr} {P : Pts} {w : World} (h : RAt B w rb R P) (key : Bs) (hk : key.length ≤ 65536) (hlt : R.heads.length < 65536) :
  (Instr.lookup 82 (.map (some P.hm)) (.string (Fld.str key)) false).run Tryz.prog w = .ok (.int .i64 (R.heads.count key : Nat)) w ∧
  ∃ w', (Instr.mapUpdate 82 (.map (some P.hm)) (.string (Fld.str key)) (.int .i64 ((R.heads.count key : Nat) + 1))).run Tryz.prog w = .ok () w' ∧ RAt B w' rb { R with heads := R.heads ++ [key] } P ∧ Kt B P.pm P.hm w w' := by
 obtain ⟨n, hn, hm⟩ := h.hds
 have hsz : (Fld.str key).size ≤ maxLen := by rw [fstr_wd, Wd.str_size]; unfold maxLen; omega
 have e1 : (Fld.str key).data.toList = key := by simp [Fld.str]
 have hkey := key9 hsz
 rw [e1] at hkey
 have hlook := hm.look law9 Tryz.underlying82 (zero3 w) hkey
 rw [cnt_getD] at hlook
 refine ⟨hlook, ?_⟩
 obtain ⟨w', hr, hput, hg⟩ := hm.put (v := .int .i64 ((R.heads.count key : Nat) + 1)) law9 Tryz.underlying82 (by unfold maxLen; omega) hkey trivial
 obtain ⟨es, c, ee⟩ := hm.isMap
 have kp : Kp P.hm w w' := Kp.of_grown hg
 have kq : Kq [] (· = P.hm) w w' := Kq.kpm kp ee rfl
 have low : Below B w w' := (Below.refl B w).grown hg (Nat.le_of_lt (Nat.lt_of_le_of_lt h.hmB hm.lt)) (fun k hk => by injection hk with hk; rw [← hk]; exact h.hmB)
 have hf : FAt B w' R.file P := h.file.kq kq rfl rfl ((kq.cells _ _ _ _ h.file.fil (by simp)).trans h.file.fil) (.inr ⟨rfl, fun e => h.hne e.symm⟩) (.inr ⟨rfl, rfl, by simp⟩) (.inr ⟨rfl, rfl, rfl, by simp⟩) (.inr ⟨rfl, rfl, by simp⟩) (.inr ⟨rfl, rfl, rfl, by simp⟩) (by simp) h.file.ok
 refine ⟨w', hr, ⟨h.rbB, h.hmB, (kq.cells _ _ _ _ h.rdr (by simp)).trans h.rdr, rows_kept h.rows (fun g cur q => kq.cells g cur _ (0, 0) q (by simp)) (fun g cur q => kq.cells g cur _ (0, 0) q (by simp)), ⟨n + 1, by simp; omega, hput _ ?_ ?_⟩, h.hne, own_kq h.lns kq (by simp), hf, ⟨by simp; omega, h.few.2.1, h.few.2.2⟩, h.rok⟩, kq.kt low (by simp) (fun g e => .inr e)⟩
 ·rw [cnt_in (by simp)]
  simp [List.count_append]
 ·intro x hx
  cases x with
  | string s =>
   have hne : s ≠ key := fun e => hx (by rw [e])
   simp only [cnt, List.mem_append, List.mem_singleton, hne, or_false, List.count_append]
   rw [List.count_singleton]
   have : (key == s) = false := by simpa using fun e : key = s => hne e.symm
   simp [this]
  | _ => rfl
end Af
namespace Af
theorem kw_mem {s : Bs} {k : Kw} (h : kwOf s = some k) : (s, k) ∈ kws := by
 unfold kwOf at h
 obtain ⟨p, hp, rfl⟩ := Option.map_eq_some_iff.1 h
 have hm := List.mem_of_find?_eq_some hp
 have hs : p.1 = s := by simpa using List.find?_some hp
 subst hs
 exact hm
structure KwSp (s : Bs) (k : Kw) : Prop where
 sp : spN s = match k.key with
  | .special i => (i : Int)
  | _ => -1
 lt : ∀ i, k.key = .special i → i < 5
 cl : (∃ q, k.key = .cls q) ↔ (s = [80, 70, 88] ∨ s = [83, 70, 88])
theorem kw_sp {s : Bs} {k : Kw} (h : kwOf s = some k) : KwSp s k := by
 have hm := kw_mem h
 simp only [kws, List.mem_cons, Prod.mk.injEq, List.not_mem_nil, or_false] at hm
 rcases hm with ⟨rfl, rfl⟩ | ⟨rfl, rfl⟩ | ⟨rfl, rfl⟩ | ⟨rfl, rfl⟩ | ⟨rfl, rfl⟩ | ⟨rfl, rfl⟩ | ⟨rfl, rfl⟩ | ⟨rfl, rfl⟩ | ⟨rfl, rfl⟩ | ⟨rfl, rfl⟩ | ⟨rfl, rfl⟩ | ⟨rfl, rfl⟩ | ⟨rfl, rfl⟩
 all_goals refine ⟨by decide, fun i hi => ?_, ?_⟩
 all_goals first
  | (injection hi with hi; subst hi; decide)
  | (cases hi; done)
  | (
    constructor
    ·rintro ⟨q, hq⟩
     first
      | (cases hq; done)
      | decide
    ·intro hq
     first
      | exact ⟨_, rfl⟩
      | (exact absurd hq (by decide)))
def Ks (R R' : Rdr) : Prop := R'.file.specials = R.file.specials ∧ R'.file.classes = R.file.classes
theorem grow_ks {R R1 : Rdr} {beg row : List Bs} (h : grow R beg = .ok (row, R1)) : Ks R R1 := by
 obtain ⟨-, e⟩ := grow_mo h
 exact ⟨by rw [e], by rw [e]⟩
theorem repStep_ks {key : Bs} {R R' : Rdr} (h : repStep key R = .ok R') : Ks R R' := by
 unfold repStep at h
 split at h
 ·cases h
 ·rename_i row R1 hg
  split at h
  ·cases h
  ·injection h with h
   subst h
   exact ⟨(grow_ks hg).1, (grow_ks hg).2⟩
theorem aliStep_ks {key : Bs} {R R' : Rdr} (h : aliStep key R = .ok R') : Ks R R' := by
 unfold aliStep at h
 split at h
 ·cases h
 ·rename_i row R1 hg
  split at h
  ·cases h
  ·injection h with h
   subst h
   exact ⟨(grow_ks hg).1, (grow_ks hg).2⟩
theorem rulStep_ks {beg : List Bs} {c : Cls} {R R' : Rdr} (h : rulStep beg c R = .ok R') : Ks R R' := by
 unfold rulStep at h
 split at h
 ·cases h
 ·rename_i row R1 hg
  split at h
  ·cases h
  ·injection h with h
   subst h
   exact ⟨(grow_ks hg).1, (grow_ks hg).2⟩
theorem Ks.refl (R : Rdr) : Ks R R := ⟨rfl, rfl⟩
theorem Ks.trans {a b c : Rdr} (h : Ks a b) (k : Ks b c) : Ks a c := ⟨k.1.trans h.1, k.2.trans h.2⟩
theorem times_ks {f : Rdr → Except Er Rdr} (hf : ∀ R R', f R = .ok R' → Ks R R') {n : Nat} {R R' : Rdr} (h : times f n R = .ok R') : Ks R R' := times_rel (rel := Ks) Ks.refl (fun _ _ _ => Ks.trans) hf n R R' h
structure KsK (R R' : Rdr) (k : Key) : Prop where
 sp : ∀ i, k = .special i → (i < R.file.specials.length → ∃ x ∈ R'.file.specials, x ≠ 0) ∧ R'.file.classes = R.file.classes
 cl : ∀ q, k = .cls q → R'.file.specials = R.file.specials ∧ R'.file.classes ≠ []
 no : (∀ i, k ≠ .special i) → (∀ q, k ≠ .cls q) → Ks R R'
theorem KsK.of {R R' : Rdr} {k : Key} (h : Ks R R') (h1 : ∀ i, k ≠ .special i) (h2 : ∀ q, k ≠ .cls q) : KsK R R' k := ⟨fun i e => absurd e (h1 i), fun q e => absurd e (h2 q), fun _ _ => h⟩
theorem doKey_ks {R R' : Rdr} {h : List Bs} {k : Key} (hk : doKey R h k = .ok R') : KsK R R' k := by
 cases k with
 | kind =>
  refine .of ?_ (fun i e => by cases e) (fun q e => by cases e)
  simp only [doKey, doKind] at hk
  repeat' split at hk
  all_goals first | (cases hk; done) | (injection hk with hk; subst hk; exact ⟨rfl, rfl⟩)
 | charset =>
  refine .of ?_ (fun i e => by cases e) (fun q e => by cases e)
  simp only [doKey, doCharset] at hk
  split at hk
  ·injection hk with hk; subst hk; exact ⟨rfl, rfl⟩
  ·cases hk
 | letters =>
  refine .of ?_ (fun i e => by cases e) (fun q e => by cases e)
  simp only [doKey, doLetters] at hk
  split at hk
  ·injection hk with hk; subst hk; exact ⟨rfl, rfl⟩
  ·cases hk
 | special i =>
  simp only [doKey, doSpecial] at hk
  split at hk
  ·cases hk
  ·rename_i x hx
   injection hk with hk
   subst hk
   have hp := (newFlag_pos hx).1
   refine ⟨fun j e => ⟨fun hj => ⟨x, ?_, by omega⟩, rfl⟩, fun q e => (by cases e), fun h1 _ => absurd rfl (h1 i)⟩
   injection e with e
   subst e
   exact List.mem_of_getElem? (i := i) (by simp [hj])
 | least =>
  refine .of ?_ (fun i e => by cases e) (fun q e => by cases e)
  simp only [doKey, doLeast] at hk
  repeat' split at hk
  all_goals first | (cases hk; done) | (injection hk with hk; subst hk; exact ⟨rfl, rfl⟩)
 | reps =>
  refine .of ?_ (fun i e => by cases e) (fun q e => by cases e)
  simp only [doKey, doReps] at hk
  split at hk
  ·cases hk
  ·exact times_ks (fun R R' => repStep_ks) hk
 | aliases =>
  refine .of ?_ (fun i e => by cases e) (fun q e => by cases e)
  simp only [doKey, doAliases] at hk
  split at hk
  ·cases hk
  ·split at hk
   ·cases hk
   ·exact times_ks (fun R R' => aliStep_ks) hk
 | cls kk =>
  simp only [doKey, doClass] at hk
  split at hk
  ·cases hk
  ·split at hk
   ·cases hk
   ·split at hk
    ·cases hk
    ·split at hk
     ·cases hk
     ·have m := times_ks (fun R R' => rulStep_ks) hk
      refine ⟨fun i e => (by cases e), fun q e => ⟨m.1, ?_⟩, fun _ h2 => absurd rfl (h2 kk)⟩
      rw [m.2]
      simp
structure Dv (R : Rdr) : Prop where
 sp : (∃ x ∈ R.file.specials, x ≠ 0) ↔ ∃ q ∈ R.heads, 0 ≤ spN q
 cl : R.file.classes ≠ [] ↔ ([80, 70, 88] ∈ R.heads ∨ [83, 70, 88] ∈ R.heads)
theorem start_dv (l : Bs) : Dv (start l) := by
 refine ⟨⟨?_, ?_⟩, ⟨?_, ?_⟩⟩
 ·rintro ⟨x, hx, hn⟩
  simp [start] at hx
  exact absurd hx hn
 ·rintro ⟨q, hq, -⟩
  simp [start] at hq
 ·intro h
  exact absurd rfl h
 ·rintro (h | h) <;> simp [start] at h
theorem heading_dv {R R' : Rdr} {l : Nat} {hd : List Bs} {t : List (Nat × List Bs)} (h5 : R.file.specials.length = 5) (hi : Dv R) (h : heading { R with rows := t } l hd = .ok R') : Dv R' := by
 unfold heading at h
 split at h
 ·cases h
 ·rename_i k hk
  split at h
  ·cases h
  ·split at h
   ·cases h
   ·split at h
    ·cases h
    ·rename_i R2 hd2
     injection h with h
     subst h
     have e1 : R2.heads = R.heads := (doKey_kd hd2).heads
     have d := doKey_ks hd2
     have s := kw_sp hk
     generalize fld hd 0 = key at *
     refine ⟨?_, ?_⟩
     ·simp only [e1, List.mem_append, List.mem_singleton]
      by_cases hs : ∃ i, k.key = .special i
      ·obtain ⟨i, hs⟩ := hs
       have h1 := ((d.sp i hs).1 (by show i < R.file.specials.length; rw [h5]; exact s.lt i hs))
       have h2 : spN key = (i : Int) := by rw [s.sp, hs]
       exact ⟨fun _ => ⟨key, .inr rfl, by omega⟩, fun _ => h1⟩
      ·have hs' : ∀ i, k.key ≠ .special i := fun i e => hs ⟨i, e⟩
       have h2 : spN key = -1 := by
        rw [s.sp]
        cases hkk : k.key with
        | special i => exact absurd hkk (hs' i)
        | _ => rfl
       have h3 : R2.file.specials = R.file.specials := by
        by_cases hc : ∃ q, k.key = .cls q
        ·obtain ⟨q, hc⟩ := hc
         exact (d.cl q hc).1
        ·exact (d.no hs' fun q e => hc ⟨q, e⟩).1
       rw [h3, hi.sp]
       constructor
       ·rintro ⟨q, hq, hp⟩
        exact ⟨q, .inl hq, hp⟩
       ·rintro ⟨q, hq | rfl, hp⟩
        ·exact ⟨q, hq, hp⟩
        ·omega
     ·simp only [e1, List.mem_append, List.mem_singleton]
      by_cases hc : ∃ q, k.key = .cls q
      ·have h1 := s.cl.1 hc
       obtain ⟨q, hc⟩ := hc
       refine ⟨fun _ => ?_, fun _ => (d.cl q hc).2⟩
       rcases h1 with h1 | h1
       ·exact .inl (.inr h1.symm)
       ·exact .inr (.inr h1.symm)
      ·have h1 : ¬ (key = [80, 70, 88] ∨ key = [83, 70, 88]) := fun e => hc (s.cl.2 e)
       have h3 : R2.file.classes = R.file.classes := by
        by_cases hs : ∃ i, k.key = .special i
        ·obtain ⟨i, hs⟩ := hs
         exact (d.sp i hs).2
        ·exact (d.no (fun i e => hs ⟨i, e⟩) fun q e => hc ⟨q, e⟩).2
       rw [h3, hi.cl]
       constructor
       ·rintro (q | q)
        ·exact .inl (.inl q)
        ·exact .inr (.inl q)
       ·rintro ((q | q) | (q | q))
        ·exact .inl q
        ·exact absurd (.inl q.symm) h1
        ·exact .inr q
        ·exact absurd (.inr q.symm) h1
def barK (q : Bs) : Prop := 0 ≤ spN q ∨ q = [65, 70] ∨ q = [80, 70, 88] ∨ q = [83, 70, 88]
theorem kind_bar {R : Rdr} (d : Dv R) : (∃ q ∈ R.heads, barK q) ↔ ((∃ x ∈ R.file.specials, x ≠ 0) ∨ [65, 70] ∈ R.heads ∨ R.file.classes ≠ []) := by
 rw [d.sp, d.cl]
 constructor
 ·rintro ⟨q, hq, h | rfl | rfl | rfl⟩
  ·exact .inl ⟨q, hq, h⟩
  ·exact .inr (.inl hq)
  ·exact .inr (.inr (.inl hq))
  ·exact .inr (.inr (.inr hq))
 ·rintro (⟨q, hq, h⟩ | h | h | h)
  ·exact ⟨q, hq, .inl h⟩
  ·exact ⟨_, h, .inr (.inl rfl)⟩
  ·exact ⟨_, h, .inr (.inr (.inl rfl))⟩
  ·exact ⟨_, h, .inr (.inr (.inr rfl))⟩
open RowB
theorem flags_doc {B : Nat} {F : Fil} {P : DPts} {w : World} (h : DFAt B w F P) (s : ByteArray) (hs : s.size ≤ 1048576) :
  Calls Tryz.prog 19 #[ptr P.fb, .string s] w fun e w' => ∃ u, e = .returned (.tuple #[u, .int .i64 (flgE F s.data.toList)]) ∧ So.IRow 0 w' u (flgS F s.data.toList) ∧ Below w.heap.size w w' := by
 obtain ⟨d0, -, -, -, -, d10, -, -, dz⟩ := h.cells
 by_cases ha : F.aliases = []
 ·have e1 : flgE F s.data.toList = So.rE F.kind s.data.toList := by unfold flgE; rw [if_pos ha]
  have e2 : flgS F s.data.toList = So.rS F.kind s.data.toList := by unfold flgS; rw [if_pos ha]
  rw [e1, e2]
  have HR := hide (fun W => So.refReadAll F.kind s W hs)
  obtain ⟨ao, cap, e0, -, -⟩ := own_len h.alis
  rw [e0, show F.aliases.length = 0 by rw [ha]; rfl] at d10
  clear e1 e2 ha h e0
  generalize P.fb = fb at *
  go_enter Tryz.func19, Tryz.ntmps19
  go_wp2_with (go_at_call 44; refine (unhide HR _).mono ?_; rintro e w3 ⟨u, rfl, f3, b3⟩)
  go_ret2
  exact ⟨u, rfl, f3, b3⟩
 ·have hpos : 0 < F.aliases.length := List.length_pos_iff.2 ha
  have h1024 := h.ok.ali
  obtain ⟨g, cap, e0, hgB, hg, hcap, hmx, -, hcl⟩ := own_at h.alis hpos
  rw [e0] at d10
  have hN0 : ((F.aliases.length : Int) == 0) = false := by rw [beq_eq_false_iff_ne]; omega
  have HN := hide (fun W => NumW.ref_any s (F.aliases.length : Int) W (by unfold maxLen; omega) (by omega) (by omega))
  by_cases hq : Num.numE s.data.toList F.aliases.length = 0 ∧ flgN F s.data.toList ≠ 0
  ·have e1 : flgE F s.data.toList = 0 := by unfold flgE; rw [if_neg ha, if_pos hq]
   have e2 : flgS F s.data.toList = (F.aliases[flgN F s.data.toList - 1]?).getD [] := by unfold flgS; rw [if_neg ha, if_pos hq]
   obtain ⟨n1, n2⟩ := num_pos hq.1
   have hq1 := hq.1
   have hq2 := hq.2
   unfold flgN at hq2 e2
   rw [hq1, n1] at HN
   rw [e1, e2]
   generalize (Num.numN s.data.toList F.aliases.length).toNat = k at *
   obtain ⟨a, hka⟩ : ∃ a, F.aliases[k - 1]? = some a := ⟨_, List.getElem?_eq_getElem (by omega)⟩
   obtain ⟨v, hkv⟩ : ∃ v, P.av[k - 1]? = some v := ⟨_, List.getElem?_eq_getElem (by rw [h.aliF.1]; omega)⟩
   have hfn := h.aliF.2 _ _ _ hkv hka
   have hcv : w.cell? ⟨g, k - 1, none⟩ = some v := (hcl _ (by omega)).trans hkv
   rw [hka, Option.getD_some]
   obtain ⟨ao, cp, rfl, -, -⟩ := hfn.form
   have HF := hide hfn
   have hk00 : ((k : Int) == 0) = false := by rw [beq_eq_false_iff_ne]; omega
   have hk0 : ¬ ((k : Int) = 0) := by omega
   have hk1 : ¬ ((k : Int) - 1 < 0) := by omega
   have hk2 : ((k : Int) - 1) < (F.aliases.length : Int) := by omega
   have hk3 : ((k : Int) - 1).toNat = k - 1 := by omega
   have hkb : (k : Int) ≤ 65536 := by omega
   generalize F.aliases.length = N at *
   clear e1 e2 ha h hq hq1 n1 hka hkv hfn hcl e0 d0
   generalize P.fb = fb at *
   go_enter Tryz.func19, Tryz.ntmps19
   go_wp2_with (go_at_call 45; refine (unhide HN _).mono ?_; rintro e w3 ⟨rfl, rfl⟩)
   go_ret2
   exact ⟨_, rfl, unhide HF, Below.refl _ _⟩
  ·have e1 : flgE F s.data.toList = 13 := by unfold flgE; rw [if_neg ha, if_neg hq]
   have e2 : flgS F s.data.toList = [] := by unfold flgS; rw [if_neg ha, if_neg hq]
   rw [e1, e2]
   have hcs : Hid ((Num.numE s.data.toList F.aliases.length = 0 ∧ Num.numN s.data.toList F.aliases.length = 0) ∨ Num.numE s.data.toList F.aliases.length = 13) := by
    rcases numE_or s.data.toList F.aliases.length with q | q
    ·obtain ⟨n1, -⟩ := num_pos q
     unfold flgN at hq
     have z : ¬ (Num.numN s.data.toList F.aliases.length).toNat ≠ 0 := fun z => hq ⟨q, z⟩
     exact .inl ⟨q, by omega⟩
    ·exact .inr q
   clear e1 e2 ha h hq e0 d0 hcl
   generalize P.fb = fb at *
   rcases unhide hcs with ⟨q1, q2⟩ | q1
   ·rw [q1, q2] at HN
    clear q1 q2 hcs
    generalize F.aliases.length = N at *
    go_enter Tryz.func19, Tryz.ntmps19
    go_wp2_with (go_at_call 45; refine (unhide HN _).mono ?_; rintro e w3 ⟨rfl, rfl⟩)
    go_ret2
    exact ⟨_, rfl, So.IRow.nil _ _, Below.refl _ _⟩
   ·rw [q1] at HN
    clear q1 hcs
    generalize Num.numN s.data.toList F.aliases.length = nn at *
    generalize F.aliases.length = N at *
    go_enter Tryz.func19, Tryz.ntmps19
    go_wp2_with (go_at_call 45; refine (unhide HN _).mono ?_; rintro e w3 ⟨rfl, rfl⟩)
    go_ret2
    exact ⟨_, rfl, So.IRow.nil _ _, Below.refl _ _⟩
theorem kind_ok {F : Fil} (ok : FilOk F) (k : Int) (hk : k = 1 ∨ k = 2 ∨ k = 3) : FilOk { F with kind := k } := ⟨hk, ok.spec, ok.specB, ok.cls, ok.reps, ok.ali, ok.aliS, ok.rul, ok.len⟩
theorem RowIn.get {B : Nat} {w : World} {v : Value} {L : List Bs} (h : RowIn B w v L) : ∃ g cap, v = .slice (some ⟨g, 0, none⟩) L.length cap ∧ g < B ∧ (L.length : Int) ≤ 9223372036854775807 ∧ ∀ i, i < L.length → w.cell? ⟨g, i, none⟩ = some (.string (Fld.str (fld L i))) := by
 obtain ⟨g, cap, e, h1, h2, h3, h4⟩ := h
 refine ⟨g, cap, e, h1, by unfold maxLen at h3; omega, fun i hi => h4 i _ (fld_get hi)⟩
theorem kind_doc {B rb : Nat} {w : World} {R : Rdr} {P : DPts} {v : Value} {A : List (Nat × List Bs)} (h : DAt B w rb R P v A) (hD : Dv R) (hd : List Bs) (hv : Value) (hrow : RowIn B w hv hd) (hlen : hd.length = 2) :
  Calls Tryz.prog 62 #[ptr rb, hv] w (DRes B rb v A w (doKind R (fld hd 1))) := by
 obtain ⟨ao, cap, eh, hmx, hcl⟩ := own_strs h.hds
 have HH := hide h
 have HSP := hide (fun s W => special_any s W)
 have HBW : Hid (∀ w1, Below w.heap.size w w1 → Below B w w1) := fun w1 b => b.mono h.base
 have HCE : Hid (∀ w1, Below w.heap.size w w1 → w1.cell? ⟨rb, 0, none⟩ = some (.pointer (some ⟨P.fb, 0, none⟩)) ∧ w1.cell? ⟨rb, 4, none⟩ = some (.slice ao R.heads.length cap) ∧ w1.cell? ⟨rb, 5, none⟩ = some (.int .i64 (R.line : Nat)) ∧ w1.cell? ⟨P.fb, 0, none⟩ = some (.int .i64 R.file.kind) ∧ (∀ j, w1.frozen? ⟨P.fb, j, none⟩ = false) ∧ P.fb < w1.heap.size) := fun w1 b => by
  have h1 := h.below b
  obtain ⟨c0, -, -, -, c4, c5, -⟩ := h1.cells
  obtain ⟨k0, -, -, -, -, -, -, -, kz⟩ := h1.file.cells
  exact ⟨c0, by rw [c4, eh], c5, k0, kz, h1.file.lt⟩
 obtain ⟨g, rc, rfl, hg, hgn, hrc⟩ := hrow.get
 have q1 : Hid (∀ w1, Below w.heap.size w w1 → w1.cell? ⟨g, 1, none⟩ = some (.string (Fld.str (fld hd 1)))) := fun w1 b => ((b.mono h.base).cell (p := ⟨g, 1, none⟩) hg).trans (hrc 1 (by omega))
 have hne : ∀ x, x ∈ R.heads.take R.heads.length ↔ x ∈ R.heads := fun x => by rw [List.take_length]
 have HBAR := hide (fun (x : Bs) (hx : x ∈ R.heads) (hb : barK x) => doKind_o (f := fld hd 1) ((kind_bar hD).1 ⟨x, hx, hb⟩))
 have HNO : Hid ((∀ x ∈ R.heads, ¬ barK x) → doKind R (fld hd 1) = if fld hd 1 = [115, 104, 111, 114, 116] then .ok { R with file := { R.file with kind := 1 } } else if fld hd 1 = [108, 111, 110, 103] then .ok { R with file := { R.file with kind := 2 } } else if fld hd 1 = [110, 117, 109] then .ok { R with file := { R.file with kind := 3 } } else .error (R.line, 114)) := fun hn => doKind_k (fun q => by
  obtain ⟨x, hx, hb⟩ := (kind_bar hD).2 q
  exact hn x hx hb)
 have HFS := hide (fun (w1 : World) (b : Below w.heap.size w w1) (k : Int) (hk : k = 1 ∨ k = 2 ∨ k = 3) => h.fset b (F' := { R.file with kind := k }) 0 (.int .i64 k) rfl rfl rfl rfl rfl (kind_ok h.file.ok k hk))
 have e1 : (Fld.str (fld hd 1)).data.toList = fld hd 1 := str_toList _
 rw [hlen]
 clear hrow hrc hgn
 obtain ⟨n, hn⟩ : ∃ n, R.heads.length = n := ⟨_, rfl⟩
 rw [hn] at hmx hne HCE
 have HN := hide hn
 have HC := hide hcl
 have HE := hide hne
 have hrb := h.lt
 unfold maxLen at hmx
 clear h eh hcl hn hne hD hlen
 obtain ⟨c0, c4, c5, k0, kz, kf⟩ := unhide HCE w (Below.refl _ _)
 clear c0 c5 k0 kz kf
 go_enter Tryz.func62, Tryz.ntmps62
 go_wp2
 go_loopw [5, 6] (fun i _ wr => ∃ k : Nat, i = .int .i64 k ∧ k ≤ n ∧ Hid (Below w.heap.size w wr) ∧ Hid (∀ y ∈ R.heads.take k, ¬ barK y)) (fun i _ _ => n - (intOf i).toNat)
 case atStart => exact ⟨0, rfl, Nat.zero_le _, Below.refl _ _, hide (fun y hy => by simp at hy)⟩
 case round =>
  obtain ⟨k, rfl, hk, HB, HT⟩ := hrel
  obtain ⟨c0, c4, c5, k0, kz, kf⟩ := unhide HCE _ (unhide HB)
  by_cases hkn : k < n
  ·have hki : (k : Int) < (n : Int) := by omega
   have hk0 : ¬ (k : Int) < 0 := by omega
   obtain ⟨x, hx⟩ : ∃ x, R.heads[k]? = some x := ⟨_, List.getElem?_eq_getElem (by rw [unhide HN]; exact hkn)⟩
   obtain ⟨gx, rfl, hgx, hcx⟩ := unhide HC k x hx
   replace hcx := ((unhide HB).cell (p := ⟨gx, k, none⟩) hgx).trans hcx
   unfold strC at hcx
   have HSX := hide (fun W => unhide HSP (Fld.str x) W)
   have ex : (Fld.str x).data.toList = x := str_toList x
   rw [ex] at HSX
   have HRX : Hid (barK x → doKind R (fld hd 1) = .error (R.line, 113)) := fun hb => unhide HBAR x (List.mem_of_getElem? hx) hb
   have HTX : Hid (¬ barK x → ∀ y ∈ R.heads.take (k + 1), ¬ barK y) := fun hb => take_none (unhide HT) hx hb
   have hbx : barK x ↔ (0 ≤ spN x ∨ x = [65, 70] ∨ x = [80, 70, 88] ∨ x = [83, 70, 88]) := Iff.rfl
   have HBX := hide hbx
   clear hx hbx
   by_cases s0 : 0 ≤ spN x
   ·have HX := hide (unhide HRX ((unhide HBX).2 (.inl s0)))
    clear HBX ex HRX HTX
    generalize spN x = sp at *
    generalize Fld.str x = r1 at *
    go_wp2_with (go_at_call 60; refine (unhide HSX _).mono ?_; rintro e w2 ⟨rfl, rfl⟩)
    go_ret
    exact DRes.no (unhide HX) (unhide HBW _ (unhide HB)) (by decide) rfl c5
   by_cases s1 : x = [65, 70]
   ·have HX := hide (unhide HRX ((unhide HBX).2 (.inr (.inl s1))))
    have t1 := lst_t (ex.trans s1)
    clear HBX ex HRX HTX s1
    generalize spN x = sp at *
    generalize Fld.str x = r1 at *
    go_wp2_with (go_at_call 60; refine (unhide HSX _).mono ?_; rintro e w2 ⟨rfl, rfl⟩)
    go_ret
    exact DRes.no (unhide HX) (unhide HBW _ (unhide HB)) (by decide) rfl c5
   by_cases s2 : x = [80, 70, 88]
   ·have HX := hide (unhide HRX ((unhide HBX).2 (.inr (.inr (.inl s2)))))
    have t1 := lst_f (s := Fld.str x) (l := [65, 70]) (by rw [ex]; exact s1)
    have t2 := lst_t (ex.trans s2)
    clear HBX ex HRX HTX s1 s2
    generalize spN x = sp at *
    generalize Fld.str x = r1 at *
    go_wp2_with (go_at_call 60; refine (unhide HSX _).mono ?_; rintro e w2 ⟨rfl, rfl⟩)
    go_ret
    exact DRes.no (unhide HX) (unhide HBW _ (unhide HB)) (by decide) rfl c5
   by_cases s3 : x = [83, 70, 88]
   ·have HX := hide (unhide HRX ((unhide HBX).2 (.inr (.inr (.inr s3)))))
    have t1 := lst_f (s := Fld.str x) (l := [65, 70]) (by rw [ex]; exact s1)
    have t2 := lst_f (s := Fld.str x) (l := [80, 70, 88]) (by rw [ex]; exact s2)
    have t3 := lst_t (ex.trans s3)
    clear HBX ex HRX HTX s1 s2 s3
    generalize spN x = sp at *
    generalize Fld.str x = r1 at *
    go_wp2_with (go_at_call 60; refine (unhide HSX _).mono ?_; rintro e w2 ⟨rfl, rfl⟩)
    go_ret
    exact DRes.no (unhide HX) (unhide HBW _ (unhide HB)) (by decide) rfl c5
   ·have HT2 := hide (unhide HTX (fun q => by
     rcases (unhide HBX).1 q with q | q | q | q
     ·exact s0 q
     ·exact s1 q
     ·exact s2 q
     ·exact s3 q))
    have t1 := lst_f (s := Fld.str x) (l := [65, 70]) (by rw [ex]; exact s1)
    have t2 := lst_f (s := Fld.str x) (l := [80, 70, 88]) (by rw [ex]; exact s2)
    have t3 := lst_f (s := Fld.str x) (l := [83, 70, 88]) (by rw [ex]; exact s3)
    clear HBX ex HRX HTX s1 s2 s3
    generalize spN x = sp at *
    generalize Fld.str x = r1 at *
    go_wp2_with (go_at_call 60; refine (unhide HSX _).mono ?_; rintro e w2 ⟨rfl, rfl⟩)
    go_roundw
    case rel => exact ⟨k + 1, by go_num, by omega, HB, HT2⟩
    case measure => simp [intOf]; omega
  ·obtain rfl : k = n := by omega
   have hki : ¬ (k : Int) < (k : Int) := by omega
   have HX := hide (unhide HNO (fun x hx => unhide HT x ((unhide HE x).2 hx)))
   have q1 := unhide q1 _ (unhide HB)
   clear HNO HBAR
   by_cases f1 : fld hd 1 = [115, 104, 111, 114, 116]
   ·have t1 := lst_t (e1.trans f1)
    have HY := hide ((unhide HX).trans (if_pos f1))
    clear HX e1 f1
    generalize Fld.str (fld hd 1) = r1 at *
    go_wp2
    go_ret
    exact DRes.yes (unhide HY) (unhide HFS _ (unhide HB) 1 (.inl rfl)).2 (unhide HFS _ (unhide HB) 1 (.inl rfl)).1
   by_cases f2 : fld hd 1 = [108, 111, 110, 103]
   ·have t1 := lst_f (s := Fld.str (fld hd 1)) (l := [115, 104, 111, 114, 116]) (by rw [e1]; exact f1)
    have t2 := lst_t (e1.trans f2)
    have HY := hide (((unhide HX).trans (if_neg f1)).trans (if_pos f2))
    clear HX e1 f1 f2
    generalize Fld.str (fld hd 1) = r1 at *
    go_wp2
    go_ret
    exact DRes.yes (unhide HY) (unhide HFS _ (unhide HB) 2 (.inr (.inl rfl))).2 (unhide HFS _ (unhide HB) 2 (.inr (.inl rfl))).1
   by_cases f3 : fld hd 1 = [110, 117, 109]
   ·have t1 := lst_f (s := Fld.str (fld hd 1)) (l := [115, 104, 111, 114, 116]) (by rw [e1]; exact f1)
    have t2 := lst_f (s := Fld.str (fld hd 1)) (l := [108, 111, 110, 103]) (by rw [e1]; exact f2)
    have t3 := lst_t (e1.trans f3)
    have HY := hide ((((unhide HX).trans (if_neg f1)).trans (if_neg f2)).trans (if_pos f3))
    clear HX e1 f1 f2 f3
    generalize Fld.str (fld hd 1) = r1 at *
    go_wp2
    go_ret
    exact DRes.yes (unhide HY) (unhide HFS _ (unhide HB) 3 (.inr (.inr rfl))).2 (unhide HFS _ (unhide HB) 3 (.inr (.inr rfl))).1
   ·have t1 := lst_f (s := Fld.str (fld hd 1)) (l := [115, 104, 111, 114, 116]) (by rw [e1]; exact f1)
    have t2 := lst_f (s := Fld.str (fld hd 1)) (l := [108, 111, 110, 103]) (by rw [e1]; exact f2)
    have t3 := lst_f (s := Fld.str (fld hd 1)) (l := [110, 117, 109]) (by rw [e1]; exact f3)
    have HY := hide ((((unhide HX).trans (if_neg f1)).trans (if_neg f2)).trans (if_neg f3))
    clear HX e1 f1 f2 f3
    generalize Fld.str (fld hd 1) = r1 at *
    go_wp2
    go_ret
    exact DRes.no (unhide HY) (unhide HBW _ (unhide HB)) (by decide) rfl c5
end Af
end Go.Proofs.YtmhegbeemgagkaaGreatDoor
