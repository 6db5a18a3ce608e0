import Derived.Test.YtidhbhdcoanfcaaGreatDoorGo38
import Derived.Test.YtidhbhdcoanfcaaGreatDoorShSo
import Derived.Sort.OwnSortedInts
set_option maxHeartbeats 8000000
set_option maxRecDepth 100000
namespace Go.Proofs.YtidhbhdcoanfcaaGreatDoor
namespace Af
def Laid : Nat → List Cls → Prop
 | _, [] => True
 | b, c :: t => c.first = b ∧ (∀ d ∈ t, d.flag ≠ c.flag) ∧ Laid (b + c.count) t
def keysC : List Cls → List (Int × Int)
 | [] => []
 | c :: t => List.replicate c.count (c.flag, c.kind) ++ keysC t
def Rul.key (r : Rul) : Int × Int := (r.flag, r.kind)
structure CR (F : Fil) : Prop where
 laid : Laid 0 F.classes
 keys : F.rules.map Rul.key = keysC F.classes
theorem keysC_append : ∀ (C D : List Cls), keysC (C ++ D) = keysC C ++ keysC D
 | [], D => rfl
 | c :: t, D => by rw [List.cons_append, keysC, keysC, keysC_append t D, List.append_assoc]
theorem laid_snoc : ∀ {C : List Cls} {b : Nat} {c : Cls}, Laid b C → c.first = b + (keysC C).length → (∀ d ∈ C, d.flag ≠ c.flag) → Laid b (C ++ [c])
 | [], b, c, _, h1, _ => ⟨by simpa [keysC] using h1, fun d hd => (by cases hd), trivial⟩
 | a :: t, b, c, ⟨h1, h2, h3⟩, h4, h5 => by
  refine ⟨h1, fun d hd => ?_, laid_snoc h3 (by rw [h4]; simp [keysC]; omega) (fun d hd => h5 d (List.mem_cons_of_mem _ hd))⟩
  rcases List.mem_append.1 hd with q | q
  ·exact h2 d q
  ·simp at q
   subst q
   exact (h5 a (List.mem_cons_self ..)).symm
theorem findC_none {x : Int} : ∀ {C : List Cls}, findC C x = none → ∀ d ∈ C, d.flag ≠ x
 | [], _, d, hd => by cases hd
 | c :: t, h, d, hd => by
  unfold findC at h
  split at h
  ·cases h
  ·rename_i q
   rcases List.mem_cons.1 hd with rfl | hd
   ·exact q
   ·exact findC_none (by simpa using h) d hd
theorem keysC_mem {p : Int × Int} : ∀ {C : List Cls}, p ∈ keysC C → ∃ d ∈ C, d.flag = p.1
 | [], h => by cases h
 | c :: t, h => by
  rw [keysC] at h
  rcases List.mem_append.1 h with h | h
  ·have := List.eq_of_mem_replicate h
   subst this
   exact ⟨c, List.mem_cons_self .., rfl⟩
  ·obtain ⟨d, hd, e⟩ := keysC_mem h
   exact ⟨d, List.mem_cons_of_mem _ hd, e⟩
theorem findC_keys {x : Int} : ∀ {C : List Cls} {b : Nat}, Laid b C → ∀ {i : Nat}, findC C x = some i → ∃ c, C[i]? = some c ∧ c.flag = x ∧ b ≤ c.first ∧ c.first + c.count ≤ b + (keysC C).length ∧ ∀ n k, (keysC C)[n]? = some (x, k) ↔ k = c.kind ∧ c.first ≤ b + n ∧ b + n < c.first + c.count
 | [], b, _, i, h => by cases h
 | a :: t, b, ⟨h1, h2, h3⟩, i, h => by
  unfold findC at h
  have hl : (keysC (a :: t)).length = a.count + (keysC t).length := by simp [keysC]
  split at h
  ·rename_i q
   injection h with h
   subst h
   refine ⟨a, rfl, q, by omega, by omega, fun n k => ?_⟩
   rw [keysC]
   by_cases hn : n < a.count
   ·rw [List.getElem?_append_left (by simpa using hn), List.getElem?_replicate, if_pos hn]
    constructor
    ·intro z
     injection z with z
     injection z with z1 z2
     exact ⟨z2.symm, by omega, by omega⟩
    ·rintro ⟨rfl, -, -⟩
     rw [q]
   ·rw [List.getElem?_append_right (by simpa using hn)]
    constructor
    ·intro z
     obtain ⟨d, hd, e⟩ := keysC_mem (List.mem_of_getElem? z)
     exact absurd (e.trans q.symm) (h2 d hd)
    ·rintro ⟨-, -, z⟩
     omega
  ·rename_i q
   obtain ⟨j, hj, rfl⟩ := Option.map_eq_some_iff.1 h
   obtain ⟨c, c1, c2, c3, c4, c5⟩ := findC_keys h3 hj
   refine ⟨c, c1, c2, by omega, by omega, fun n k => ?_⟩
   rw [keysC]
   by_cases hn : n < a.count
   ·rw [List.getElem?_append_left (by simpa using hn), List.getElem?_replicate, if_pos hn]
    constructor
    ·intro z
     injection z with z
     injection z with z1 z2
     exact absurd z1 q
    ·rintro ⟨-, z, -⟩
     omega
   ·rw [List.getElem?_append_right (by simpa using hn), List.length_replicate, c5]
    constructor <;> rintro ⟨z1, z2, z3⟩ <;> exact ⟨z1, by omega, by omega⟩
theorem CR.same {F F' : Fil} (h : CR F) (h1 : F'.classes = F.classes) (h2 : F'.rules = F.rules) : CR F' := ⟨by rw [h1]; exact h.laid, by rw [h1, h2]; exact h.keys⟩
def Sm (R R' : Rdr) : Prop := R'.file.classes = R.file.classes ∧ R'.file.rules = R.file.rules
theorem repStep_sm {key : Bs} {R R' : Rdr} (h : repStep key R = .ok R') : Sm R R' := by
 unfold repStep at h
 split at h
 ·cases h
 ·rename_i row R1 hg
  obtain ⟨m, e⟩ := grow_mo hg
  split at h
  ·cases h
  ·injection h with h
   subst h
   exact ⟨m.cls, by rw [← e]⟩
theorem aliStep_sm {key : Bs} {R R' : Rdr} (h : aliStep key R = .ok R') : Sm R R' := by
 unfold aliStep at h
 split at h
 ·cases h
 ·rename_i row R1 hg
  obtain ⟨m, e⟩ := grow_mo hg
  split at h
  ·cases h
  ·injection h with h
   subst h
   exact ⟨m.cls, by rw [← e]⟩
theorem rule_key {F : Fil} {l : Nat} {c : Cls} {row : List Bs} {p : Rul} (h : rule F l c row = .ok p) : p.key = (c.flag, c.kind) := by
 unfold rule at h
 repeat' split at h
 all_goals first | (cases h; done) | (injection h with h; subst h; rfl)
theorem rulStep_key {beg : List Bs} {c : Cls} {R R' : Rdr} (h : rulStep beg c R = .ok R') : R'.file.classes = R.file.classes ∧ ∃ p : Rul, R'.file.rules = R.file.rules ++ [p] ∧ p.key = (c.flag, c.kind) := by
 unfold rulStep at h
 split at h
 ·cases h
 ·rename_i row R1 hg
  obtain ⟨m, e⟩ := grow_mo hg
  split at h
  ·cases h
  ·rename_i p hp
   injection h with h
   subst h
   exact ⟨m.cls, p, by rw [← e], rule_key hp⟩
theorem times_key {beg : List Bs} {c : Cls} : ∀ {n : Nat} {R R' : Rdr}, times (rulStep beg c) n R = .ok R' → R'.file.classes = R.file.classes ∧ R'.file.rules.map Rul.key = R.file.rules.map Rul.key ++ List.replicate n (c.flag, c.kind)
 | 0, R, R', h => by
  injection h with h
  subst h
  exact ⟨rfl, by simp⟩
 | n + 1, R, R', h => by
  rw [times] at h
  split at h
  ·cases h
  ·rename_i R1 h1
   obtain ⟨a1, p, a2, a3⟩ := rulStep_key h1
   obtain ⟨b1, b2⟩ := times_key h
   refine ⟨b1.trans a1, ?_⟩
   rw [b2, a2, List.map_append, List.append_assoc, List.replicate_succ]
   simp [a3]
theorem doKey_cr {R R' : Rdr} {h : List Bs} {k : Key} (hk : doKey R h k = .ok R') (hR : CR R.file) : CR R'.file := by
 cases k with
 | kind =>
  simp only [doKey, doKind] at hk
  repeat' split at hk
  all_goals first | (cases hk; done) | (injection hk with hk; subst hk; exact hR.same rfl rfl)
 | charset =>
  simp only [doKey, doCharset] at hk
  split at hk
  ·injection hk with hk; subst hk; exact hR.same rfl rfl
  ·cases hk
 | letters =>
  simp only [doKey, doLetters] at hk
  split at hk
  ·injection hk with hk; subst hk; exact hR.same rfl rfl
  ·cases hk
 | special i =>
  simp only [doKey, doSpecial] at hk
  split at hk
  ·cases hk
  ·injection hk with hk; subst hk; exact hR.same rfl rfl
 | least =>
  simp only [doKey, doLeast] at hk
  repeat' split at hk
  all_goals first | (cases hk; done) | (injection hk with hk; subst hk; exact hR.same rfl rfl)
 | reps =>
  simp only [doKey, doReps] at hk
  split at hk
  ·cases hk
  ·have m := times_rel (rel := Sm) (fun R => ⟨rfl, rfl⟩) (fun a b c x y => ⟨y.1.trans x.1, y.2.trans x.2⟩) (fun R R' q => repStep_sm q) _ _ _ hk
   exact hR.same m.1 m.2
 | aliases =>
  simp only [doKey, doAliases] at hk
  split at hk
  ·cases hk
  ·split at hk
   ·cases hk
   ·have m := times_rel (rel := Sm) (fun R => ⟨rfl, rfl⟩) (fun a b c x y => ⟨y.1.trans x.1, y.2.trans x.2⟩) (fun R R' q => aliStep_sm q) _ _ _ hk
    exact hR.same m.1 m.2
 | cls kk =>
  simp only [doKey, doClass] at hk
  split at hk
  ·cases hk
  ·rename_i x hx
   split at hk
   ·cases hk
   ·split at hk
    ·cases hk
    ·rename_i n hn
     split at hk
     ·cases hk
     ·obtain ⟨a1, a2⟩ := times_key hk
      have hl : R.file.rules.length = (keysC R.file.classes).length := by rw [← hR.keys, List.length_map]
      refine ⟨?_, ?_⟩
      ·rw [a1]
       refine laid_snoc hR.laid (by simp only; omega) fun d hd => ?_
       unfold newFlag at hx
       split at hx
       ·cases hx
       ·split at hx
        ·cases hx
        ·rename_i q
         injection hx with hx
         subst hx
         exact findC_none (by
          cases hf : findC R.file.classes (One.oneF R.file.kind (fld h 1)) with
          | none => rfl
          | some i => exact absurd (.inl (by rw [hf]; rfl)) q) d hd
      ·rw [a1, a2, keysC_append]
       simp only
       rw [hR.keys]
       simp [keysC]
theorem heads_cr : ∀ {m : Nat} {R R' : Rdr}, heads m R = .ok R' → CR R.file → CR R'.file
 | 0, R, R', h, hn => by
  simp only [heads, Except.ok.injEq] at h
  subst h
  exact hn
 | m + 1, R, R', h, hn => by
  simp only [heads] at h
  split at h
  ·injection h with h; subst h; exact hn
  ·split at h
   ·cases h
   ·rename_i R1 h1
    refine heads_cr h ?_
    unfold heading at h1
    split at h1
    ·cases h1
    ·split at h1
     ·cases h1
     ·split at h1
      ·cases h1
      ·split at h1
       ·cases h1
       ·rename_i R2 hd2
        injection h1 with h1
        subst h1
        have hq := doKey_cr hd2
        exact hq hn
theorem affR_cr {l : Bs} {F : Fil} (h : affR l = .ok F) : CR F := by
 by_cases hl : 65536 < l.length
 ·simp [affR, hl] at h
 ·rw [affR_short hl] at h
  cases hh : heads (Rw.rowsOf l).length (start l) with
  | error e => rw [hh] at h; cases h
  | ok R =>
   rw [hh] at h
   have hi := heads_cr hh ⟨trivial, rfl⟩
   unfold affEnd at h
   simp only at h
   split at h
   ·cases h
   ·injection h with h
    subst h
    exact hi
def num1 (F : Fil) (k x : Int) : List Int := match findC F.classes x with
 | none => []
 | some i => match F.classes[i]? with
  | none => []
  | some c => if c.kind = k then (List.range c.count).map fun j => ((c.first + j : Nat) : Int) else []
def nums (F : Fil) (k : Int) (fs : List Int) : List Int := fs.flatMap (num1 F k)
def hasK (F : Fil) (k : Int) (fs : List Int) (n : Nat) : Bool := match F.rules[n]? with
 | none => false
 | some r => decide (r.flag ∈ fs ∧ r.kind = k)
def goesL (F : Fil) (k : Int) (fs : List Int) : List Int := ((List.range F.rules.length).filter (hasK F k fs)).map fun n : Nat => (n : Int)
theorem num1_mem {F : Fil} (h : CR F) {k x : Int} {z : Int} : z ∈ num1 F k x ↔ ∃ n r, z = ((n : Nat) : Int) ∧ F.rules[n]? = some r ∧ r.flag = x ∧ r.kind = k := by
 have hk : ∀ n : Nat, ∀ q, (keysC F.classes)[n]? = some q ↔ ∃ r, F.rules[n]? = some r ∧ r.key = q := fun n q => by
  rw [← h.keys, List.getElem?_map, Option.map_eq_some_iff]
 unfold num1
 cases hf : findC F.classes x with
 | none =>
  simp only [List.not_mem_nil, false_iff, not_exists, not_and]
  rintro n r rfl hr hx -
  obtain ⟨d, hd, e⟩ := keysC_mem (List.mem_of_getElem? ((hk n r.key).2 ⟨r, hr, rfl⟩))
  exact findC_none hf d hd (e.trans hx)
 | some i =>
  obtain ⟨c, c1, c2, c3, c4, c5⟩ := findC_keys h.laid hf
  simp only [c1]
  constructor
  ·intro hz
   split at hz
   ·rename_i ck
    obtain ⟨j, hj, rfl⟩ := List.mem_map.1 hz
    rw [List.mem_range] at hj
    obtain ⟨r, r1, r2⟩ := (hk _ _).1 ((c5 (c.first + j) k).2 ⟨ck.symm, by omega, by omega⟩)
    unfold Rul.key at r2
    injection r2 with r2 r3
    exact ⟨c.first + j, r, rfl, r1, r2, r3⟩
   ·cases hz
  ·rintro ⟨n, r, rfl, hr, hx, hkk⟩
   obtain ⟨q1, q2, q3⟩ := (c5 n k).1 ((hk _ _).2 ⟨r, hr, by unfold Rul.key; rw [hx, hkk]⟩)
   rw [if_pos q1.symm]
   exact List.mem_map.2 ⟨n - c.first, List.mem_range.2 (by omega), by congr 1; omega⟩
theorem num1_nodup (F : Fil) (k x : Int) : (num1 F k x).Nodup := by
 unfold num1
 split
 ·exact List.nodup_nil
 ·split
  ·exact List.nodup_nil
  ·split
   ·refine List.Pairwise.map _ (fun a b hab => ?_) List.nodup_range
    omega
   ·exact List.nodup_nil
theorem nums_nodup {F : Fil} (h : CR F) {k : Int} : ∀ {fs : List Int}, fs.Nodup → (nums F k fs).Nodup
 | [], _ => List.nodup_nil
 | x :: t, hn => by
  rw [List.nodup_cons] at hn
  show (num1 F k x ++ nums F k t).Nodup
  rw [List.nodup_append]
  refine ⟨num1_nodup F k x, nums_nodup h hn.2, fun a ha b hb e => ?_⟩
  subst e
  obtain ⟨y, hy, hy2⟩ := List.mem_flatMap.1 hb
  obtain ⟨n, r, e1, r1, r2, -⟩ := (num1_mem h).1 ha
  obtain ⟨n', r', e1', r1', r2', -⟩ := (num1_mem h).1 hy2
  have : n = n' := by omega
  subst this
  rw [r1] at r1'
  injection r1' with q
  subst q
  exact hn.1 (by rw [← r2, r2']; exact hy)
theorem nums_mem {F : Fil} (h : CR F) {k : Int} {fs : List Int} {z : Int} : z ∈ nums F k fs ↔ z ∈ goesL F k fs := by
 unfold nums goesL
 rw [List.mem_flatMap, List.mem_map]
 constructor
 ·rintro ⟨x, hx, hz⟩
  obtain ⟨n, r, rfl, r1, r2, r3⟩ := (num1_mem h).1 hz
  refine ⟨n, List.mem_filter.2 ⟨List.mem_range.2 (List.getElem?_eq_some_iff.1 r1).1, ?_⟩, rfl⟩
  unfold hasK
  rw [r1]
  simp only [decide_eq_true_eq]
  exact ⟨by rw [r2]; exact hx, r3⟩
 ·rintro ⟨n, hn, rfl⟩
  obtain ⟨h1, h2⟩ := List.mem_filter.1 hn
  unfold hasK at h2
  split at h2
  ·cases h2
  ·rename_i r hr
   simp only [decide_eq_true_eq] at h2
   exact ⟨r.flag, h2.1, (num1_mem h).2 ⟨n, r, rfl, hr, rfl, h2.2⟩⟩
theorem goesL_sorted (F : Fil) (k : Int) (fs : List Int) : (goesL F k fs).Pairwise fun a b => a < b := by
 unfold goesL
 rw [List.pairwise_map]
 refine List.Pairwise.imp (fun h => ?_) (List.pairwise_lt_range.filter _)
 omega
theorem eq_of_rising : ∀ {a b : List Int}, a.Pairwise (fun x y => x < y) → b.Pairwise (fun x y => x < y) → (∀ z, z ∈ a ↔ z ∈ b) → a = b
 | [], [], _, _, _ => rfl
 | [], y :: t, _, _, h => by have := (h y).2 (List.mem_cons_self ..); cases this
 | x :: s, [], _, _, h => by have := (h x).1 (List.mem_cons_self ..); cases this
 | x :: s, y :: t, ha, hb, h => by
  rw [List.pairwise_cons] at ha hb
  have e : x = y := by
   rcases List.mem_cons.1 ((h x).1 (List.mem_cons_self ..)) with q | q
   ·exact q
   ·rcases List.mem_cons.1 ((h y).2 (List.mem_cons_self ..)) with q2 | q2
    ·exact q2.symm
    ·have := hb.1 x q
     have := ha.1 y q2
     omega
  subst e
  congr 1
  refine eq_of_rising ha.2 hb.2 fun z => ?_
  constructor
  ·intro hz
   rcases List.mem_cons.1 ((h z).1 (List.mem_cons_of_mem _ hz)) with q | q
   ·have := ha.1 z hz
    omega
   ·exact q
  ·intro hz
   rcases List.mem_cons.1 ((h z).2 (List.mem_cons_of_mem _ hz)) with q | q
   ·have := hb.1 z hz
    omega
   ·exact q
theorem nums_sorted {F : Fil} (h : CR F) {k : Int} {fs : List Int} (hn : fs.Nodup) : (nums F k fs).mergeSort (fun x y => decide (x ≤ y)) = goesL F k fs := by
 have hp : ((nums F k fs).mergeSort (fun x y => decide (x ≤ y))).Perm (nums F k fs) := List.mergeSort_perm _ _
 refine eq_of_rising ?_ (goesL_sorted F k fs) fun z => by rw [hp.mem_iff, nums_mem h]
 have h1 : ((nums F k fs).mergeSort (fun x y => decide (x ≤ y))).Pairwise fun a b => decide (a ≤ b) = true := List.pairwise_mergeSort (fun a b c hab hbc => by simp only [decide_eq_true_eq] at *; omega) (fun a b => by simp only [Bool.or_eq_true, decide_eq_true_eq]; omega) _
 have h2 : ((nums F k fs).mergeSort (fun x y => decide (x ≤ y))).Nodup := hp.nodup_iff.2 (nums_nodup h hn)
 refine List.Pairwise.imp (fun q => ?_) (h1.and h2)
 obtain ⟨q1, q2⟩ := q
 simp only [decide_eq_true_eq] at q1
 omega
theorem nums_length {F : Fil} (h : CR F) {k : Int} {fs : List Int} (hn : fs.Nodup) : (nums F k fs).length ≤ F.rules.length := by
 have : (nums F k fs).length = (goesL F k fs).length := by rw [← nums_sorted h hn, List.length_mergeSort]
 rw [this]
 unfold goesL
 rw [List.length_map]
 exact Nat.le_trans (List.length_filter_le ..) (by simp)
end Af
open Go.Sort Go.RowKit
namespace Af
open RowB
abbrev nV (L : List Int) : List Value := L.map (Value.int .i64)
def fromN (b q : Nat) : List Int := (List.range q).map fun i => ((b + i : Nat) : Int)
theorem fromN_snoc (b q : Nat) : fromN b (q + 1) = fromN b q ++ [((b + q : Nat) : Int)] := by simp [fromN, List.range_succ]
theorem fromN_len (b q : Nat) : (fromN b q).length = q := by simp [fromN]
theorem nums_snoc {F : Fil} {k : Int} {fs : List Int} {j : Nat} {x : Int} (hx : fs[j]? = some x) : nums F k (fs.take (j + 1)) = nums F k (fs.take j) ++ num1 F k x := by
 rw [So.take_snoc hx]
 simp [nums]
theorem num1_none {F : Fil} {k x : Int} (h : findC F.classes x = none) : num1 F k x = [] := by simp [num1, h]
theorem num1_not {F : Fil} {k x : Int} {i : Nat} {c : Cls} (h : findC F.classes x = some i) (hc : F.classes[i]? = some c) (hk : c.kind ≠ k) : num1 F k x = [] := by simp [num1, h, hc, hk]
theorem num1_some {F : Fil} {k x : Int} {i : Nat} {c : Cls} (h : findC F.classes x = some i) (hc : F.classes[i]? = some c) (hk : c.kind = k) : num1 F k x = fromN c.first c.count := by simp [num1, h, hc, hk, fromN]
theorem nums_bound {F : Fil} (hcr : CR F) {k : Int} {fs : List Int} (hnd : fs.Nodup) {j : Nat} {x : Int} (hx : fs[j]? = some x) : (nums F k (fs.take j)).length + (num1 F k x).length ≤ F.rules.length := by
 have := nums_length hcr (k := k) (fs := fs.take (j + 1)) (hnd.sublist (List.take_sublist _ _))
 rw [nums_snoc hx, List.length_append] at this
 exact this
theorem num_first {F : Fil} (hcr : CR F) {x : Int} {i : Nat} {c : Cls} (h : findC F.classes x = some i) (hc : F.classes[i]? = some c) : c.first + c.count ≤ F.rules.length := by
 obtain ⟨d, d1, -, -, d4, -⟩ := findC_keys hcr.laid h
 rw [hc] at d1
 injection d1 with d1
 subst d1
 rw [← hcr.keys, List.length_map] at d4
 omega
theorem box_own {w wr w1 : World} {v : Value} {n : Nat} {xs : List Value} {o : Obj} (hR : wr.ownsRow w.heap.size 3 1 v n xs) (hB : Below w.heap.size w wr) (b : Below wr.heap.size wr w1) : (w1.alloc o).ownsRow w.heap.size 3 1 v n xs ∧ Below w.heap.size w (w1.alloc o) := by
 have b2 : Below wr.heap.size wr (w1.alloc o) := b.alloc b.size o
 exact ⟨own_kq hR (T := []) (M := noM) (Kq.below b2) (by simp), hB.trans (b2.mono hB.size)⟩
theorem named_any {w : World} {tb B n wb : Nat} {F : Fil} {P : Pts} {E : List Ent} {Q : WPts} {vu ve : Value} {nv fv : List Value} (h : TbAt w tb B F P n wb E Q vu ve nv fv) (hcr : CR F) (hrm : F.rules.length ≤ 1000000) {v : Value} {fs : List Int} (hv : So.FArg w v fs) (hnd : fs.Nodup) (hbd : ∀ x ∈ fs, 0 ≤ x ∧ x ≤ 65535) (k : Int) :
  Calls Tryz.prog 53 #[.pointer (some ⟨tb, 0, none⟩), v, .int .i64 k] w fun e w' => ∃ u, e = .returned u ∧ w'.ownsRow w.heap.size 3 1 u (goesL F k fs).length (nV (goesL F k fs)) ∧ Below w.heap.size w w' := by
 obtain ⟨i0, hi, hz0, hz1, hz2⟩ := info_parts So.infoI
 obtain ⟨d0, -, -, -, -, -, -, -, hlt⟩ := h.cells
 have HSO := hide (nums_sorted hcr (k := k) hnd)
 have HLEN := hide (fun j x (hx : fs[j]? = some x) => Nat.le_trans (nums_bound hcr (k := k) hnd hx) hrm)
 have HALL := hide (Nat.le_trans (nums_length hcr (k := k) hnd) hrm)
 have HKN := hide (fun x (hx : x ∈ fs) (W : World) (b : Below w.heap.size w W) (hf : findC F.classes x = none) => class_none (h.below b).file x (hbd x hx).1 (hbd x hx).2 hf)
 have HKS := hide (fun x (hx : x ∈ fs) (W : World) (b : Below w.heap.size w W) (i : Nat) (c : Cls) (hf : findC F.classes x = some i) (hc : F.classes[i]? = some c) => class_some (h.below b).file x (hbd x hx).1 (hbd x hx).2 hf hc)
 have HCF := hide (fun x (i : Nat) (c : Cls) (hf : findC F.classes x = some i) (hc : F.classes[i]? = some c) => Nat.le_trans (num_first hcr hf hc) hrm)
 obtain ⟨ao, cap, rfl, hcp, hmx, -, hcell⟩ := hv
 have HC : Hid (∀ (j : Nat) x, fs[j]? = some x → ∃ g off, ao = some ⟨g, off, none⟩ ∧ g < w.heap.size ∧ w.cell? ⟨g, off + j, none⟩ = some (So.encF x)) := by
  intro j x hx
  obtain ⟨g, off, e, hg, hcl⟩ := hcell (by have := (List.getElem?_eq_some_iff.1 hx).1; omega)
  exact ⟨g, off, e, hg, hcl j x hx⟩
 generalize hm : fs.length = m at *
 have HM := hide hm
 unfold maxLen at hmx
 clear h hcell hm hbd hnd hcr hrm
 generalize goesL F k fs = G at *
 go_enter Tryz.func53, Tryz.ntmps53
 go_wp2
 go_loopw [7, 15] (fun s7 s15 wr => ∃ j : Nat, j ≤ m ∧ s15 = .int .i64 j ∧ Hid (wr.ownsRow w.heap.size 3 1 s7 (nums F k (fs.take j)).length (nV (nums F k (fs.take j)))) ∧ Hid (Below w.heap.size w wr)) (fun _ s15 _ => m - (intOf s15).toNat)
 case atStart => exact ⟨0, Nat.zero_le _, rfl, World.ownsRow_nil _ _ _ _, Below.refl _ _⟩
 case round =>
  obtain ⟨j, hj, rfl, HR, HB⟩ := hrel
  by_cases hltj : j < m
  ·have hltz : (j : Int) < (m : Int) := by omega
   obtain ⟨x, hx⟩ : ∃ x, fs[j]? = some x := ⟨_, List.getElem?_eq_getElem (by rw [unhide HM]; exact hltj)⟩
   obtain ⟨g, off, rfl, hg, hc0⟩ := unhide HC j x hx
   have cw := ((unhide HB).cell (p := ⟨g, off + j, none⟩) hg).trans hc0
   have d0w := ((unhide HB).cell (p := ⟨tb, 0, none⟩) hlt).trans d0
   simp only [So.encF] at cw
   have HSN := hide (nums_snoc (F := F) (k := k) hx)
   have HLN := hide (unhide HLEN j x hx)
   have hxm : x ∈ fs := List.mem_of_getElem? hx
   have hgw := Nat.lt_of_lt_of_le hg (unhide HB).size
   clear hx hc0 d0
   cases hf : findC F.classes x with
   | none =>
    have HK := hide (unhide HKN x hxm wr (unhide HB) hf)
    unfold noC at HK
    have HN := hide (num1_none (k := k) hf)
    clear hf hxm
    go_wp2_with (go_at_call 68; refine (unhide HK).mono ?_; rintro e w1 ⟨rfl, b1⟩; have B1 := hide b1; clear b1)
    go_roundw
    case rel => exact ⟨j + 1, by omega, by go_num, by rw [unhide HSN, unhide HN, List.append_nil]; exact (box_own (unhide HR) (unhide HB) (unhide B1)).1, (box_own (unhide HR) (unhide HB) (unhide B1)).2⟩
    case measure => simp [intOf]; omega
   | some i =>
    obtain ⟨c, hc, -⟩ := findC_get hf
    have HK := hide (unhide HKS x hxm wr (unhide HB) i c hf hc)
    unfold clsV at HK
    have hfc := unhide HCF x i c hf hc
    by_cases hk : c.kind = k
    ·have HN := hide (num1_some (k := k) hf hc hk)
     rw [hk] at HK
     have HL2 : Hid ((nums F k (fs.take j)).length + c.count ≤ 1000000) := by
      have := unhide HLN
      rw [unhide HN, fromN_len] at this
      exact this
     clear hk hf hc hxm
     generalize c.count = cn at *
     generalize c.first = cb at *
     generalize c.flag = cf at *
     generalize c.cross = cx at *
     go_wp2_with (go_at_call 68; refine (unhide HK).mono ?_; rintro e w1 ⟨rfl, b1⟩; have B1 := hide b1; clear b1)
     obtain ⟨V, hV⟩ : ∃ V, V = w1.alloc (.cells #[.int .u16 cf, .int .i64 k, .bool cx, .int .i64 (cb : Nat), .int .i64 (cn : Nat)] 94) := ⟨_, rfl⟩
     have hb : V.heap[w1.heap.size]? = some (.cells #[.int .u16 cf, .int .i64 k, .bool cx, .int .i64 (cb : Nat), .int .i64 (cn : Nat)] 94 (0, 0)) := by rw [hV]; exact alloc_new _ _
     have HR2 := hide (box_own (o := .cells #[.int .u16 cf, .int .i64 k, .bool cx, .int .i64 (cb : Nat), .int .i64 (cn : Nat)] 94) (unhide HR) (unhide HB) (unhide B1))
     rw [← hV] at HR2
     have HBX := hide hb
     clear hb
     refine gen_world ?_
     intro V' hV'
     obtain rfl : V' = V := hV'.trans hV.symm
     clear hV hV'
     go_loopw [7, 38] (fun s7 s38 wr => ∃ q : Nat, q ≤ cn ∧ s38 = .int .i64 q ∧ Hid (wr.ownsRow w.heap.size 3 1 s7 ((nums F k (fs.take j)).length + q) (nV (nums F k (fs.take j) ++ fromN cb q))) ∧ Hid (Below w.heap.size w wr) ∧ Hid (wr.heap[w1.heap.size]? = some (.cells #[.int .u16 cf, .int .i64 k, .bool cx, .int .i64 (cb : Nat), .int .i64 (cn : Nat)] 94 (0, 0)))) (fun _ s38 _ => cn - (intOf s38).toNat)
     case atStart => exact ⟨0, Nat.zero_le _, rfl, by rw [show fromN cb 0 = [] from rfl, List.append_nil]; exact (unhide HR2).1, (unhide HR2).2, HBX⟩
     case round =>
      obtain ⟨q, hq, rfl, HR3, HB3, HX3⟩ := hrel
      by_cases hlt2 : q < cn
      ·have hltz : (q : Int) < (cn : Int) := by omega
       have e3w : wr.cell? ⟨w1.heap.size, 3, none⟩ = some (.int .i64 (cb : Nat)) := by simp [World.cell?, unhide HX3]
       have hbl := lt_some (unhide HX3)
       have hsz := (unhide HB3).size
       have hl2 := unhide HL2
       go_wp2_with (at_builtin; refine wpList_append_own _ rfl _ _ 76 rfl w.heap.size 3 i0 (.int .i64 0) 1 8 Tryz.underlying76 hi hz0 hz1 hz2 rfl (by decide) _ _ _ rfl ((unhide HR3).alloc _) ⟨wr.heap.size, 0, none⟩ 1 1 [.int .i64 ((cb : Int) + (q : Int))] rfl rfl (cell_one_new _ _ _) (fun x hx => by simp at hx; subst hx; rfl) (by unfold maxLen; omega) (by omega) (by simp; omega) ?_; intro v' w2 hown' hgrow _; have HO1 := hide hown'; have HB1 := hide (And.intro (So.irow_push (unhide HR3) (unhide HB3) hgrow) ((Kq.grown (T := [3]) (M := noM) hgrow ((unhide HR3).alloc _) (by simp)).cells _ _ _ _ ((alloc_heap1 (unhide HX3) _)) (by decide))); clear hown' hgrow)
       go_roundw
       case rel => exact ⟨q + 1, by omega, by go_num, by rw [fromN_snoc, ← List.append_assoc]; simp only [nV, List.map_append] at HO1 ⊢; exact HO1, (unhide HB1).1, (unhide HB1).2.trans (alloc_heap1 (unhide HX3) _)⟩
       case measure => simp [intOf]; omega
      ·obtain rfl : q = cn := by omega
       have hltz : ¬ (q : Int) < (q : Int) := by omega
       go_wp2
       go_roundw
       case rel => exact ⟨j + 1, by omega, by go_num, by rw [unhide HSN, unhide HN, List.length_append, fromN_len]; exact unhide HR3, HB3⟩
       case measure => simp [intOf]; omega
    ·have HN := hide (num1_not (k := k) hf hc hk)
     have hkb : (c.kind == k) = false := by simp [hk]
     clear hf hc hxm
     generalize c.count = cn at *
     generalize c.first = cb at *
     generalize c.flag = cf at *
     generalize c.cross = cx at *
     generalize c.kind = ck at *
     go_wp2_with (go_at_call 68; refine (unhide HK).mono ?_; rintro e w1 ⟨rfl, b1⟩; have B1 := hide b1; clear b1)
     go_roundw
     case rel => exact ⟨j + 1, by omega, by go_num, by rw [unhide HSN, unhide HN, List.append_nil]; exact (box_own (unhide HR) (unhide HB) (unhide B1)).1, (box_own (unhide HR) (unhide HB) (unhide B1)).2⟩
     case measure => simp [intOf]; omega
  ·obtain rfl : j = m := by omega
   have hltz : ¬ (j : Int) < (j : Int) := by omega
   have e1 : fs.take j = fs := by rw [← unhide HM]; exact List.take_length
   rw [e1] at HR
   clear e1
   have hal := unhide HALL
   have hso := unhide HSO
   generalize nums F k fs = L at *
   by_cases h0 : L = []
   ·subst h0
    obtain rfl : G = [] := by rw [← hso]; simp
    obtain ⟨a7, c7, rfl, -, -⟩ := own_len (unhide HR)
    have HS := hide (Tryz.slices_Sort_int_none a7 c7 wr)
    go_wp2_with (go_at_call 69; refine (unhide HS).mono ?_; rintro e w1 ⟨rfl, hw1⟩; obtain rfl := hw1.symm)
    go_ret
    exact ⟨_, rfl, unhide HR, unhide HB⟩
   ·have hpos : 0 < L.length := List.length_pos_iff.2 h0
    have hR := unhide HR
    have hB := unhide HB
    obtain ⟨g2, cap2, cur, e2, hbase, hb, q1, q2, q3, q4⟩ : ∃ g2 cap2 cur, u7 = .slice (some ⟨g2, 0, none⟩) L.length cap2 ∧ w.heap.size ≤ g2 ∧ wr.heap[g2]? = some (.cells cur 3 (0, 0)) ∧ L.length ≤ cap2 ∧ cap2 ≤ maxLen ∧ cur.size = cap2 * 1 ∧ cur.toList.take (L.length * 1) = nV L := by
     rcases hR.2 with ⟨z0, z⟩ | ⟨g2, cap2, cur, z⟩
     ·omega
     ·exact ⟨g2, cap2, cur, z⟩
    subst e2
    rw [Nat.mul_one] at q4
    have HS := hide (Tryz.slices_Sort_int g2 0 cap2 L wr (holds_of_blockI hb q4) (lt_some hb) (by omega))
    rw [hso] at HS
    have hlen : L.length = G.length := by rw [← hso, List.length_mergeSort]
    rw [hlen] at HS
    have HFIN : Hid (∀ n os, (Go.Sort.grow (putRow (Value.int .i64) (Sort.ahead wr n) g2 0 G.toArray) os).ownsRow w.heap.size 3 1 (.slice (some ⟨g2, 0, none⟩) G.length cap2) G.length (nV G) ∧ Below w.heap.size w (Go.Sort.grow (putRow (Value.int .i64) (Sort.ahead wr n) g2 0 G.toArray) os)) := fun n os => by
     have q := ownsRow_sortedI (n := n) (os := os) (ts := G) (ss := L) hlen.symm hbase hb q1 q2 q3
     rw [hlen] at q
     exact ⟨q, hB.grown (grownBy_sortedI _) hB.size (fun k e => by cases e; exact hbase)⟩
    generalize G.toArray = ts at *
    clear hR hB HR hb q1 q2 q3 q4 hbase hso HSO h0
    go_wp2_with (go_at_call 69; refine (unhide HS).mono ?_; rintro e w1 ⟨rfl, n, os, hw1⟩; have HW := hide hw1; clear hw1)
    go_ret
    refine ⟨_, rfl, ?_⟩
    rw [unhide HW]
    exact unhide HFIN n os
end Af
end Go.Proofs.YtidhbhdcoanfcaaGreatDoor
namespace Go.Proofs.YtidhbhdcoanfcaaGreatDoor
open Go.RowKit
namespace Af
open RowB
theorem entry_fn {w : World} {tb B n wb : Nat} {F : Fil} {P : Pts} {E : List Ent} {Q : WPts} {vu ve : Value} {nv fv : List Value} (h : TbAt w tb B F P n wb E Q vu ve nv fv) (hm : E.length ≤ 1000000) {k : Nat} {x : Ent} (hx : E[k]? = some x) :
  Calls Tryz.prog 52 #[.pointer (some ⟨tb, 0, none⟩), .int .i64 (k : Nat)] w fun e w' => ∃ a c, e = .returned (.tuple #[.agg #[.string (Wd.str x.word), .slice a x.flags.length c], .bool true]) ∧ FNx 0 w (.slice a x.flags.length c) x.flags ∧ Below w.heap.size w w' := by
 have hk := (List.getElem?_eq_some_iff.1 hx).1
 obtain ⟨g, cap, rfl, -, hg, h1, h2, -, h3⟩ := own_at h.ent.1 (by omega)
 obtain ⟨u, hu⟩ : ∃ u, fv[k]? = some u := ⟨_, List.getElem?_eq_getElem (by rw [h.ent.2.1]; exact hk)⟩
 have hfn := h.ent.2.2 k u x hu hx
 rw [ite_self] at hfn
 have hf := hfn.arg
 obtain ⟨q0, q1⟩ := flatE_get h.ent.2.1 hx hu
 have hq : ∀ i, i < 2 → w.cell? ⟨g, k * 2 + i, none⟩ = (entC x u)[i]? := fun i hi => by
  rw [h3 _ (by omega)]
  match i, hi with
  | 0, _ => exact q0
  | 1, _ => exact q1
 obtain ⟨a, c, rfl, -⟩ := id hf
 have HF := hide hfn
 have d8 := h.cells.2.2.2.2.2.2.2.1
 have hlt := h.cells.2.2.2.2.2.2.2.2
 have HA := hide (fun W (b : Below w.heap.size w W) => atE_in (w := W) (g := g) (m := E.length) (cap := cap) (k := k) hk hm ((b.cell (p := ⟨g, k * 2 + 0, none⟩) hg).trans (hq 0 (by omega))) ((b.cell (p := ⟨g, k * 2 + 1, none⟩) hg).trans (hq 1 (by omega))))
 generalize E.length = m at *
 generalize x.flags.length = nf at *
 generalize Wd.str x.word = sw at *
 clear h hx hu hq q0 q1 hf hfn h3 hk h1 h2
 go_enter Tryz.func52, Tryz.ntmps52
 go_wp2_with fail
 refine (unhide HA _ (by first | exact (Below.refl _ _).alloc (Nat.le_refl _) _ | exact ((Below.refl _ _).alloc (Nat.le_refl _) _).drew)).mono ?_
 rintro e w1 ⟨rfl, b1⟩
 obtain ⟨h2, b2⟩ := res_at b1
 have e0 : w1.cell? ⟨w.heap.size, 0, none⟩ = some (.string ⟨#[]⟩) := by simp [World.cell?, h2]
 have e1 : w1.cell? ⟨w.heap.size, 1, none⟩ = some (.slice none 0 0) := by simp [World.cell?, h2]
 have ez : ∀ k, w1.frozen? ⟨w.heap.size, k, none⟩ = false := fun k => by simp [World.frozen?, h2]
 have HS : Hid (∀ V, V = ((w1.setCell ⟨w.heap.size, 0, none⟩ (.string sw)).setCell ⟨w.heap.size, 1, none⟩ (.slice a nf c)) → V.heap[w.heap.size]? = some (.cells #[.string sw, .slice a nf c] 56 (0, 0)) ∧ Below w.heap.size w V) := fun V hV => by
  subst hV
  exact ⟨set_heap1 (set_heap1 h2 _) _, ((b2.trans ((Below.refl _ _).setCell (p := ⟨w.heap.size, 0, none⟩) (Nat.le_refl _) _)).trans ((Below.refl _ _).setCell (p := ⟨w.heap.size, 1, none⟩) (Nat.le_refl _) _))⟩
 clear b1 b2 h2
 go_wp2
 obtain ⟨s1, s2⟩ := unhide HS _ rfl
 clear HS
 show bodyPost _ _ _ _ _ ((w1.setCell ⟨w.heap.size, 0, none⟩ (.string sw)).setCell ⟨w.heap.size, 1, none⟩ (.slice a nf c))
 refine bodyPost_ret (v := .tuple #[.agg #[.string sw, .slice a nf c], .bool true]) (by simp only [results, Tryz.results52]; simp [go_sem, World.cell?, s1]) rfl ?_
 exact ⟨a, c, rfl, unhide HF, s2⟩
theorem ent_out {w w2 w4 : World} {sw : ByteArray} {a : Option Addr} {nf c : Nat} {v' : Value} {l : List Int} (h2 : w2.heap[w.heap.size]? = some (.cells #[.string ⟨#[]⟩, .slice none 0 0] 56 (0, 0))) (b2 : Below w.heap.size w w2) (b4 : Below (w2.alloc (.cells #[.string sw, .slice a nf c] 56)).heap.size (w2.alloc (.cells #[.string sw, .slice a nf c] 56)) w4) (o4 : w4.ownsRow (w2.alloc (.cells #[.string sw, .slice a nf c] 56)).heap.size 36 1 v' l.length (l.map So.encF)) : ∀ V, V = (((w4.setCell ⟨w2.heap.size, 1, none⟩ v').setCell ⟨w.heap.size, 0, none⟩ (.string sw)).setCell ⟨w.heap.size, 1, none⟩ v') → V.heap[w.heap.size]? = some (.cells #[.string sw, v'] 56 (0, 0)) ∧ Below w.heap.size w V ∧ So.FArg V v' l := by
 intro V hV
 have hle := b2.size
 have hw2 := lt_some h2
 have hbx := b4.block w2.heap.size (by simp)
 rw [alloc_new] at hbx
 have b24 : Below w2.heap.size w2 w4 := ((Below.refl _ _).alloc (Nat.le_refl _) _).trans (b4.mono (by simp))
 have h4 := (b24.block _ hw2).trans h2
 have s1 : Kp w2.heap.size w4 (w4.setCell ⟨w2.heap.size, 1, none⟩ v') := kp_set w4 w2.heap.size 1 v'
 have h5 := (s1.2 w.heap.size (lt_some h4) (by omega)).trans h4
 have h6 := set_heap1 (set_heap1 h5 (k := 0) (.string sw)) (k := 1) v'
 rw [← hV] at h6
 have k1 : Kq [56] noM w4 (w4.setCell ⟨w2.heap.size, 1, none⟩ v') := Kq.kp s1 hbx (by simp)
 have k2 : Kq [56] noM (w4.setCell ⟨w2.heap.size, 1, none⟩ v') V := by
  rw [hV]
  exact Kq.kp (kp_trans (kp_set _ w.heap.size 0 _) (kp_set _ w.heap.size 1 _)) h5 (by simp)
 refine ⟨by simpa using h6, ?_, (FNx.arg (own_fnx (own_kq o4 (k1.trans k2) (by decide))))⟩
 rw [hV]
 exact (((b2.trans (b24.mono hle)).setCell (p := ⟨w2.heap.size, 1, none⟩) hle _).setCell (p := ⟨w.heap.size, 0, none⟩) (Nat.le_refl _) _).setCell (p := ⟨w.heap.size, 1, none⟩) (Nat.le_refl _) _
theorem Entry_any {w : World} {tb B n wb : Nat} {F : Fil} {P : Pts} {E : List Ent} {Q : WPts} {vu ve : Value} {nv fv : List Value} (h : TbAt w tb B F P n wb E Q vu ve nv fv) (hm : E.length ≤ 1000000) {k : Nat} {x : Ent} (hx : E[k]? = some x) (hl : x.flags.length ≤ 1048577) :
  Calls Tryz.prog 27 #[.pointer (some ⟨tb, 0, none⟩), .int .i64 (k : Nat)] w fun e w' => ∃ a c, e = .returned (.tuple #[.agg #[.string (Wd.str x.word), .slice a x.flags.length c], .bool true]) ∧ So.FArg w' (.slice a x.flags.length c) x.flags ∧ Below w.heap.size w w' := by
 have HE := hide (fun W (b : Below w.heap.size w W) => entry_fn (h.below b) hm hx)
 have HCL := hide (fun W v (hf : FNx 0 W v x.flags) => clone_flg (fnx_own hf) (enc_one _) hl)
 clear h hm hx
 generalize Wd.str x.word = sw at *
 have b0 : Below w.heap.size w (w.alloc (.cells #[.string ⟨#[]⟩, .slice none 0 0] 56)) := (Below.refl _ _).alloc (Nat.le_refl _) _
 have B0 := hide b0
 clear b0
 go_enter Tryz.func27, Tryz.ntmps27
 go_wp2_with fail
 refine (unhide HE _ (unhide B0)).mono ?_
 rintro e w2 ⟨a, c, rfl, hf, b2⟩
 obtain ⟨h2, b2w⟩ := res_at b2
 have H2 := hide h2
 have B2 := hide b2w
 have hf2 : FNx 0 w2 (.slice a x.flags.length c) x.flags := fnx_below hf b2
 have HF := hide (fnx_below hf2 ((Below.refl w2.heap.size w2).alloc (Nat.le_refl _) (.cells #[.string sw, .slice a x.flags.length c] 56)))
 clear b2 h2 b2w hf hf2
 go_wp2_with fail
 refine (unhide HCL _ _ (unhide HF)).mono ?_
 rintro e w4 ⟨v', rfl, o4, b4⟩
 obtain ⟨a4, c4, e4, -, -⟩ := own_len o4
 subst e4
 have HS := hide (ent_out (unhide H2) (unhide B2) b4 o4)
 have h4 := b4.block w2.heap.size (by simp)
 rw [alloc_new] at h4
 have h0 := (b4.block w.heap.size (by simp; exact Nat.lt_succ_of_lt (lt_some (unhide H2)))).trans (alloc_heap1 (unhide H2) _)
 have e0 : w4.cell? ⟨w2.heap.size, 0, none⟩ = some (.string sw) := by simp [World.cell?, h4]
 have e1 : w4.cell? ⟨w2.heap.size, 1, none⟩ = some (.slice a x.flags.length c) := by simp [World.cell?, h4]
 have ez : ∀ k, w4.frozen? ⟨w2.heap.size, k, none⟩ = false := fun k => by simp [World.frozen?, h4]
 have r0 : w4.cell? ⟨w.heap.size, 0, none⟩ = some (.string ⟨#[]⟩) := by simp [World.cell?, h0]
 have r1 : w4.cell? ⟨w.heap.size, 1, none⟩ = some (.slice none 0 0) := by simp [World.cell?, h0]
 have rz : ∀ k, w4.frozen? ⟨w.heap.size, k, none⟩ = false := fun k => by simp [World.frozen?, h0]
 have l4 := lt_some h4
 have l0 := lt_some h0
 have l20 := lt_some (unhide H2)
 clear b4 o4 h4 h0 H2 B2 HF HCL HE
 generalize hnf : x.flags.length = nf at *
 go_wp2
 obtain ⟨s1, s2, s3⟩ := unhide HS _ rfl
 clear HS
 show bodyPost _ _ _ _ _ (((w4.setCell ⟨w2.heap.size, 1, none⟩ (.slice a4 nf c4)).setCell ⟨w.heap.size, 0, none⟩ (.string sw)).setCell ⟨w.heap.size, 1, none⟩ (.slice a4 nf c4))
 refine bodyPost_ret (v := .tuple #[.agg #[.string sw, .slice a4 nf c4], .bool true]) (by simp only [results, Tryz.results27]; simp [go_sem, World.cell?, s1]) rfl ?_
 subst hnf
 exact ⟨a4, c4, rfl, s3, s2⟩
theorem suf_any {w : World} {tb B n wb : Nat} {F : Fil} {P : Pts} {E : List Ent} {Q : WPts} {vu ve : Value} {nv fv : List Value} (h : TbAt w tb B F P n wb E Q vu ve nv fv) (hcr : CR F) (hrm : F.rules.length ≤ 1000000) (hm : E.length ≤ 1000000) {k : Nat} {y : Ent} (hy : E[k]? = some y) (hnd : y.flags.Nodup) (hbd : ∀ x ∈ y.flags, 0 ≤ x ∧ x ≤ 65535) :
  Calls Tryz.prog 29 #[.pointer (some ⟨tb, 0, none⟩), .int .i64 (k : Nat)] w fun e w' => ∃ u, e = .returned u ∧ w'.ownsRow w.heap.size 3 1 u (goesL F 2 y.flags).length (nV (goesL F 2 y.flags)) ∧ Below w.heap.size w w' := by
 have HE := hide (entry_in h hm hy)
 have HN := hide (fun W (b : Below w.heap.size w W) v (hv : So.FArg W v y.flags) => named_any (h.below b) hcr hrm hv hnd hbd 2)
 clear h hm hy hrm hcr hnd hbd
 generalize goesL F 2 y.flags = G at *
 go_enter Tryz.func29, Tryz.ntmps29
 go_wp2_with fail
 refine (unhide HE).mono ?_
 rintro e w1 ⟨a, c, rfl, hA, b1⟩
 have B1 := hide b1
 have HV := hide ((hA.below b1).below ((Below.refl w1.heap.size w1).alloc (Nat.le_refl _) (.cells #[.string (Wd.str y.word), .slice a y.flags.length c] 56)))
 clear hA b1
 generalize y.flags.length = nf at *
 go_wp2_with fail
 refine (unhide HN _ ((unhide B1).alloc (unhide B1).size _) _ (unhide HV)).mono ?_
 rintro e w2 ⟨u, rfl, hr, b2⟩
 have HR := hide hr
 have b1w : Below w1.heap.size w1 (w1.alloc (.cells #[.string (Wd.str y.word), .slice a nf c] 56)) := (Below.refl _ _).alloc (Nat.le_refl _) _
 have HB := hide (btr (unhide B1) (b1w.trans (b2.mono b1w.size)))
 have hsz := b1w.size
 have hsz2 := (unhide B1).size
 clear hr b2 b1w
 go_wp2
 go_ret
 exact ⟨_, rfl, own_low (unhide HR) (by omega), unhide HB⟩
theorem pre_any {w : World} {tb B n wb : Nat} {F : Fil} {P : Pts} {E : List Ent} {Q : WPts} {vu ve : Value} {nv fv : List Value} (h : TbAt w tb B F P n wb E Q vu ve nv fv) (hcr : CR F) (hrm : F.rules.length ≤ 1000000) (hm : E.length ≤ 1000000) {k : Nat} {y : Ent} (hy : E[k]? = some y) (hnd : y.flags.Nodup) (hbd : ∀ x ∈ y.flags, 0 ≤ x ∧ x ≤ 65535) :
  Calls Tryz.prog 30 #[.pointer (some ⟨tb, 0, none⟩), .int .i64 (k : Nat)] w fun e w' => ∃ u, e = .returned u ∧ w'.ownsRow w.heap.size 3 1 u (goesL F 1 y.flags).length (nV (goesL F 1 y.flags)) ∧ Below w.heap.size w w' := by
 have HE := hide (entry_in h hm hy)
 have HN := hide (fun W (b : Below w.heap.size w W) v (hv : So.FArg W v y.flags) => named_any (h.below b) hcr hrm hv hnd hbd 1)
 clear h hm hy hrm hcr hnd hbd
 generalize goesL F 1 y.flags = G at *
 go_enter Tryz.func30, Tryz.ntmps30
 go_wp2_with fail
 refine (unhide HE).mono ?_
 rintro e w1 ⟨a, c, rfl, hA, b1⟩
 have B1 := hide b1
 have HV := hide ((hA.below b1).below ((Below.refl w1.heap.size w1).alloc (Nat.le_refl _) (.cells #[.string (Wd.str y.word), .slice a y.flags.length c] 56)))
 clear hA b1
 generalize y.flags.length = nf at *
 go_wp2_with fail
 refine (unhide HN _ ((unhide B1).alloc (unhide B1).size _) _ (unhide HV)).mono ?_
 rintro e w2 ⟨u, rfl, hr, b2⟩
 have HR := hide hr
 have b1w : Below w1.heap.size w1 (w1.alloc (.cells #[.string (Wd.str y.word), .slice a nf c] 56)) := (Below.refl _ _).alloc (Nat.le_refl _) _
 have HB := hide (btr (unhide B1) (b1w.trans (b2.mono b1w.size)))
 have hsz := b1w.size
 have hsz2 := (unhide B1).size
 clear hr b2 b1w
 go_wp2
 go_ret
 exact ⟨_, rfl, own_low (unhide HR) (by omega), unhide HB⟩
theorem sec_any {w : World} {tb B n wb : Nat} {F : Fil} {P : Pts} {E : List Ent} {Q : WPts} {vu ve : Value} {nv fv : List Value} (h : TbAt w tb B F P n wb E Q vu ve nv fv) (hcr : CR F) (hrm : F.rules.length ≤ 1000000) {k : Nat} {y : Rul} (hy : F.rules[k]? = some y) (hnd : y.next.Nodup) (hbd : ∀ x ∈ y.next, 0 ≤ x ∧ x ≤ 65535) :
  Calls Tryz.prog 31 #[.pointer (some ⟨tb, 0, none⟩), .int .i64 (k : Nat)] w fun e w' => ∃ u, e = .returned u ∧ w'.ownsRow w.heap.size 3 1 u (goesL F 2 y.next).length (nV (goesL F 2 y.next)) ∧ Below w.heap.size w w' := by
 have HE := hide (rule_in h hrm hy)
 have HN := hide (fun W (b : Below w.heap.size w W) v (hv : So.FArg W v y.next) => named_any (h.below b) hcr hrm hv hnd hbd 2)
 clear h hy hrm hcr hnd hbd
 generalize goesL F 2 y.next = G at *
 go_enter Tryz.func31, Tryz.ntmps31
 go_wp2_with fail
 refine (unhide HE).mono ?_
 rintro e w1 ⟨a, c, rfl, hA, b1⟩
 have B1 := hide b1
 have HV := hide ((hA.below b1).below ((Below.refl w1.heap.size w1).alloc (Nat.le_refl _) (.cells #[.int .i64 y.kind, .int .u16 y.flag, .bool y.cross, .string (Wd.str y.strip), .string (Wd.str y.add), .string (Wd.str y.cond), .slice a y.next.length c] 79)))
 clear hA b1
 generalize y.next.length = nf at *
 go_wp2_with fail
 refine (unhide HN _ ((unhide B1).alloc (unhide B1).size _) _ (unhide HV)).mono ?_
 rintro e w2 ⟨u, rfl, hr, b2⟩
 have HR := hide hr
 have b1w : Below w1.heap.size w1 (w1.alloc (.cells #[.int .i64 y.kind, .int .u16 y.flag, .bool y.cross, .string (Wd.str y.strip), .string (Wd.str y.add), .string (Wd.str y.cond), .slice a nf c] 79)) := (Below.refl _ _).alloc (Nat.le_refl _) _
 have HB := hide (btr (unhide B1) (b1w.trans (b2.mono b1w.size)))
 have hsz := b1w.size
 have hsz2 := (unhide B1).size
 clear hr b2 b1w
 go_wp2
 go_ret
 exact ⟨_, rfl, own_low (unhide HR) (by omega), unhide HB⟩
def cntK (F : Fil) (k : Int) (fs : List Int) (n : Nat) : Nat := ((List.range n).filter (hasK F k fs)).length
theorem cntK_succ (F : Fil) (k : Int) (fs : List Int) (n : Nat) : cntK F k fs (n + 1) = cntK F k fs n + (if hasK F k fs n = true then 1 else 0) := by
 unfold cntK
 rw [List.range_succ, List.filter_append, List.length_append]
 congr 1
 by_cases h : hasK F k fs n = true
 ·simp [h]
 ·simp [h]
theorem cntK_all (F : Fil) (k : Int) (fs : List Int) : cntK F k fs F.rules.length = (goesL F k fs).length := by
 unfold cntK goesL
 rw [List.length_map]
theorem goes_at {F : Fil} {k : Int} {fs : List Int} {n : Nat} (hn : n < F.rules.length) (h : hasK F k fs n = true) : (goesL F k fs)[cntK F k fs n]? = some ((n : Nat) : Int) ∧ cntK F k fs n < (goesL F k fs).length := by
 have key : (goesL F k fs)[cntK F k fs n]? = some ((n : Nat) : Int) := by
  unfold goesL cntK
  rw [List.getElem?_map]
  obtain ⟨d, hd⟩ : ∃ d, F.rules.length = n + 1 + d := ⟨F.rules.length - (n + 1), by omega⟩
  have e : List.range (n + 1 + d) = List.range n ++ n :: (List.range d).map fun i => n + 1 + i := by
   rw [List.range_add, List.range_succ, List.append_assoc]
   rfl
  rw [hd, e, List.filter_append, List.getElem?_append_right (Nat.le_refl _), Nat.sub_self, List.filter_cons, if_pos h]
  rfl
 exact ⟨key, (List.getElem?_eq_some_iff.1 key).1⟩
def RlsAt (w : World) (v : Value) (F : Fil) : Prop := ∃ ao cap, v = .slice ao F.rules.length cap ∧ F.rules.length ≤ cap ∧ ∀ (n : Nat) r, F.rules[n]? = some r → ∃ g a c, ao = some ⟨g, 0, none⟩ ∧ g < w.heap.size ∧ w.cell? ⟨g, n * 7, none⟩ = some (.int .i64 r.kind) ∧ w.cell? ⟨g, n * 7 + 1, none⟩ = some (.int .u16 r.flag) ∧ w.cell? ⟨g, n * 7 + 2, none⟩ = some (.bool r.cross) ∧ w.cell? ⟨g, n * 7 + 3, none⟩ = some (.string (Wd.str r.strip)) ∧ w.cell? ⟨g, n * 7 + 4, none⟩ = some (.string (Wd.str r.add)) ∧ w.cell? ⟨g, n * 7 + 5, none⟩ = some (.string (Wd.str r.cond)) ∧ w.cell? ⟨g, n * 7 + 6, none⟩ = some (.slice a r.next.length c) ∧ So.FArg w (.slice a r.next.length c) r.next
theorem RlsAt.below {w w' : World} {v : Value} {F : Fil} (h : RlsAt w v F) (b : Below w.heap.size w w') : RlsAt w' v F := by
 obtain ⟨ao, cap, e, hc, hr⟩ := h
 refine ⟨ao, cap, e, hc, fun n r hn => ?_⟩
 obtain ⟨g, a, c, e1, hg, q0, q1, q2, q3, q4, q5, q6, hf⟩ := hr n r hn
 exact ⟨g, a, c, e1, Nat.lt_of_lt_of_le hg b.size, (b.cell (p := ⟨g, n * 7, none⟩) hg).trans q0, (b.cell (p := ⟨g, n * 7 + 1, none⟩) hg).trans q1, (b.cell (p := ⟨g, n * 7 + 2, none⟩) hg).trans q2, (b.cell (p := ⟨g, n * 7 + 3, none⟩) hg).trans q3, (b.cell (p := ⟨g, n * 7 + 4, none⟩) hg).trans q4, (b.cell (p := ⟨g, n * 7 + 5, none⟩) hg).trans q5, (b.cell (p := ⟨g, n * 7 + 6, none⟩) hg).trans q6, hf.below b⟩
theorem RulR.rls {B j : Nat} {w : World} {F : Fil} {v : Value} {nv : List Value} (h : RulR B w F v nv j) : RlsAt w v F := by
 obtain ⟨ao, cap, rfl, hc, -⟩ := own_len h.1
 refine ⟨ao, cap, rfl, hc, fun n r hn => ?_⟩
 have hnl := (List.getElem?_eq_some_iff.1 hn).1
 obtain ⟨u, hu⟩ : ∃ u, nv[n]? = some u := ⟨_, List.getElem?_eq_getElem (by rw [h.2.1]; exact hnl)⟩
 have hf := (h.2.2 n u r hu hn).arg
 obtain ⟨g, cap2, e, -, hg, -, -, -, hcl⟩ := own_at h.1 (by omega)
 injection e with e1 e2 e3
 subst e1
 have hz : (F.rules.zip nv)[n]? = some (r, u) := by rw [List.getElem?_zip_eq_some]; exact ⟨hn, hu⟩
 have q : ∀ i, i < 7 → w.cell? ⟨g, n * 7 + i, none⟩ = (rulC r u)[i]? := fun i hi => by
  rw [hcl _ (by omega)]
  exact flat_get (f := fun p => rulC p.1 p.2) (m := 7) (fun x => rfl) (k := i) hz hi
 obtain ⟨a, c, rfl, -⟩ := id hf
 exact ⟨g, a, c, rfl, hg, q 0 (by decide), q 1 (by decide), q 2 (by decide), q 3 (by decide), q 4 (by decide), q 5 (by decide), q 6 (by decide), hf⟩
theorem hasK_eq {F : Fil} {k : Int} {fs : List Int} {n : Nat} {r : Rul} (h : F.rules[n]? = some r) : hasK F k fs n = decide (r.flag ∈ fs ∧ r.kind = k) := by unfold hasK; rw [h]
theorem mem_snoc {f x k kk : Int} {fs : List Int} {j : Nat} (hx : fs[j]? = some x) : decide (f ∈ fs.take (j + 1) ∧ kk = k) = (decide (f ∈ fs.take j ∧ kk = k) || (x == f && kk == k)) := by
 rw [So.take_snoc hx, Bool.eq_iff_iff]
 simp only [decide_eq_true_eq, List.mem_append, List.mem_singleton, Bool.or_eq_true, Bool.and_eq_true, beq_iff_eq]
 constructor
 ·rintro ⟨q | q, z⟩
  ·exact .inl ⟨q, z⟩
  ·exact .inr ⟨q.symm, z⟩
 ·rintro (⟨q, z⟩ | ⟨q, z⟩)
  ·exact ⟨.inl q, z⟩
  ·exact ⟨.inr q.symm, z⟩
theorem goes_any {w : World} {va vf vl : Value} {F : Fil} {fs : List Int} {k : Int} {B : Nat} (hR : RlsAt w va F) (hN : F.rules.length ≤ 1000000) (hf : So.FArg w vf fs) (hl : w.ownsRow B 3 1 vl (goesL F k fs).length (nV (goesL F k fs))) :
  Calls Tryz.prog 28 #[va, vf, vl, .int .i64 k] w fun e w' => e = .returned (.bool true) ∧ Below w.heap.size w w' := by
 have HR := hide hR
 have HF := hide hf
 obtain ⟨ao, cap, rfl, hcap, -⟩ := hR
 obtain ⟨af, cf, rfl, hcf, hmf, -, -⟩ := hf
 obtain ⟨al, cl, rfl, hcl, hml⟩ := own_len hl
 have HL : Hid (∀ (n : Nat), n < F.rules.length → hasK F k fs n = true → ∃ g, al = some ⟨g, 0, none⟩ ∧ g < w.heap.size ∧ cntK F k fs n < (goesL F k fs).length ∧ w.cell? ⟨g, cntK F k fs n, none⟩ = some (.int .i64 (n : Int))) := by
  intro n hn hk
  obtain ⟨h1, h2⟩ := goes_at hn hk
  obtain ⟨g, cap2, e, -, hg, -, -, -, hc⟩ := own_at hl (by omega)
  injection e with e1 e2 e3
  refine ⟨g, e1, hg, h2, ?_⟩
  rw [hc _ (by omega)]
  simp [nV, h1]
 have HALL := hide (cntK_all F k fs)
 generalize hln : (goesL F k fs).length = ln at *
 have hlb : ln ≤ F.rules.length := by
  rw [← hln]
  unfold goesL
  rw [List.length_map]
  exact Nat.le_trans (List.length_filter_le ..) (by simp)
 generalize hnn : F.rules.length = N at *
 have HNN := hide hnn
 generalize hmm : fs.length = m at *
 have HMM := hide hmm
 unfold maxLen at hmf hml
 clear hl hln hnn hmm
 go_enter Tryz.func28, Tryz.ntmps28
 go_wp2
 go_loopw [9, 17] (fun s9 s17 wr => ∃ n : Nat, n ≤ N ∧ s17 = .int .i64 n ∧ s9 = .int .i64 (cntK F k fs n : Nat) ∧ Hid (Below w.heap.size w wr)) (fun _ s17 _ => N - (intOf s17).toNat)
 case atStart => exact ⟨0, Nat.zero_le _, rfl, rfl, Below.refl _ _⟩
 case round =>
  obtain ⟨n, hn, rfl, rfl, HB⟩ := hrel
  by_cases hlt : n < N
  ·have hltz : (n : Int) < (N : Int) := by omega
   obtain ⟨r, hr⟩ : ∃ r, F.rules[n]? = some r := ⟨_, List.getElem?_eq_getElem (by rw [unhide HNN]; exact hlt)⟩
   obtain ⟨g, a, c, rfl, hg, q0, q1, q2, q3, q4, q5, q6, hfn⟩ : ∃ g a c, ao = some ⟨g, 0, none⟩ ∧ g < wr.heap.size ∧ wr.cell? ⟨g, n * 7, none⟩ = some (.int .i64 r.kind) ∧ wr.cell? ⟨g, n * 7 + 1, none⟩ = some (.int .u16 r.flag) ∧ wr.cell? ⟨g, n * 7 + 2, none⟩ = some (.bool r.cross) ∧ wr.cell? ⟨g, n * 7 + 3, none⟩ = some (.string (Wd.str r.strip)) ∧ wr.cell? ⟨g, n * 7 + 4, none⟩ = some (.string (Wd.str r.add)) ∧ wr.cell? ⟨g, n * 7 + 5, none⟩ = some (.string (Wd.str r.cond)) ∧ wr.cell? ⟨g, n * 7 + 6, none⟩ = some (.slice a r.next.length c) ∧ True := by
    obtain ⟨ao', cap', e, -, h3⟩ := (unhide HR).below (unhide HB)
    injection e with e
    subst e
    obtain ⟨g, a, c, e1, hg, q0, q1, q2, q3, q4, q5, q6, -⟩ := h3 n r hr
    exact ⟨g, a, c, e1, hg, q0, q1, q2, q3, q4, q5, q6, trivial⟩
   have HK := hide (hasK_eq (k := k) (fs := fs) hr)
   clear hfn hr
   generalize r.kind = rk at *
   generalize r.flag = rf at *
   generalize r.cross = rx at *
   generalize Wd.str r.strip = rs at *
   generalize Wd.str r.add = ra at *
   generalize Wd.str r.cond = rc at *
   generalize r.next.length = rn at *
   go_wp2
   obtain ⟨V, hV⟩ : ∃ V, V = wr.alloc (.cells #[.int .i64 rk, .int .u16 rf, .bool rx, .string rs, .string ra, .string rc, .slice a rn c] 79) := ⟨_, rfl⟩
   have hb : V.heap[wr.heap.size]? = some (.cells #[.int .i64 rk, .int .u16 rf, .bool rx, .string rs, .string ra, .string rc, .slice a rn c] 79 (0, 0)) := by rw [hV]; exact alloc_new _ _
   have bV : Below wr.heap.size wr V := by rw [hV]; exact (Below.refl _ _).alloc (Nat.le_refl _) _
   have e0 : V.cell? ⟨wr.heap.size, 0, none⟩ = some (.int .i64 rk) := by simp [World.cell?, hb]
   have e1 : V.cell? ⟨wr.heap.size, 1, none⟩ = some (.int .u16 rf) := by simp [World.cell?, hb]
   have HBV := hide (btr (unhide HB) bV)
   refine gen_world ?_
   intro V' hV'
   obtain rfl : V' = V := hV'.trans hV.symm
   clear hV hV' hb bV q0 q1 q2 q3 q4 q5 q6
   go_loop [12, 24] (fun s12 s24 => ∃ j : Nat, j ≤ m ∧ s24 = .int .i64 j ∧ s12 = .bool (decide (rf ∈ fs.take j ∧ rk = k))) (fun _ s24 => m - (intOf s24).toNat)
   case atStart => exact ⟨0, Nat.zero_le _, rfl, by simp⟩
   case round =>
    obtain ⟨j, hj, rfl, rfl⟩ := hrel
    by_cases hltj : j < m
    ·have hltz2 : (j : Int) < (m : Int) := by omega
     obtain ⟨x, hx⟩ : ∃ x, fs[j]? = some x := ⟨_, List.getElem?_eq_getElem (by rw [unhide HMM]; exact hltj)⟩
     obtain ⟨gf, off, rfl, hgf, hcx⟩ : ∃ gf off, af = some ⟨gf, off, none⟩ ∧ gf < V'.heap.size ∧ V'.cell? ⟨gf, off + j, none⟩ = some (So.encF x) := by
      obtain ⟨a', c', ee, -, -, -, h3⟩ := (unhide HF).below (unhide HBV)
      injection ee with ee
      subst ee
      obtain ⟨gf, off, e2, hgf, hh⟩ := h3 (by rw [unhide HMM]; omega)
      exact ⟨gf, off, e2, hgf, hh j x hx⟩
     simp only [So.encF] at hcx
     have HMS := hide (mem_snoc (f := rf) (k := k) (kk := rk) hx)
     clear hx
     generalize decide (rf ∈ fs.take j ∧ rk = k) = b0 at *
     cases hq1 : x == rf
     ·rw [hq1] at HMS
      cases b0
      all_goals
       go_wp2
       go_round
       case rel => exact ⟨j + 1, by omega, by go_num, by rw [unhide HMS]; rfl⟩
       case measure => simp [intOf]; omega
     ·rw [hq1] at HMS
      cases hq2 : rk == k
      ·rw [hq2] at HMS
       cases b0
       all_goals
        go_wp2
        go_round
        case rel => exact ⟨j + 1, by omega, by go_num, by rw [unhide HMS]; rfl⟩
        case measure => simp [intOf]; omega
      ·rw [hq2] at HMS
       cases b0
       all_goals
        go_wp2
        go_round
        case rel => exact ⟨j + 1, by omega, by go_num, by rw [unhide HMS]; rfl⟩
        case measure => simp [intOf]; omega
    ·obtain rfl : j = m := by omega
     have hltz2 : ¬ (j : Int) < (j : Int) := by omega
     have et : fs.take j = fs := by rw [← unhide HMM]; exact List.take_length
     rw [et, ← unhide HK]
     have HCS := hide (cntK_succ F k fs n)
     cases hh : hasK F k fs n with
     | false =>
      rw [hh] at HCS
      go_wp2
      go_roundw
      case rel => exact ⟨n + 1, by omega, by go_num, by rw [unhide HCS]; rfl, HBV⟩
      case measure => simp [intOf]; omega
     | true =>
      rw [hh] at HCS
      obtain ⟨gl, rfl, hgl, hlc, hcc⟩ := unhide HL n hlt hh
      have hcv := ((unhide HBV).cell (p := ⟨gl, cntK F k fs n, none⟩) hgl).trans hcc
      have hglv := Nat.lt_of_lt_of_le hgl (unhide HBV).size
      generalize cntK F k fs n = c0 at *
      have hz1 : ¬ (ln : Int) ≤ (c0 : Int) := by omega
      have hz2 : (c0 : Int) < (ln : Int) := by omega
      have hz3 : ((n : Int) != (n : Int)) = false := by simp
      clear hcc hh
      go_wp2
      go_roundw
      case rel => exact ⟨n + 1, by omega, by go_num, by rw [unhide HCS]; go_num, HBV⟩
      case measure => simp [intOf]; omega
  ·obtain rfl : n = N := by omega
   have hltz : ¬ (n : Int) < (n : Int) := by omega
   rw [unhide HALL]
   have hz : ((ln : Int) == (ln : Int)) = true := by simp
   go_wp2
   go_ret
   exact ⟨rfl, unhide HB⟩
end Af
end Go.Proofs.YtidhbhdcoanfcaaGreatDoor
