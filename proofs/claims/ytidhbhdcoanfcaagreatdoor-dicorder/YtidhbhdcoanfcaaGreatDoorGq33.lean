import Derived.Test.YtidhbhdcoanfcaaGreatDoorGq32
import Derived.Shelf.SlicesE.Clone
set_option maxHeartbeats 8000000
set_option maxRecDepth 100000
namespace Go.Proofs.YtidhbhdcoanfcaaGreatDoor
open Go.RowKit
namespace Af
open RowB
structure Nb (F : Fil) : Prop where
 nx : ∀ r ∈ F.rules, ∀ x ∈ r.next, 0 ≤ x ∧ x ≤ 65535
 al : ∀ a ∈ F.aliases, ∀ x ∈ a, 0 ≤ x ∧ x ≤ 65535
theorem rS_nb (k : Int) (s : Bs) : ∀ x ∈ So.rS k s, 0 ≤ x ∧ x ≤ 65535 := by
 intro x hx
 unfold So.rS at hx
 split at hx
 ·rw [So.mem_setOf] at hx
  unfold So.vals at hx
  obtain ⟨p, -, rfl⟩ := List.mem_map.1 hx
  exact One.val_bounds _ _
 ·cases hx
theorem flgS_nb {F : Fil} (h : Nb F) (s : Bs) : ∀ x ∈ flgS F s, 0 ≤ x ∧ x ≤ 65535 := by
 intro x hx
 unfold flgS at hx
 split at hx
 ·exact rS_nb _ _ x hx
 ·split at hx
  ·cases hq : F.aliases[flgN F s - 1]? with
   | none => rw [hq] at hx; cases hx
   | some a =>
    rw [hq] at hx
    exact h.al a (List.mem_of_getElem? hq) x hx
  ·cases hx
theorem rule_nb {F : Fil} (h : Nb F) {l : Nat} {c : Cls} {row : List Bs} {r : Rul} (hr : rule F l c row = .ok r) : ∀ x ∈ r.next, 0 ≤ x ∧ x ≤ 65535 := by
 have key : ∀ p, added F l c.kind (fld row 3) = .ok p → ∀ x ∈ p.2, 0 ≤ x ∧ x ≤ 65535 := by
  intro p hp
  unfold added at hp
  split at hp
  ·cases hp
  ·split at hp
   ·cases hp
   ·split at hp
    ·injection hp with hp; subst hp; intro x hx; cases hx
    ·split at hp
     ·cases hp
     ·split at hp
      ·cases hp
      ·injection hp with hp; subst hp; exact flgS_nb h _
 unfold rule at hr
 split at hr
 ·cases hr
 ·split at hr
  ·cases hr
  ·split at hr
   ·cases hr
   ·rename_i p hp
    have := key p hp
    split at hr
    ·split at hr
     ·cases hr
     ·injection hr with hr; subst hr; exact this
    ·injection hr with hr; subst hr; exact this
theorem repStep_nb {key : Bs} {R R' : Rdr} (h : repStep key R = .ok R') (k : Nb R.file) : Nb R'.file := by
 unfold repStep at h
 split at h
 ·cases h
 ·rename_i row R1 hg
  obtain ⟨m, e⟩ := grow_mo hg
  split at h
  ·cases h
  ·injection h with h
   subst h
   exact ⟨by rw [e]; exact k.nx, by rw [e]; exact k.al⟩
theorem aliStep_nb {key : Bs} {R R' : Rdr} (h : aliStep key R = .ok R') (k : Nb R.file) : Nb R'.file := by
 unfold aliStep at h
 split at h
 ·cases h
 ·rename_i row R1 hg
  obtain ⟨m, e⟩ := grow_mo hg
  split at h
  ·cases h
  ·rename_i p hp
   injection h with h
   subst h
   refine ⟨by rw [e]; exact k.nx, fun a ha => ?_⟩
   rw [e] at ha
   rcases List.mem_append.1 ha with q | q
   ·exact k.al a q
   ·simp at q
    subst q
    unfold aliRow at hp
    repeat' split at hp
    all_goals first | (cases hp; done) | (injection hp with hp; subst hp; exact rS_nb _ _)
theorem rulStep_nb {beg : List Bs} {c : Cls} {R R' : Rdr} (h : rulStep beg c R = .ok R') (k : Nb R.file) : Nb R'.file := by
 unfold rulStep at h
 split at h
 ·cases h
 ·rename_i row R1 hg
  obtain ⟨m, e⟩ := grow_mo hg
  split at h
  ·cases h
  ·rename_i p hp
   injection h with h
   subst h
   have kk : Nb R1.file := by rw [e]; exact k
   refine ⟨fun r hr => ?_, kk.al⟩
   rcases List.mem_append.1 hr with q | q
   ·exact kk.nx r q
   ·simp at q
    subst q
    exact rule_nb kk hp
theorem doKey_nb {R R' : Rdr} {h : List Bs} {k : Key} (hk : doKey R h k = .ok R') (hn : Nb R.file) : Nb R'.file := by
 have triv : ∀ (f : Except Er Rdr) , f = .ok R' → (∀ R1, f = .ok R1 → R1.file.rules = R.file.rules ∧ R1.file.aliases = R.file.aliases) → Nb R'.file := by
  intro f hf q
  obtain ⟨e1, e2⟩ := q R' hf
  exact ⟨by rw [e1]; exact hn.nx, by rw [e2]; exact hn.al⟩
 cases k with
 | kind =>
  refine triv _ hk fun R1 q => ?_
  simp only [doKey, doKind] at q
  repeat' split at q
  all_goals first | (cases q; done) | (injection q with q; subst q; exact ⟨rfl, rfl⟩)
 | charset =>
  refine triv _ hk fun R1 q => ?_
  simp only [doKey, doCharset] at q
  repeat' split at q
  all_goals first | (cases q; done) | (injection q with q; subst q; exact ⟨rfl, rfl⟩)
 | letters =>
  refine triv _ hk fun R1 q => ?_
  simp only [doKey, doLetters] at q
  repeat' split at q
  all_goals first | (cases q; done) | (injection q with q; subst q; exact ⟨rfl, rfl⟩)
 | special i =>
  refine triv _ hk fun R1 q => ?_
  simp only [doKey, doSpecial] at q
  repeat' split at q
  all_goals first | (cases q; done) | (injection q with q; subst q; exact ⟨rfl, rfl⟩)
 | least =>
  refine triv _ hk fun R1 q => ?_
  simp only [doKey, doLeast] at q
  repeat' split at q
  all_goals first | (cases q; done) | (injection q with q; subst q; exact ⟨rfl, rfl⟩)
 | reps =>
  simp only [doKey, doReps] at hk
  split at hk
  ·cases hk
  ·exact times_rel (rel := fun R R' => Nb R.file → Nb R'.file) (fun R h => h) (fun a b c x y z => y (x z)) (fun R R' q => repStep_nb q) _ _ _ hk hn
 | aliases =>
  simp only [doKey, doAliases] at hk
  split at hk
  ·cases hk
  ·split at hk
   ·cases hk
   ·exact times_rel (rel := fun R R' => Nb R.file → Nb R'.file) (fun R h => h) (fun a b c x y z => y (x z)) (fun R R' q => aliStep_nb q) _ _ _ hk hn
 | cls kk =>
  simp only [doKey, doClass] at hk
  split at hk
  ·cases hk
  ·split at hk
   ·cases hk
   ·split at hk
    ·cases hk
    ·split at hk
     ·cases hk
     ·exact times_rel (rel := fun R R' => Nb R.file → Nb R'.file) (fun R h => h) (fun a b c x y z => y (x z)) (fun R R' q => rulStep_nb q) _ _ _ hk ⟨hn.nx, hn.al⟩
theorem heading_nb {R R' : Rdr} {l : Nat} {hd : List Bs} (h : heading R l hd = .ok R') (hn : Nb R.file) : Nb R'.file := by
 unfold heading at h
 split at h
 ·cases h
 ·split at h
  ·cases h
  ·split at h
   ·cases h
   ·split at h
    ·cases h
    ·rename_i R2 hd2
     injection h with h
     subst h
     have := doKey_nb (R := { R with line := l }) hd2 hn
     exact this
structure Nl (R : Rdr) : Prop where
 ok : RowsOk R.rows
 ln : ∀ r ∈ R.file.rules, r.line ≤ 65536
theorem grow_nl {R R1 : Rdr} {beg row : List Bs} (h : grow R beg = .ok (row, R1)) (k : Nl R) : Nl R1 ∧ R1.line ≤ 65536 := by
 obtain ⟨l, t, h1, h2⟩ := grow_fld h
 subst h2
 refine ⟨⟨fun p hp => k.ok p (by rw [h1]; exact List.mem_cons_of_mem _ hp), k.ln⟩, ?_⟩
 exact (k.ok (l, row) (by rw [h1]; simp)).1
theorem repStep_nl {key : Bs} {R R' : Rdr} (h : repStep key R = .ok R') (k : Nl R) : Nl R' := by
 unfold repStep at h
 split at h
 ·cases h
 ·rename_i row R1 hg
  have m := grow_nl hg k
  split at h
  ·cases h
  ·injection h with h
   subst h
   exact ⟨m.1.ok, m.1.ln⟩
theorem aliStep_nl {key : Bs} {R R' : Rdr} (h : aliStep key R = .ok R') (k : Nl R) : Nl R' := by
 unfold aliStep at h
 split at h
 ·cases h
 ·rename_i row R1 hg
  have m := grow_nl hg k
  split at h
  ·cases h
  ·injection h with h
   subst h
   exact ⟨m.1.ok, m.1.ln⟩
theorem rulStep_nl {beg : List Bs} {c : Cls} {R R' : Rdr} (h : rulStep beg c R = .ok R') (k : Nl R) : Nl R' := by
 unfold rulStep at h
 split at h
 ·cases h
 ·rename_i row R1 hg
  have m := grow_nl hg k
  split at h
  ·cases h
  ·rename_i p hp
   injection h with h
   subst h
   refine ⟨m.1.ok, fun r hr => ?_⟩
   rcases List.mem_append.1 hr with q | q
   ·exact m.1.ln r q
   ·simp at q
    subst q
    rw [rule_line hp]
    exact m.2
theorem doKey_nl {R R' : Rdr} {h : List Bs} {k : Key} (hk : doKey R h k = .ok R') (hn : Nl R) : Nl R' := by
 have triv : ∀ (f : Except Er Rdr) , f = .ok R' → (∀ R1, f = .ok R1 → R1.file.rules = R.file.rules ∧ R1.rows = R.rows) → Nl R' := by
  intro f hf q
  obtain ⟨e1, e2⟩ := q R' hf
  exact ⟨by rw [e2]; exact hn.ok, by rw [e1]; exact hn.ln⟩
 cases k with
 | reps =>
  simp only [doKey, doReps] at hk
  split at hk
  ·cases hk
  ·exact times_rel (rel := fun R R' => Nl R → Nl R') (fun R h => h) (fun a b c x y z => y (x z)) (fun R R' q => repStep_nl q) _ _ _ hk hn
 | aliases =>
  simp only [doKey, doAliases] at hk
  split at hk
  ·cases hk
  ·split at hk
   ·cases hk
   ·exact times_rel (rel := fun R R' => Nl R → Nl R') (fun R h => h) (fun a b c x y z => y (x z)) (fun R R' q => aliStep_nl q) _ _ _ hk hn
 | cls kk =>
  simp only [doKey, doClass] at hk
  split at hk
  ·cases hk
  ·split at hk
   ·cases hk
   ·split at hk
    ·cases hk
    ·split at hk
     ·cases hk
     ·exact times_rel (rel := fun R R' => Nl R → Nl R') (fun R h => h) (fun a b c x y z => y (x z)) (fun R R' q => rulStep_nl q) _ _ _ hk ⟨hn.ok, hn.ln⟩
 | _ =>
  refine triv _ hk fun R1 q => ?_
  simp only [doKey, doKind, doCharset, doLetters, doSpecial, doLeast] at q
  repeat' split at q
  all_goals first | (cases q; done) | (injection q with q; subst q; exact ⟨rfl, rfl⟩)
theorem heading_nl {R R' : Rdr} {l : Nat} {hd : List Bs} (h : heading R l hd = .ok R') (hn : Nl R) : Nl R' := by
 unfold heading at h
 split at h
 ·cases h
 ·split at h
  ·cases h
  ·split at h
   ·cases h
   ·split at h
    ·cases h
    ·rename_i R2 hd2
     injection h with h
     subst h
     have := doKey_nl (R := { R with line := l }) hd2 ⟨hn.ok, hn.ln⟩
     exact ⟨this.ok, this.ln⟩
def badR (F : Fil) (r : Rul) : Bool := !(r.next.all (goesOn F))
def NS (B rb : Nat) (w W : World) (R : Rdr) (P : Pts) (j : Nat) : Prop := ∃ lj, RAt B W rb { R with line := lj } P ∧ Kt B P.pm P.hm w W ∧ (R.file.rules.take j).find? (badR R.file) = none
def CRes (B rb : Nat) (P : Pts) (R : Rdr) (w : World) (e : Ending) (w' : World) : Prop :=
 Kt B P.pm P.hm w w' ∧ match nexts R.file with
 | none => e = .returned (.tuple #[]) ∧ ∃ l, RAt B w' rb { R with line := l } P
 | some k => e = .panicked (chn (k, 118))
theorem RAt.line {B rb : Nat} {R : Rdr} {P : Pts} {w : World} (h : RAt B w rb R P) (l : Nat) (hl : l ≤ 65537) : RAt B (w.setCell ⟨rb, 2, none⟩ (.int .i64 (l : Nat))) rb { R with line := l } P ∧ Kt B P.pm P.hm w (w.setCell ⟨rb, 2, none⟩ (.int .i64 (l : Nat))) := by
 have k := kp_set w rb 2 (.int .i64 (l : Nat))
 refine ⟨h.turn k (set_heap1 h.rdr _) (rows_kept h.rows (k.kept h.rdr (ne_cells (by decide))) (k.kept h.rdr (ne_cells (by decide)))) (own_kept h.lns (k.kept h.rdr (ne_cells (by decide)))) rfl rfl rfl ⟨h.few.2.1, hl⟩ h.rok, h.kt k ((Below.refl B w).setCell (p := ⟨rb, 2, none⟩) h.rbB _)⟩
theorem zip_get {α β : Type} {a : List α} {b : List β} {j : Nat} {x : α} {y : β} (h1 : a[j]? = some x) (h2 : b[j]? = some y) : (a.zip b)[j]? = some (x, y) := by
 rw [List.getElem?_zip_eq_some]
 exact ⟨h1, h2⟩
theorem checkNexts_any {B rb : Nat} {R : Rdr} {P : Pts} {w : World} (h : RAt B w rb R P) (hn : Nb R.file) (hl : ∀ r ∈ R.file.rules, r.line ≤ 65536) :
  Calls Tryz.prog 60 #[ptr rb] w (CRes B rb P R w) := by
 have hnx : nexts R.file = (R.file.rules.find? (badR R.file)).map (·.line) := rfl
 obtain ⟨d0, -, -, -, -, d5, -⟩ := h.cells
 obtain ⟨-, -, -, -, k12, -, -⟩ := h.file.cells
 obtain ⟨au, cu, eu, hu1, hu2⟩ := own_len h.file.ruls
 rw [eu] at k12
 unfold maxLen at hu2
 obtain ⟨n, hnn⟩ : ∃ n, R.file.rules.length = n := ⟨_, rfl⟩
 rw [hnn] at k12 hu1
 rcases Nat.eq_zero_or_pos n with hz | hpos
 ·subst hz
  have HH := hide h
  have HNN : Hid (nexts R.file = none) := by
   rw [Hid, hnx, List.length_eq_zero_iff.1 hnn]
   rfl
  have hltz : ¬ (0 : Int) < 0 := by omega
  clear h hn hl hnx hnn eu d5
  go_enter Tryz.func60, Tryz.ntmps60
  go_wp2
  go_loopw [13] (fun s13 wr => s13 = .int .i64 0 ∧ wr = w) (fun _ _ => 0)
  case atStart => exact ⟨rfl, rfl⟩
  case round =>
   obtain ⟨rfl, rfl⟩ := hrel
   go_wp2
   go_end0
   refine ⟨Kt.refl _ _ _ _, ?_⟩
   rw [unhide HNN]
   exact ⟨rfl, R.line, unhide HH⟩
 obtain ⟨gu, cu0, e10, -, -, -, -, -, -⟩ := own_at h.file.ruls (by omega)
 rw [hnn] at e10 eu
 rw [eu] at e10
 injection e10 with e10 _ _
 subst e10
 have HN := hide hnn
 have HEU := hide eu
 have HH := hide h
 have HNB := hide hn
 have HLL := hide hl
 have HNX := hide hnx
 clear h hn hl hnx hnn eu
 go_enter Tryz.func60, Tryz.ntmps60
 go_wp2
 go_loopw [13] (fun s13 wr => ∃ j : Nat, s13 = .int .i64 j ∧ j ≤ n ∧ Hid (NS B rb w wr R P j)) (fun s13 _ => n - (intOf s13).toNat)
 case atStart => exact ⟨0, rfl, Nat.zero_le _, ⟨R.line, unhide HH, Kt.refl _ _ _ _, rfl⟩⟩
 case round =>
  obtain ⟨j, rfl, hj, HR⟩ := hrel
  clear d0 d5 k12
  by_cases hlt : j < n
  ·have hltz : (j : Int) < (n : Int) := by omega
   have hj0 : ¬ (j : Int) < 0 := by omega
   obtain ⟨lj, hA, hK, hF⟩ := unhide HR
   have hjr : j < R.file.rules.length := by rw [unhide HN]; exact hlt
   obtain ⟨r, hr⟩ : ∃ r, R.file.rules[j]? = some r := ⟨_, List.getElem?_eq_getElem hjr⟩
   obtain ⟨v, hv⟩ : ∃ v, P.nv[j]? = some v := ⟨_, List.getElem?_eq_getElem (by rw [hA.file.rulF.1]; exact hjr)⟩
   have hfn := hA.file.rulF.2 j v r hv hr
   obtain ⟨gu', cu', e1, -, hgu, -, -, -, hcu⟩ := own_at hA.file.ruls (by show 0 < R.file.rules.length; omega)
   replace e1 : P.vu = .slice (some ⟨gu', 0, none⟩) n cu' := e1.trans (by rw [show ({ R with line := lj } : Rdr).file.rules.length = n from unhide HN])
   rw [unhide HEU] at e1
   injection e1 with e1 _ _
   injection e1 with e1
   injection e1 with e1 _ _
   subst e1
   have q : ∀ k, k < 7 → wr.cell? ⟨gu, j * 7 + k, none⟩ = (rulC r v)[k]? := fun k hk => (hcu _ (by show j * 7 + k < R.file.rules.length * 7; omega)).trans (flat_get (f := fun p : Rul × Value => rulC p.1 p.2) (m := 7) (fun _ => rfl) (zip_get hr hv) hk)
   have q0 := q 0 (by decide)
   have q1 := q 1 (by decide)
   have q2 := q 2 (by decide)
   have q3 := q 3 (by decide)
   have q4 := q 4 (by decide)
   have q5 := q 5 (by decide)
   have q6 := q 6 (by decide)
   simp only [rulC, List.getElem?_cons_zero, List.getElem?_cons_succ, Nat.add_zero] at q0 q1 q2 q3 q4 q5 q6
   obtain ⟨gl, cl', e2, -, hgl, hcl1, hcl2, -, hcl⟩ := own_at hA.lns (by show 0 < R.file.rules.length; omega)
   have p0 : wr.cell? ⟨gl, j, none⟩ = some (.int .i64 (r.line : Nat)) := by
    rw [hcl j (by show j < R.file.rules.length * 1; omega)]
    simp [hr, linC]
   obtain ⟨d0, -, d2, -, -, d5, dz⟩ := hA.cells
   unfold LineAt at d2
   rw [e2] at d5
   replace d5 : wr.cell? ⟨rb, 5, none⟩ = some (.slice (some ⟨gl, 0, none⟩) n cl') := d5.trans (by rw [show ({ R with line := lj } : Rdr).file.rules.length = n from unhide HN])
   unfold maxLen at hcl2
   have hrl := unhide HLL r (List.mem_of_getElem? hr)
   have hbd := unhide HNB |>.nx r (List.mem_of_getElem? hr)
   have HHB := hide hA.base
   obtain ⟨ao, m, c, rfl⟩ : ∃ a m c, v = .slice a m c := by
    rcases hfn with ⟨q, -⟩ | ⟨gq, cq, curq, q, -⟩
    ·exact ⟨_, _, _, q⟩
    ·exact ⟨_, _, _, q⟩
   have HNT : Hid ((R.file.rules.take (j + 1)).find? (badR R.file) = if badR R.file r then some r else none) := by
    rw [Hid, List.take_succ_eq_append_getElem hjr, (List.getElem?_eq_some_iff.1 hr).2, List.find?_append, hF]
    simp [List.find?_cons]
    cases badR R.file r <;> rfl
   have HKW : Hid (∀ o, RAt B ((wr.setCell ⟨rb, 2, none⟩ (.int .i64 (r.line : Nat))).alloc o) rb { R with line := r.line } P ∧ Kt B P.pm P.hm w ((wr.setCell ⟨rb, 2, none⟩ (.int .i64 (r.line : Nat))).alloc o) ∧ FNx B ((wr.setCell ⟨rb, 2, none⟩ (.int .i64 (r.line : Nat))).alloc o) (.slice ao m c) r.next) := by
    intro o
    obtain ⟨h2, h3⟩ := hA.line r.line (by omega)
    have b1 : Below (wr.setCell ⟨rb, 2, none⟩ (.int .i64 (r.line : Nat))).heap.size (wr.setCell ⟨rb, 2, none⟩ (.int .i64 (r.line : Nat))) ((wr.setCell ⟨rb, 2, none⟩ (.int .i64 (r.line : Nat))).alloc o) := (Below.refl _ _).alloc (Nat.le_refl _) o
    refine ⟨h2.below b1, (hK.trans h3).trans (Kt.of_below b1 h2.base), ?_⟩
    exact fnx_kept (fnx_kept hfn ((kp_set _ rb 2 _).kept hA.rdr (ne_cells (by decide)))) (below_kept b1)
   have HCF := hide (fun o => containsFunc_any (unhide HKW o).1 (.slice ao m c) r.next (unhide HKW o).2.2.arg hbd)
   have hmf : ∀ (fn : Fn) (first cap : Array Value) (w : World), (Instr.makeFunc fn first cap).run Tryz.prog w = .ok (.func fn first cap) w := fun _ _ _ _ => rfl
   have hrb := hA.lt
   have hrb2 : rb ≠ wr.heap.size := Nat.ne_of_lt hrb
   have q66 : ((wr.setCell ⟨rb, 2, none⟩ (.int .i64 (r.line : Nat))).alloc (.cells #[.int .i64 r.kind, .int .u16 r.flag, .bool r.cross, .string (Wd.str r.strip), .string (Wd.str r.add), .string (Wd.str r.cond), .slice ao m c] 79)).cell? ⟨wr.heap.size, 6, none⟩ = some (.slice ao m c) := by
    have e := alloc_new (wr.setCell ⟨rb, 2, none⟩ (.int .i64 (r.line : Nat))) (.cells #[.int .i64 r.kind, .int .u16 r.flag, .bool r.cross, .string (Wd.str r.strip), .string (Wd.str r.add), .string (Wd.str r.cond), .slice ao m c] 79)
    rw [show (wr.setCell ⟨rb, 2, none⟩ (.int .i64 (r.line : Nat))).heap.size = wr.heap.size by simp [World.setCell]] at e
    unfold World.cell?
    simp only
    rw [e]
    rfl
   have q67 : (wr.alloc (.cells #[.int .i64 r.kind, .int .u16 r.flag, .bool r.cross, .string (Wd.str r.strip), .string (Wd.str r.add), .string (Wd.str r.cond), .slice ao m c] 79)).cell? ⟨wr.heap.size, 6, none⟩ = some (.slice ao m c) := by
    unfold World.cell?
    simp only
    rw [alloc_new]
    rfl
   have q68 : ((wr.alloc (.cells #[.int .i64 r.kind, .int .u16 r.flag, .bool r.cross, .string (Wd.str r.strip), .string (Wd.str r.add), .string (Wd.str r.cond), .slice ao m c] 79)).setCell ⟨rb, 2, none⟩ (.int .i64 (r.line : Nat))).cell? ⟨wr.heap.size, 6, none⟩ = some (.slice ao m c) := by
    rw [World.cell?_setCell_far _ _ _ _ hrb2]
    exact q67
   have HRR := hide hr
   clear HR hA hK hF hfn hcu q hcl hbd hv hr hjr e2 hrl
   cases hb : badR R.file r with
   | false =>
    have hb2 : (!(r.next.all (goesOn R.file))) = false := hb
    rw [hb] at HNT
    have HCF2 : Hid (∀ o, Calls Tryz.prog 84 #[.slice ao m c, .func (.func 85) #[ptr rb] #[]] ((wr.setCell ⟨rb, 2, none⟩ (.int .i64 (r.line : Nat))).alloc o) fun e w' => e = .returned (.bool false) ∧ Below ((wr.setCell ⟨rb, 2, none⟩ (.int .i64 (r.line : Nat))).alloc o).heap.size ((wr.setCell ⟨rb, 2, none⟩ (.int .i64 (r.line : Nat))).alloc o) w') := fun o => by
     have := unhide HCF o
     rw [hb2] at this
     exact this
    clear HCF hb hb2
    go_wp2_with (first | (go_at_call 84; refine (unhide HCF2 _).mono ?_; rintro e w2 ⟨rfl, b2⟩; have HB2 := hide b2; clear b2) | (go_at_call 82; refine (leaveIf_f _ _ _ _ rfl).mono ?_; rintro e w3 ⟨rfl, hw3⟩; subst w3))
    go_roundw
    case rel => exact ⟨j + 1, by go_num, by omega, ⟨r.line, (unhide HKW _).1.below (unhide HB2), (unhide HKW _).2.1.trans (Kt.of_below (unhide HB2) (unhide HKW _).1.base), unhide HNT⟩⟩
    case measure => simp [intOf]; omega
   | true =>
    have hb2 : (!(r.next.all (goesOn R.file))) = true := hb
    rw [hb] at HNT
    have HCF2 : Hid (∀ o, Calls Tryz.prog 84 #[.slice ao m c, .func (.func 85) #[ptr rb] #[]] ((wr.setCell ⟨rb, 2, none⟩ (.int .i64 (r.line : Nat))).alloc o) fun e w' => e = .returned (.bool true) ∧ Below ((wr.setCell ⟨rb, 2, none⟩ (.int .i64 (r.line : Nat))).alloc o).heap.size ((wr.setCell ⟨rb, 2, none⟩ (.int .i64 (r.line : Nat))).alloc o) w') := fun o => by
     have := unhide HCF o
     rw [hb2] at this
     exact this
    have HNN : Hid (nexts R.file = some r.line) := by
     have e := unhide HNT
     rw [if_pos rfl] at e
     rw [Hid, unhide HNX]
     have : R.file.rules.find? (badR R.file) = some r := by
      rw [← List.take_append_drop (j + 1) R.file.rules, List.find?_append, e]
      rfl
     rw [this]
     rfl
    clear HCF hb hb2
    go_wp2_with (first | (go_at_call 84; refine (unhide HCF2 _).mono ?_; rintro e w2 ⟨rfl, b2⟩; have HB2 := hide b2; have HV := hide (leaveIf_no rb r.line 118 w2 (by decide) (by decide) ((unhide HKW _).1.below b2).cells.2.2.1); clear b2) | (go_at_call 82; refine (unhide HV).mono ?_; rintro e w3 ⟨rfl, hw3⟩; subst w3))
    refine ⟨rfl, (unhide HKW _).2.1.trans (Kt.of_below (unhide HB2) (unhide HKW _).1.base), ?_⟩
    rw [unhide HNN]
  ·obtain rfl : j = n := by omega
   have hltz : ¬ (j : Int) < (j : Int) := by omega
   obtain ⟨lj, hA, hK, hF⟩ := unhide HR
   have HA := hide hA
   have HK := hide hK
   have HNN : Hid (nexts R.file = none) := by
    rw [Hid, unhide HNX]
    rw [List.take_of_length_le (Nat.le_of_eq (unhide HN))] at hF
    rw [hF]
    rfl
   clear HR hA hK hF
   go_wp2
   go_end0
   refine ⟨unhide HK, ?_⟩
   rw [unhide HNN]
   exact ⟨rfl, lj, unhide HA⟩
theorem fault3 {w : World} {b : Nat} {a0 a1 a2 : Value} (h : w.heap[b]? = some (.cells #[a0, a1, a2] 31 (0, 0))) : w.cell? ⟨b, 0, none⟩ = some a0 ∧ w.cell? ⟨b, 1, none⟩ = some a1 ∧ w.cell? ⟨b, 2, none⟩ = some a2 ∧ ∀ k, w.frozen? ⟨b, k, none⟩ = false := by
 refine ⟨?_, ?_, ?_, fun k => ?_⟩ <;> simp [World.cell?, World.frozen?, h]
def fwr (w : World) (b : Nat) (e : Er) : World := ((w.setCell ⟨b, 0, none⟩ (.int .i64 1)).setCell ⟨b, 1, none⟩ (.int .i64 (e.1 : Nat))).setCell ⟨b, 2, none⟩ (.int .i64 (e.2 : Nat))
theorem assert_fault (v : Value) (W : World) : (Instr.typeAssert (.iface 31 v) 20 31 true).run Tryz.prog W = .ok (.tuple #[v, .bool true]) W := by kernel_rfl
theorem catch_panicking (b : Nat) (er : Er) (older : List PanicEntry) (a0 a1 a2 : Value) (w : World) (hb : w.heap[b]? = some (.cells #[a0, a1, a2] 31 (0, 0))) :
  CallsD Tryz.prog 56 #[.pointer (some ⟨b, 0, none⟩)] (.panicking (chn er ++ older)) w fun e u' w' =>
   e = .returned (.tuple #[]) ∧ u' = .panicking ({ v := .iface 31 (.agg #[.int .i64 1, .int .i64 (er.1 : Nat), .int .i64 (er.2 : Nat)]), recovered := true } :: older) ∧ ∃ o, w' = (fwr w b er).alloc o := by
 obtain ⟨c0, c1, c2, cz⟩ := fault3 hb
 have hlt := lt_some hb
 refine callsD_of_wpS Tryz.func56 rfl fun c₀ cs hu => ?_
 apply wpS_seq
 apply wpS_region
 simp [wpOpsS, go_sem, recoverD, hu, chn, Tryz.ntmps56, Exit.thenS]
 refine wpS_of_wp ?_
 show Code.wp _ _ _ ⟨#[.pointer (some ⟨b, 0, none⟩), undef, undef, undef, .iface 31 (.agg #[.int .i64 1, .int .i64 (er.1 : Nat), .int .i64 (er.2 : Nat)]), undef, undef, undef, undef, undef, undef], []⟩ w
 clear hu
 have hta := assert_fault (.agg #[.int .i64 1, .int .i64 (er.1 : Nat), .int .i64 (er.2 : Nat)])
 go_wp2
 refine ⟨rfl, _, rfl, .tuple #[], ?_, rfl, rfl, _, rfl⟩
 simp [results, Tryz.results56]
theorem catch_idle (b : Nat) (w : World) :
  CallsD Tryz.prog 56 #[.pointer (some ⟨b, 0, none⟩)] .returning w fun e u' w' => e = .returned (.tuple #[]) ∧ u' = .returning ∧ w' = w := by
 refine callsD_of_wpS Tryz.func56 rfl fun c₀ cs hu => ?_
 apply wpS_seq
 apply wpS_region
 simp [wpOpsS, go_sem, recoverD, hu, Tryz.ntmps56, Exit.thenS]
 refine wpS_of_wp ?_
 show Code.wp _ _ _ ⟨#[.pointer (some ⟨b, 0, none⟩), undef, undef, undef, .nilIface, undef, undef, undef, undef, undef, undef], []⟩ w
 go_wp2
 refine ⟨rfl, _, rfl, .tuple #[], ?_, rfl, ?_, rfl⟩
 ·simp [results, Tryz.results56]
 ·exact hu
theorem fwr_heap {w : World} {b : Nat} {a0 a1 a2 : Value} (er : Er) (h : w.heap[b]? = some (.cells #[a0, a1, a2] 31 (0, 0))) : (fwr w b er).heap[b]? = some (.cells #[.int .i64 1, .int .i64 (er.1 : Nat), .int .i64 (er.2 : Nat)] 31 (0, 0)) := by
 have := set_heap1 (k := 2) (set_heap1 (k := 1) (set_heap1 (k := 0) h (.int .i64 1)) (.int .i64 (er.1 : Nat))) (.int .i64 (er.2 : Nat))
 simpa [fwr] using this
theorem fwr_below (B : Nat) (w : World) (b : Nat) (er : Er) (h : B ≤ b) : Below B w (fwr w b er) := (((Below.refl B w).setCell (p := ⟨b, 0, none⟩) h _).setCell (p := ⟨b, 1, none⟩) h _).setCell (p := ⟨b, 2, none⟩) h _
theorem heads_nil {m : Nat} {R : Rdr} (h : R.rows = []) : heads m R = .ok R := by
 cases m with
 | zero => rfl
 | succ m => simp [heads, h]
theorem heads_err {m l : Nat} {R : Rdr} {hd : List Bs} {t : List (Nat × List Bs)} {e : Er} (h : R.rows = (l, hd) :: t) (hm : R.rows.length ≤ m) (he : heading { R with rows := t } l hd = .error e) : heads m R = .error e := by
 cases m with
 | zero => rw [h] at hm; simp at hm
 | succ m => simp [heads, h, he]
theorem heads_ok {m l : Nat} {R R' : Rdr} {hd : List Bs} {t : List (Nat × List Bs)} (h : R.rows = (l, hd) :: t) (hm : R.rows.length ≤ m) (he : heading { R with rows := t } l hd = .ok R') : ∃ m', m = m' + 1 ∧ t.length ≤ m' ∧ heads m R = heads m' R' := by
 cases m with
 | zero => rw [h] at hm; simp at hm
 | succ m => exact ⟨m, rfl, by rw [h] at hm; simp at hm; exact hm, by simp [heads, h, he]⟩
theorem start_inv {l : Bs} (h : l.length ≤ 65536) : Inv (start l) ∧ Nb (start l).file ∧ Nl (start l) := by
 refine ⟨⟨by simp [start], ?_, fun _ => rfl, fun _ => rfl⟩, ⟨fun r hr => by simp [start] at hr, fun a ha => by simp [start] at ha⟩, ⟨rows_ok l h, fun r hr => by simp [start] at hr⟩⟩
 have := rows_few l
 simp only [start, List.length_nil]
 omega
theorem cut_start (l : Bs) : cutR Rdr0 l = start l := rfl
structure HS (B rb vb tb : Nat) (w0 W : World) (P0 : Pts) (l : Bs) (R : Rdr) : Prop where
 at_ : ∃ P, RAt B W rb R P ∧ P.fb = P0.fb ∧ P.pm = P0.pm ∧ P.hm = P0.hm
 var : W.heap[vb]? = some (.cells #[.int .i64 0, .int .i64 0, .int .i64 0] 31 (0, 0))
 tab : tb ≠ P0.pm ∧ tb ≠ P0.hm ∧ ∃ nt, MapF W 9 tb nt (kwF kwL13)
 kt : Kt B P0.pm P0.hm w0 W
 hds : ∃ m, heads (Rw.rowsOf l).length (start l) = heads m R ∧ R.rows.length ≤ m
 inv : Inv R ∧ Nb R.file ∧ Nl R
def rlen (rb : Nat) (w : World) : Nat := match w.cell? ⟨rb, 1, none⟩ with
 | some (.slice _ n _) => n
 | _ => 0
theorem rlen_at {B rb : Nat} {W : World} {R : Rdr} {P : Pts} (h : RAt B W rb R P) : rlen rb W = R.rows.length := by
 obtain ⟨ao, cap, e, -⟩ := h.rows
 unfold rlen
 rw [h.cells.2.1, e]
def zF : Value := .agg #[.int .i64 0, .int .i64 0, .int .i64 0]
def RdRes (B rb : Nat) (P : Pts) (w : World) (X : Except Er Fil) (e : Ending) (w' : World) : Prop :=
 Kt B P.pm P.hm w w' ∧ match X with
 | .ok F => e = .returned zF ∧ ∃ R' P', RAt B w' rb R' P' ∧ R'.file = F ∧ P'.fb = P.fb
 | .error er => e = .returned (.agg #[.int .i64 1, .int .i64 (er.1 : Nat), .int .i64 (er.2 : Nat)])
abbrev dfr (vb : Nat) : List Deferred := [{ target := Target.fn (Fn.func 56) #[.pointer (some ⟨vb, 0, none⟩)], args := #[] }]
theorem res_cell {tm : Array Value} {vb : Nat} {W : World} {a0 a1 a2 : Value} (h4 : tm[4]? = some (.pointer (some ⟨vb, 0, none⟩))) (hv : W.heap[vb]? = some (.cells #[a0, a1, a2] 31 (0, 0))) : (results Tryz.f34 tm).run Tryz.prog W = .ok (.agg #[a0, a1, a2]) W := by
 obtain ⟨c0, c1, c2, cz⟩ := fault3 hv
 have h4' : tm.getD 4 undef = .pointer (some ⟨vb, 0, none⟩) := by
  rw [Array.getD_eq_getD_getElem?, h4]
  rfl
 simp [results, Tryz.results34, go_sem, h4, c0, c1, c2]
theorem door_no {Q : Ending → World → Prop} {tm : Array Value} {vb : Nat} {W : World} {er : Er} {a0 a1 a2 : Value} (h4 : tm[4]? = some (.pointer (some ⟨vb, 0, none⟩))) (hv : W.heap[vb]? = some (.cells #[a0, a1, a2] 31 (0, 0)))
  (k : ∀ o, Q (.returned (.agg #[.int .i64 1, .int .i64 (er.1 : Nat), .int .i64 (er.2 : Nat)])) ((fwr W vb er).alloc o)) : bodyPostD Tryz.prog Tryz.f34 Q (Exit.panic (chn er)) ⟨tm, dfr vb⟩ W := by
 refine leaves_cons (f := 56) (args := #[.pointer (some ⟨vb, 0, none⟩)]) (by simp) (by simp [go_sem]) ?_
 refine (catch_panicking vb er [] a0 a1 a2 W hv).mono ?_
 rintro e u' w'' ⟨rfl, rfl, o, rfl⟩
 exact ⟨_, res_cell h4 (alloc_heap1 (fwr_heap er hv) o), k o⟩
theorem door_ok {Q : Ending → World → Prop} {tm : Array Value} {vb : Nat} {W : World} {a0 a1 a2 : Value} (h4 : tm[4]? = some (.pointer (some ⟨vb, 0, none⟩))) (hv : W.heap[vb]? = some (.cells #[a0, a1, a2] 31 (0, 0)))
  (k : Q (.returned (.agg #[a0, a1, a2])) W) : bodyPostD Tryz.prog Tryz.f34 Q Exit.ret ⟨tm, dfr vb⟩ W := by
 refine leaves_cons (f := 56) (args := #[.pointer (some ⟨vb, 0, none⟩)]) (by simp) (by simp [go_sem]) ?_
 refine (catch_idle vb W).mono ?_
 rintro e u' w'' ⟨rfl, rfl, rfl⟩
 exact ⟨_, res_cell h4 hv, k⟩
theorem fwr_keep {W : World} {vb : Nat} (er : Er) {b : Nat} (h : b ≠ vb) : (fwr W vb er).heap[b]? = W.heap[b]? := by
 unfold fwr
 rw [Below.heap_setCell _ _ _ _ h, Below.heap_setCell _ _ _ _ h, Below.heap_setCell _ _ _ _ h]
theorem fwr_size (W : World) (vb : Nat) (er : Er) : (fwr W vb er).heap.size = W.heap.size := by simp [fwr, World.setCell]
theorem Kt.fwr {B pm hm vb : Nat} {w W : World} (k : Kt B pm hm w W) (er : Er) (hv : w.heap.size ≤ vb) (hB : B ≤ w.heap.size) (o : Obj) : Kt B pm hm w ((Af.fwr W vb er).alloc o) := by
 have hs := k.low.size
 have key : ∀ g, g < w.heap.size → g < W.heap.size → ((Af.fwr W vb er).alloc o).heap[g]? = W.heap[g]? := fun g hg hg2 => by
  rw [Below.heap_alloc _ o g (by rw [fwr_size]; exact hg2)]
  exact fwr_keep er (by omega)
 refine ⟨(k.low.trans (fwr_below B W vb er (by omega))).alloc (by rw [fwr_size]; omega) o, fun g cur t fz e n => ?_, fun g es c e n1 n2 => ?_⟩
 ·have e2 := k.cells g cur t fz e n
  exact (key g (lt_some e) (lt_some (e2.trans e))).trans e2
 ·have e2 := k.maps g es c e n1 n2
  exact (key g (lt_some e) (lt_some (e2.trans e))).trans e2
theorem Kt.newset {B pm hm vb : Nat} {w W W' : World} (k : Kt B pm hm w W) (hk : Kp vb W W') (hl : Below B W W') (hv : w.heap.size ≤ vb) : Kt B pm hm w W' := by
 have key : ∀ g, g < w.heap.size → g < W.heap.size → W'.heap[g]? = W.heap[g]? := fun g hg hg2 => hk.2 g hg2 (by omega)
 refine ⟨k.low.trans hl, fun g cur t fz e n => ?_, fun g es c e n1 n2 => ?_⟩
 ·have e2 := k.cells g cur t fz e n
  exact (key g (lt_some e) (lt_some (e2.trans e))).trans e2
 ·have e2 := k.maps g es c e n1 n2
  exact (key g (lt_some e) (lt_some (e2.trans e))).trans e2
theorem RAt.other {B rb : Nat} {R : Rdr} {P : Pts} {W W' : World} (h : RAt B W rb R P) (k : Kq [31] noM W W') : RAt B W' rb R P := by
 have hf : FAt B W' R.file P := h.file.kq k rfl rfl ((k.cells _ _ _ _ h.file.fil (by decide)).trans h.file.fil) (.inr ⟨rfl, fun x => x⟩) (.inr ⟨rfl, rfl, by decide⟩) (.inr ⟨rfl, rfl, rfl, by decide⟩) (.inr ⟨rfl, rfl, by decide⟩) (.inr ⟨rfl, rfl, rfl, by decide⟩) (by decide) h.file.ok
 exact h.kq k hf rfl rfl rfl ((k.cells _ _ _ _ h.rdr (by decide)).trans h.rdr) (own_kq h.lns k (by decide)) rfl rfl rfl rfl (by decide) (by decide) (fun x => x)
def affEnd : Except Er Rdr → Except Er Fil
 | .error e => .error e
 | .ok R => match nexts R.file with
  | some k => .error (k, 118)
  | none => .ok R.file
theorem affR_short {l : Bs} (h : ¬ 65536 < l.length) : affR l = affEnd (heads (Rw.rowsOf l).length (start l)) := by
 unfold affR
 rw [if_neg h]
 cases heads (Rw.rowsOf l).length (start l) with
 | error e => rfl
 | ok R =>
  unfold affEnd
  simp only
  cases nexts R.file <;> rfl
theorem affEnd_n {R : Rdr} {k : Nat} (h : nexts R.file = some k) : affEnd (.ok R) = .error (k, 118) := by simp [affEnd, h]
theorem affEnd_ok {R : Rdr} (h : nexts R.file = none) : affEnd (.ok R) = .ok R.file := by simp [affEnd, h]
def zwr (W : World) (vb : Nat) : World := ((W.setCell ⟨vb, 0, none⟩ (.int .i64 0)).setCell ⟨vb, 1, none⟩ (.int .i64 0)).setCell ⟨vb, 2, none⟩ (.int .i64 0)
theorem zwr_facts {B vb : Nat} {W : World} {a0 a1 a2 : Value} (hv : W.heap[vb]? = some (.cells #[a0, a1, a2] 31 (0, 0))) (hB : B ≤ vb) : (zwr W vb).heap[vb]? = some (.cells #[.int .i64 0, .int .i64 0, .int .i64 0] 31 (0, 0)) ∧ Kp vb W (zwr W vb) ∧ Below B W (zwr W vb) := by
 refine ⟨?_, kp_trans (kp_trans (kp_set _ _ _ _) (kp_set _ _ _ _)) (kp_set _ _ _ _), (((Below.refl B W).setCell (p := ⟨vb, 0, none⟩) hB _).setCell (p := ⟨vb, 1, none⟩) hB _).setCell (p := ⟨vb, 2, none⟩) hB _⟩
 have := set_heap1 (k := 2) (set_heap1 (k := 1) (set_heap1 (k := 0) hv (.int .i64 0)) (.int .i64 0)) (.int .i64 0)
 simpa [zwr] using this
theorem RdRes.no {B rb : Nat} {P : Pts} {w w' : World} {X : Except Er Fil} {er : Er} (hX : X = .error er) (k : Kt B P.pm P.hm w w') : RdRes B rb P w X (.returned (.agg #[.int .i64 1, .int .i64 (er.1 : Nat), .int .i64 (er.2 : Nat)])) w' := by
 subst hX
 exact ⟨k, rfl⟩
theorem RdRes.yes {B rb : Nat} {P P' : Pts} {w w' : World} {X : Except Er Fil} {R' : Rdr} {F : Fil} (hX : X = .ok F) (k : Kt B P.pm P.hm w w') (h : RAt B w' rb R' P') (hF : R'.file = F) (e : P'.fb = P.fb) : RdRes B rb P w X (.returned zF) w' := by
 subst hX
 exact ⟨k, rfl, R', P', h, hF, e⟩
theorem read_any {B rb : Nat} {P : Pts} {w : World} (h : RAt B w rb Rdr0 P) (hM : Mx B w) (s : ByteArray) :
  Calls Tryz.prog 34 #[ptr rb, .string s] w (RdRes B rb P w (affR s.data.toList)) := by
 have hmf : ∀ (fn : Fn) (first cap : Array Value) (w : World), (Instr.makeFunc fn first cap).run Tryz.prog w = .ok (.func fn first cap) w := fun _ _ _ _ => rfl
 have b1 := (Below.refl w.heap.size w).alloc (Nat.le_refl _) (.cells #[.int .i64 0, .int .i64 0, .int .i64 0] 31)
 have hC := cut_any (h.below b1) (hM.low (b1.mono h.base)) s
 have HV := hide (alloc_new w (.cells #[.int .i64 0, .int .i64 0, .int .i64 0] 31))
 have HB1 := hide b1
 have HH := hide h
 have HM := hide hM
 by_cases hq : 65536 < s.data.toList.length
 ·have HX : Hid (affR s.data.toList = .error (0, 10)) := by rw [Hid, affR, if_pos hq]
  rw [if_pos hq] at hC
  have HC := hide (callNo hC rfl)
  clear hC hq b1 h hM
  go_enter_defers Tryz.func34, Tryz.ntmps34
  go_wp2_with (go_at_call 57; refine (unhide HC).mono ?_; rintro e w2 ⟨rfl, kt2⟩)
  have hv2 := (kt2.cells _ _ _ _ (unhide HV) (by decide)).trans (unhide HV)
  refine door_no rfl hv2 fun o => ?_
  exact RdRes.no (unhide HX) (((Kt.of_below (unhide HB1) (unhide HH).base).trans kt2).fwr _ (Nat.le_refl _) (unhide HH).base o)
 ·rw [if_neg hq, cut_start] at hC
  have HX := hide (affR_short hq)
  have HC := hide (callOk hC rfl)
  have HI := hide (start_inv (l := s.data.toList) (by omega))
  clear hC hq b1 h hM
  obtain ⟨vb, hvb⟩ : ∃ vb, w.heap.size = vb := ⟨_, rfl⟩
  have HVB := hide hvb
  go_enter_defers Tryz.func34, Tryz.ntmps34
  go_wp2_with (first | (go_at_call 57; refine (unhide HC).mono ?_; rintro e w2 ⟨rfl, kt2, P2, hR2, e1, e2, e3⟩) | (go_at_call 58; refine (keywords_any w2).mono ?_; rintro e w3 ⟨rfl, hm3, b3⟩))
  have HS0 : Hid (∃ R, HS B rb vb w2.heap.size w w3 P s.data.toList R) := by
   obtain ⟨nt, hm3⟩ := hm3
   have hv2 := (kt2.cells _ _ _ _ (unhide HV) (by decide)).trans (unhide HV)
   rw [unhide HVB] at hv2
   have ka : Kt B P.pm P.hm w w2 := (Kt.of_below (unhide HB1) (unhide HH).base).trans kt2
   have hpm : P2.pm < w2.heap.size := by obtain ⟨_, _, hm⟩ := hR2.file.plc; exact hm.lt
   have hhm : P2.hm < w2.heap.size := by obtain ⟨_, _, hm⟩ := hR2.hds; exact hm.lt
   exact ⟨_, ⟨⟨P2, hR2.below b3, e1, e2, e3⟩, (below_kept b3 _ _ hv2).trans hv2, ⟨by omega, by omega, nt, hm3⟩, ka.trans (Kt.of_below b3 hR2.base), ⟨_, rfl, Nat.le_refl _⟩, unhide HI⟩⟩
  clear hm3 b3 hR2 e1 e2 e3 kt2 HI HC
  go_loopw [14] (fun _ wr => Hid (∃ R, HS B rb vb w2.heap.size w wr P s.data.toList R)) (fun _ wr => rlen rb wr)
  case atStart => exact unhide HS0
  case round =>
   obtain ⟨R, hS⟩ := unhide hrel
   obtain ⟨P', hR, e1, e2, e3⟩ := hS.at_
   obtain ⟨ao, cap, er, -, -, -, -⟩ := hR.rows
   obtain ⟨-, d1, -, -, -, -, -⟩ := hR.cells
   rw [er] at d1
   have HSS := hide hS
   have HR := hide hR
   have HE := hide (And.intro e1 (And.intro e2 e3))
   cases hrows : R.rows with
   | nil =>
    rw [hrows] at d1
    have HHD : Hid (heads (Rw.rowsOf s.data.toList).length (start s.data.toList) = .ok R) := by
     obtain ⟨m, h1, -⟩ := hS.hds
     exact h1.trans (heads_nil hrows)
    have hCN := checkNexts_any hR hS.inv.2.1 hS.inv.2.2.ln
    have HCN := hide hCN
    clear hS hR e1 e2 e3 er hrows hrel HS0 hCN
    cases hnx : nexts R.file with
    | none =>
     have HX2 := hide ((unhide HX).trans ((congrArg affEnd (unhide HHD)).trans (affEnd_ok hnx)))
     have HC2 : Hid (Calls Tryz.prog 60 #[ptr rb] wr fun e w' => e = .returned (.tuple #[]) ∧ Kt B P'.pm P'.hm wr w' ∧ ∃ l, RAt B w' rb { R with line := l } P') := by
      refine (unhide HCN).mono ?_
      rintro e w' ⟨k, q⟩
      rw [hnx] at q
      exact ⟨q.1, k, q.2⟩
     clear HCN hnx
     go_wp2_with (go_at_call 60; refine (unhide HC2).mono ?_; rintro e w5 ⟨rfl, kt5, l5, hR5⟩; have hv5 := (kt5.cells _ _ _ _ (unhide HSS).var (by decide)).trans (unhide HSS).var; have HV5 := hide hv5; have HK5 := hide kt5; have HR5 := hide hR5; obtain ⟨v0, v1, v2, vz⟩ := fault3 hv5; have hvl := lt_some hv5; clear kt5 hR5 hv5)
     have hBv : B ≤ vb := by rw [← unhide HVB]; exact (unhide HH).base
     obtain ⟨z1, z2, z3⟩ := zwr_facts (unhide HV5) hBv
     refine door_ok rfl z1 ?_
     refine RdRes.yes (unhide HX2) ?_ ((unhide HR5).other (Kq.kp z2 (unhide HV5) (by simp))) rfl (unhide HE).1
     refine Kt.newset ((unhide HSS).kt.trans ?_) z2 z3 (by rw [unhide HVB]; exact Nat.le_refl _)
     rw [← (unhide HE).2.1, ← (unhide HE).2.2]
     exact unhide HK5
    | some k =>
     have HX2 := hide ((unhide HX).trans ((congrArg affEnd (unhide HHD)).trans (affEnd_n hnx)))
     have HC2 : Hid (Calls Tryz.prog 60 #[ptr rb] wr fun e w' => e = .panicked (chn (k, 118)) ∧ Kt B P'.pm P'.hm wr w') := by
      refine (unhide HCN).mono ?_
      rintro e w' ⟨kt, q⟩
      rw [hnx] at q
      exact ⟨q, kt⟩
     clear HCN hnx
     go_wp2_with (go_at_call 60; refine (unhide HC2).mono ?_; rintro e w5 ⟨rfl, kt5⟩)
     have hv5 := (kt5.cells _ _ _ _ (unhide HSS).var (by decide)).trans (unhide HSS).var
     rw [(unhide HE).2.1, (unhide HE).2.2] at kt5
     refine door_no rfl hv5 fun o => ?_
     exact RdRes.no (unhide HX2) (((unhide HSS).kt.trans kt5).fwr _ (by rw [unhide HVB]; exact Nat.le_refl _) (unhide HH).base o)
   | cons p t =>
    obtain ⟨l, hd⟩ := p
    rw [hrows] at d1
    have hlen : (0 : Int) < ((t.length + 1 : Nat) : Int) := by omega
    obtain ⟨ht1, ht2, nt, hT⟩ := hS.tab
    have hRH := readHeading_any hR ((unhide HM).low hS.kt.low) hrows hT hS.inv.1
    obtain ⟨m, hm1, hm2⟩ := hS.hds
    have hv := hS.var
    have HVR := hide hv
    cases hhd : heading { R with rows := t } l hd with
    | error e0 =>
     have HX2 := hide ((unhide HX).trans (congrArg affEnd (hm1.trans (heads_err hrows hm2 hhd))))
     have HC2 := hide (callNo hRH hhd)
     clear hS hR e1 e2 e3 er hrows hrel HS0 hRH hT hm1 hm2 hhd hv
     go_wp2_with (go_at_call 59; refine (unhide HC2).mono ?_; rintro e w5 ⟨rfl, kt5⟩)
     have hv5 := (kt5.cells _ _ _ _ (unhide HVR) (by decide)).trans (unhide HVR)
     rw [(unhide HE).2.1, (unhide HE).2.2] at kt5
     refine door_no rfl hv5 fun o => ?_
     exact RdRes.no (unhide HX2) (((unhide HSS).kt.trans kt5).fwr _ (by rw [unhide HVB]; exact Nat.le_refl _) (unhide HH).base o)
    | ok R1 =>
     have HC2 := hide (callOk hRH hhd)
     obtain ⟨m', rfl, hm3, hm4⟩ := heads_ok hrows hm2 hhd
     have hin := heading_inv hS.inv.1 hrows hhd
     have HIN := hide hin
     have HNB1 := hide (heading_nb hhd hS.inv.2.1)
     have HNL1 := hide (heading_nl hhd ⟨fun p hp => hS.inv.2.2.ok p (by rw [hrows]; exact List.mem_cons_of_mem _ hp), hS.inv.2.2.ln⟩)
     have HHS := hide (hm1.trans hm4)
     have HM3 := hide hm3
     have HRL : Hid (rlen rb wr = t.length + 1) := by rw [Hid, rlen_at hR, hrows]; rfl
     have HTT := hide hT
     have HTN := hide (And.intro ht1 ht2)
     clear hS hR e1 e2 e3 er hrows hrel HS0 hRH hT hm1 hm2 hhd hv hin hm3 hm4 ht1 ht2
     go_wp2_with (go_at_call 59; refine (unhide HC2).mono ?_; rintro e w5 ⟨rfl, kt5, P5, hR5, f1, f2, f3⟩; have HK5 := hide kt5; have HR5 := hide hR5; have HE5 := hide (And.intro f1 (And.intro f2 f3)); clear kt5 hR5 f1 f2 f3)
     go_roundw
     case rel =>
      have kt5 := unhide HK5
      have hv5 := (kt5.cells _ _ _ _ (unhide HVR) (by decide)).trans (unhide HVR)
      rw [(unhide HE).2.1, (unhide HE).2.2] at kt5
      refine ⟨R1, ⟨P5, unhide HR5, (unhide HE5).1.trans (unhide HE).1, (unhide HE5).2.1.trans (unhide HE).2.1, (unhide HE5).2.2.trans (unhide HE).2.2⟩, hv5, ⟨(unhide HTN).1, (unhide HTN).2, nt, ?_⟩, (unhide HSS).kt.trans kt5, ⟨m', unhide HHS, Nat.le_trans (unhide HIN).2 (unhide HM3)⟩, (unhide HIN).1, unhide HNB1, unhide HNL1⟩
      obtain ⟨es, c, ee⟩ := (unhide HTT).isMap
      exact (unhide HTT).kept (kt5.maps _ _ _ ee (unhide HTN).1 (unhide HTN).2)
     case measure =>
      have := (unhide HIN).2
      rw [rlen_at (unhide HR5), unhide HRL]
      omega
def FRes (w : World) (X : Except Er Fil) (e : Ending) (w' : World) : Prop :=
 Below w.heap.size w w' ∧ match X with
 | .ok F => ∃ B P, w.heap.size ≤ B ∧ e = .returned (.tuple #[.pointer (some ⟨P.fb, 0, none⟩), zF]) ∧ FAt B w' F P
 | .error er => e = .returned (.tuple #[.pointer none, .agg #[.int .i64 1, .int .i64 (er.1 : Nat), .int .i64 (er.2 : Nat)]])
theorem FRes.no {w w' : World} {X : Except Er Fil} {er : Er} (hX : X = .error er) (k : Below w.heap.size w w') : FRes w X (.returned (.tuple #[.pointer none, .agg #[.int .i64 1, .int .i64 (er.1 : Nat), .int .i64 (er.2 : Nat)]])) w' := by
 subst hX
 exact ⟨k, rfl⟩
theorem FRes.yes {w w' : World} {X : Except Er Fil} {F : Fil} {B : Nat} {P : Pts} (hX : X = .ok F) (k : Below w.heap.size w w') (hB : w.heap.size ≤ B) (h : FAt B w' F P) : FRes w X (.returned (.tuple #[.pointer (some ⟨P.fb, 0, none⟩), .agg #[.int .i64 0, .int .i64 0, .int .i64 0]])) w' := by
 subst hX
 exact ⟨k, B, P, hB, rfl, h⟩
theorem Read_any (s : ByteArray) (w : World) (hM : Mx w.heap.size w) : Calls Tryz.prog 12 #[.string s] w (FRes w (affR s.data.toList)) := by
 have b1 := (Below.refl w.heap.size w).alloc (Nat.le_refl _) (.cells #[.int .i64 0, .int .i64 0, .int .i64 0] 31)
 have HB1 := hide b1
 have HV := hide (alloc_new w (.cells #[.int .i64 0, .int .i64 0, .int .i64 0] 31))
 have HN : Hid (Calls Tryz.prog 33 #[] (w.alloc (.cells #[.int .i64 0, .int .i64 0, .int .i64 0] 31)) fun e w' => ∃ B rb P, e = .returned (ptr rb) ∧ RAt B w' rb Rdr0 P ∧ w.heap.size < B ∧ Below B (w.alloc (.cells #[.int .i64 0, .int .i64 0, .int .i64 0] 31)) w') := by
  refine (newReader_any _).mono ?_
  rintro e w' ⟨rfl, r, b⟩
  exact ⟨_, _, _, rfl, r, by simp, b⟩
 have HM : Hid (∀ (B : Nat) w2, w.heap.size < B → Below B (w.alloc (.cells #[.int .i64 0, .int .i64 0, .int .i64 0] 31)) w2 → Mx B w2 ∧ Below w.heap.size w w2 ∧ w2.heap[w.heap.size]? = some (.cells #[.int .i64 0, .int .i64 0, .int .i64 0] 31 (0, 0))) := by
  intro B w2 hB b2
  have b3 : Below w.heap.size w w2 := b1.trans (b2.mono (Nat.le_of_lt hB))
  obtain ⟨m1, m2⟩ := hM.low b3
  exact ⟨⟨by omega, m2⟩, b3, (b2.block _ hB).trans (unhide HV)⟩
 clear b1 hM
 cases hx : affR s.data.toList with
 | error er =>
  have HX := hide hx
  clear hx
  go_enter Tryz.func12, Tryz.ntmps12
  go_wp2_with (go_at_call 33; refine (unhide HN).mono ?_; rintro e w2 ⟨B, rb, P, rfl, r2, hB, b2⟩; have HR2 := hide r2; have HB2 := hide b2; have HBB := hide hB; clear r2 b2 hB)
  refine (read_any (unhide HR2) (unhide HM _ _ (unhide HBB) (unhide HB2)).1 s).mono ?_
  rintro e w3 ⟨kt, q⟩
  rw [unhide HX] at q
  simp only at q
  subst q
  have hv3 := (kt.low.block _ (unhide HBB)).trans (unhide HM _ _ (unhide HBB) (unhide HB2)).2.2
  have HB3 := hide ((unhide HM _ _ (unhide HBB) (unhide HB2)).2.1.trans (kt.low.mono (Nat.le_of_lt (unhide HBB))))
  obtain ⟨v0, v1, v2, vz⟩ := fault3 hv3
  have hvl := lt_some hv3
  have HV3 := hide hv3
  clear kt hv3
  go_wp2
  obtain ⟨n0, n1, n2, -⟩ := fault3 (alloc_new w3 (.cells #[.int .i64 1, .int .i64 (er.1 : Nat), .int .i64 (er.2 : Nat)] 31))
  have H3 := hide (And.intro n0 (And.intro n1 n2))
  have hfw := alloc_heap1 (fwr_heap er (unhide HV3)) (.cells #[.int .i64 1, .int .i64 (er.1 : Nat), .int .i64 (er.2 : Nat)] 31)
  have hfb := (((unhide HB3).trans (fwr_below w.heap.size w3 w.heap.size er (Nat.le_refl _))).alloc (by rw [fwr_size]; exact (unhide HB3).size) (.cells #[.int .i64 1, .int .i64 (er.1 : Nat), .int .i64 (er.2 : Nat)] 31)).drew
  have HF : Hid ((((fwr w3 w.heap.size er).alloc (.cells #[.int .i64 1, .int .i64 (er.1 : Nat), .int .i64 (er.2 : Nat)] 31)).drew).heap[w.heap.size]? = some (.cells #[.int .i64 1, .int .i64 (er.1 : Nat), .int .i64 (er.2 : Nat)] 31 (0, 0)) ∧ Below w.heap.size w (((fwr w3 w.heap.size er).alloc (.cells #[.int .i64 1, .int .i64 (er.1 : Nat), .int .i64 (er.2 : Nat)] 31)).drew)) := ⟨hfw, hfb⟩
  clear n0 n1 n2 hfw hfb
  refine Lst.region_last (ops1 := ?ops1) (o := ?op1) (S := fun w' => w'.cell? ⟨w3.heap.size, 0, none⟩ = some (.int .i64 1) ∧ w'.cell? ⟨w3.heap.size, 1, none⟩ = some (.int .i64 (er.1 : Nat)) ∧ w'.cell? ⟨w3.heap.size, 2, none⟩ = some (.int .i64 (er.2 : Nat))) (by kernel_rfl) ?hp1 ?hb1 ?hk1 (by exact unhide H3) ?hn1
  case hp1 => (simp only [List.pop_toArray, List.dropLast_cons_cons, List.dropLast_singleton]; rfl)
  case hb1 => (simp only [List.back?_toArray, List.getLast?_cons_cons, List.getLast?_singleton]; rfl)
  case hk1 => kernel_rfl
  intro hHeld
  refine Lst.tk 1 ?_
  (try simp only [Act.put, List.setIfInBounds_toArray])
  refine Lst.tk 0 ?_
  (try simp only [Act.put])
  refine wpAnyH_done (by kernel_rfl) ?_ _
  show Oper.wp _ _ _ _ _ _
  go_simp
  rename_i K2 hK2
  apply hK2
  refine gen_world ?_
  intro V hV
  replace HF : Hid (V.heap[w.heap.size]? = some (.cells #[.int .i64 1, .int .i64 (er.1 : Nat), .int .i64 (er.2 : Nat)] 31 (0, 0)) ∧ Below w.heap.size w V) := by rw [hV]; exact HF
  clear hV
  obtain ⟨m0, m1, m2, mz⟩ := fault3 (unhide HF).1
  go_wp2
  refine bodyPost_ret (v := .tuple #[.pointer none, .agg #[.int .i64 1, .int .i64 (er.1 : Nat), .int .i64 (er.2 : Nat)]]) (by simp [results, Tryz.results12, go_sem, m0, m1, m2]) rfl ?_
  exact FRes.no rfl (unhide HF).2
 | ok F =>
  have HX := hide hx
  clear hx
  go_enter Tryz.func12, Tryz.ntmps12
  go_wp2_with (go_at_call 33; refine (unhide HN).mono ?_; rintro e w2 ⟨B, rb, P, rfl, r2, hB, b2⟩; have HR2 := hide r2; have HB2 := hide b2; have HBB := hide hB; clear r2 b2 hB)
  refine (read_any (unhide HR2) (unhide HM _ _ (unhide HBB) (unhide HB2)).1 s).mono ?_
  rintro e w3 ⟨kt, q⟩
  rw [unhide HX] at q
  simp only at q
  obtain ⟨rfl, R', P', hR', hF', hfb⟩ := q
  subst hF'
  have hv3 := (kt.low.block _ (unhide HBB)).trans (unhide HM _ _ (unhide HBB) (unhide HB2)).2.2
  have HB3 := hide ((unhide HM _ _ (unhide HBB) (unhide HB2)).2.1.trans (kt.low.mono (Nat.le_of_lt (unhide HBB))))
  obtain ⟨v0, v1, v2, vz⟩ := fault3 hv3
  obtain ⟨d0, -, -, -, -, -, -⟩ := hR'.cells
  have hvl := lt_some hv3
  have hrb := hR'.lt
  have HV3 := hide hv3
  have HR3 := hide hR'
  have hrbn : Hid (w.heap.size ≠ rb) := by
   have := hR'.rbB
   have := unhide HBB
   intro e
   omega
  clear kt hv3 hR'
  unfold zF
  go_wp2
  obtain ⟨z1, z2, z3⟩ := zwr_facts (B := w.heap.size) (unhide HV3) (Nat.le_refl _)
  have h1 := alloc_heap1 z1 (.cells #[.int .i64 0, .int .i64 0, .int .i64 0] 31)
  have kz : Kq [31] noM w3 (zwr w3 w.heap.size) := Kq.kp z2 (unhide HV3) (by simp)
  have hba : Below (zwr w3 w.heap.size).heap.size (zwr w3 w.heap.size) ((zwr w3 w.heap.size).alloc (.cells #[.int .i64 0, .int .i64 0, .int .i64 0] 31)) := (Below.refl _ _).alloc (Nat.le_refl _) _
  obtain ⟨m0, m1, m2, mz⟩ := fault3 h1
  show bodyPost _ _ _ Exit.ret _ ((zwr w3 w.heap.size).alloc (.cells #[.int .i64 0, .int .i64 0, .int .i64 0] 31))
  refine bodyPost_ret (v := .tuple #[.pointer (some ⟨P.fb, 0, none⟩), .agg #[.int .i64 0, .int .i64 0, .int .i64 0]]) (by simp [results, Tryz.results12, go_sem, m0, m1, m2]) rfl ?_
  have hf := (((unhide HR3).other kz).below hba).file
  rw [← hfb]
  exact FRes.yes rfl (((unhide HB3).trans z3).trans (hba.mono (by rw [show (zwr w3 w.heap.size).heap.size = w3.heap.size by simp [zwr, World.setCell]]; exact (unhide HB3).size))) (Nat.le_of_lt (unhide HBB)) hf
end Af
end Go.Proofs.YtidhbhdcoanfcaaGreatDoor
namespace Go.Proofs
open Go.Shelf
def Tryz.laysCl_rep_ren : Go.Shelf.Ren := ⟨fun | 41 => 37 | n => n, fun | 4 => 4 | 22 => 38 | 23 => 90 | n => n, fun | n => n⟩
theorem Tryz.laysCl_rep : Go.Proofs.SlLaysE0.n41 Tryz.prog Tryz.laysCl_rep_ren := {
 mixed := by kernel_rfl
 f41 := ⟨"slices.Clone[[]hornbook/api.Rep,hornbook/api.Rep]", by decide, Tryz.func37.trans (congrArg some (by kernel_rfl))⟩
 t4 := Tryz.underlying4
 a4 := Tryz.isAgg4
 z4 := Tryz.sizeOf4
 v4 := Tryz.zeroValue4
 t22 := Tryz.underlying38
 a22 := Tryz.isAgg38
 z22 := Tryz.sizeOf38
 v22 := Tryz.zeroValue38 }
def Tryz.laysCl_cls_ren : Go.Shelf.Ren := ⟨fun | 41 => 38 | n => n, fun | 4 => 4 | 22 => 40 | 23 => 94 | n => n, fun | n => n⟩
theorem Tryz.laysCl_cls : Go.Proofs.SlLaysE0.n41 Tryz.prog Tryz.laysCl_cls_ren := {
 mixed := by kernel_rfl
 f41 := ⟨"slices.Clone[[]hornbook/api.Class,hornbook/api.Class]", by decide, Tryz.func38.trans (congrArg some (by kernel_rfl))⟩
 t4 := Tryz.underlying4
 a4 := Tryz.isAgg4
 z4 := Tryz.sizeOf4
 v4 := Tryz.zeroValue4
 t22 := Tryz.underlying40
 a22 := Tryz.isAgg40
 z22 := Tryz.sizeOf40
 v22 := Tryz.zeroValue40 }
def Tryz.laysCl_ali_ren : Go.Shelf.Ren := ⟨fun | 41 => 39 | n => n, fun | 4 => 4 | 22 => 39 | 23 => 54 | n => n, fun | n => n⟩
theorem Tryz.laysCl_ali : Go.Proofs.SlLaysE0.n41 Tryz.prog Tryz.laysCl_ali_ren := {
 mixed := by kernel_rfl
 f41 := ⟨"slices.Clone[[][]hornbook/api.Flag,[]hornbook/api.Flag]", by decide, Tryz.func39.trans (congrArg some (by kernel_rfl))⟩
 t4 := Tryz.underlying4
 a4 := Tryz.isAgg4
 z4 := Tryz.sizeOf4
 v4 := Tryz.zeroValue4
 t22 := Tryz.underlying39
 a22 := Tryz.isAgg39
 z22 := Tryz.sizeOf39
 v22 := Tryz.zeroValue39 }
def Tryz.laysCl_flg_ren : Go.Shelf.Ren := ⟨fun | 41 => 40 | n => n, fun | 4 => 4 | 22 => 54 | 23 => 36 | n => n, fun | n => n⟩
theorem Tryz.laysCl_flg : Go.Proofs.SlLaysE0.n41 Tryz.prog Tryz.laysCl_flg_ren := {
 mixed := by kernel_rfl
 f41 := ⟨"slices.Clone[[]hornbook/api.Flag,hornbook/api.Flag]", by decide, Tryz.func40.trans (congrArg some (by kernel_rfl))⟩
 t4 := Tryz.underlying4
 a4 := Tryz.isAgg4
 z4 := Tryz.sizeOf4
 v4 := Tryz.zeroValue4
 t22 := Tryz.underlying54
 a22 := Tryz.isAgg54
 z22 := Tryz.sizeOf54
 v22 := Tryz.zeroValue54 }
def Tryz.laysCl_rul_ren : Go.Shelf.Ren := ⟨fun | 41 => 41 | n => n, fun | 4 => 4 | 22 => 41 | 23 => 79 | n => n, fun | n => n⟩
theorem Tryz.laysCl_rul : Go.Proofs.SlLaysE0.n41 Tryz.prog Tryz.laysCl_rul_ren := {
 mixed := by kernel_rfl
 f41 := ⟨"slices.Clone[[]hornbook/api.Rule,hornbook/api.Rule]", by decide, Tryz.func41.trans (congrArg some (by kernel_rfl))⟩
 t4 := Tryz.underlying4
 a4 := Tryz.isAgg4
 z4 := Tryz.sizeOf4
 v4 := Tryz.zeroValue4
 t22 := Tryz.underlying41
 a22 := Tryz.isAgg41
 z22 := Tryz.sizeOf41
 v22 := Tryz.zeroValue41 }
end Go.Proofs
namespace Go.Proofs.YtidhbhdcoanfcaaGreatDoor
open Go.RowKit
namespace Af
open RowB
theorem clone_rep {B n : Nat} {w : World} {v : Value} {xs : List Value} (h : w.ownsRow B 90 2 v n xs) (h1 : ∀ u ∈ xs, u.oneCell' = true) (hn : n ≤ 1048577) : Calls Tryz.prog 37 #[v] w fun e w' => ∃ v', e = .returned v' ∧ w'.ownsRow w.heap.size 90 2 v' n xs ∧ Below w.heap.size w w' := by
 obtain ⟨i, hi, hz'⟩ := Option.map_eq_some_iff.1 infoR
 simp only [Prod.mk.injEq] at hz'
 obtain ⟨hz0, hz1, hz2⟩ := hz'
 obtain ⟨hl, ⟨rfl, rfl⟩ | ⟨g, cap, cur, rfl, hg, hh, hc, hm, hs, ht⟩⟩ := h
 ·refine (AnyE.slices_Clone_nil Tryz.laysCl_rep 0 0 w).mono ?_
  rintro e w' ⟨rfl, rfl⟩
  have : xs = [] := by cases xs with | nil => rfl | cons _ _ => simp at hl
  subst this
  exact ⟨_, rfl, World.ownsRow_nil _ _ _ _, Below.refl _ _⟩
 ·refine (AnyE.slices_Clone Tryz.laysCl_rep i _ 2 32 hi hz0 hz1 hz2 rfl (by decide) Tryz.sizeOf90 g 0 n cap xs w hl (by omega) (by omega) (fun j u hj => ?_) h1).mono ?_
  ·have hjl := (List.getElem?_eq_some_iff.1 hj).1
   rw [← ht, List.getElem?_take] at hj
   split at hj
   ·simpa [World.cell?, hh] using hj
   ·cases hj
  ·rintro e w' ⟨v', rfl, o, -, b⟩
   exact ⟨v', rfl, o, b⟩
theorem clone_cls {B n : Nat} {w : World} {v : Value} {xs : List Value} (h : w.ownsRow B 94 5 v n xs) (h1 : ∀ u ∈ xs, u.oneCell' = true) (hn : n ≤ 1048577) : Calls Tryz.prog 38 #[v] w fun e w' => ∃ v', e = .returned v' ∧ w'.ownsRow w.heap.size 94 5 v' n xs ∧ Below w.heap.size w w' := by
 obtain ⟨i, hi, hz'⟩ := Option.map_eq_some_iff.1 infoC
 simp only [Prod.mk.injEq] at hz'
 obtain ⟨hz0, hz1, hz2⟩ := hz'
 obtain ⟨hl, ⟨rfl, rfl⟩ | ⟨g, cap, cur, rfl, hg, hh, hc, hm, hs, ht⟩⟩ := h
 ·refine (AnyE.slices_Clone_nil Tryz.laysCl_cls 0 0 w).mono ?_
  rintro e w' ⟨rfl, rfl⟩
  have : xs = [] := by cases xs with | nil => rfl | cons _ _ => simp at hl
  subst this
  exact ⟨_, rfl, World.ownsRow_nil _ _ _ _, Below.refl _ _⟩
 ·refine (AnyE.slices_Clone Tryz.laysCl_cls i _ 5 40 hi hz0 hz1 hz2 rfl (by decide) Tryz.sizeOf94 g 0 n cap xs w hl (by omega) (by omega) (fun j u hj => ?_) h1).mono ?_
  ·have hjl := (List.getElem?_eq_some_iff.1 hj).1
   rw [← ht, List.getElem?_take] at hj
   split at hj
   ·simpa [World.cell?, hh] using hj
   ·cases hj
  ·rintro e w' ⟨v', rfl, o, -, b⟩
   exact ⟨v', rfl, o, b⟩
theorem clone_ali {B n : Nat} {w : World} {v : Value} {xs : List Value} (h : w.ownsRow B 54 1 v n xs) (h1 : ∀ u ∈ xs, u.oneCell' = true) (hn : n ≤ 1048577) : Calls Tryz.prog 39 #[v] w fun e w' => ∃ v', e = .returned v' ∧ w'.ownsRow w.heap.size 54 1 v' n xs ∧ Below w.heap.size w w' := by
 obtain ⟨i, hi, hz'⟩ := Option.map_eq_some_iff.1 infoA
 simp only [Prod.mk.injEq] at hz'
 obtain ⟨hz0, hz1, hz2⟩ := hz'
 obtain ⟨hl, ⟨rfl, rfl⟩ | ⟨g, cap, cur, rfl, hg, hh, hc, hm, hs, ht⟩⟩ := h
 ·refine (AnyE.slices_Clone_nil Tryz.laysCl_ali 0 0 w).mono ?_
  rintro e w' ⟨rfl, rfl⟩
  have : xs = [] := by cases xs with | nil => rfl | cons _ _ => simp at hl
  subst this
  exact ⟨_, rfl, World.ownsRow_nil _ _ _ _, Below.refl _ _⟩
 ·refine (AnyE.slices_Clone Tryz.laysCl_ali i _ 1 24 hi hz0 hz1 hz2 rfl (by decide) Tryz.sizeOf54 g 0 n cap xs w hl (by omega) (by omega) (fun j u hj => ?_) h1).mono ?_
  ·have hjl := (List.getElem?_eq_some_iff.1 hj).1
   rw [← ht, List.getElem?_take] at hj
   split at hj
   ·simpa [World.cell?, hh] using hj
   ·cases hj
  ·rintro e w' ⟨v', rfl, o, -, b⟩
   exact ⟨v', rfl, o, b⟩
theorem clone_flg {B n : Nat} {w : World} {v : Value} {xs : List Value} (h : w.ownsRow B 36 1 v n xs) (h1 : ∀ u ∈ xs, u.oneCell' = true) (hn : n ≤ 1048577) : Calls Tryz.prog 40 #[v] w fun e w' => ∃ v', e = .returned v' ∧ w'.ownsRow w.heap.size 36 1 v' n xs ∧ Below w.heap.size w w' := by
 obtain ⟨i, hi, hz'⟩ := Option.map_eq_some_iff.1 So.infoF
 simp only [Prod.mk.injEq] at hz'
 obtain ⟨hz0, hz1, hz2⟩ := hz'
 obtain ⟨hl, ⟨rfl, rfl⟩ | ⟨g, cap, cur, rfl, hg, hh, hc, hm, hs, ht⟩⟩ := h
 ·refine (AnyE.slices_Clone_nil Tryz.laysCl_flg 0 0 w).mono ?_
  rintro e w' ⟨rfl, rfl⟩
  have : xs = [] := by cases xs with | nil => rfl | cons _ _ => simp at hl
  subst this
  exact ⟨_, rfl, World.ownsRow_nil _ _ _ _, Below.refl _ _⟩
 ·refine (AnyE.slices_Clone Tryz.laysCl_flg i _ 1 2 hi hz0 hz1 hz2 rfl (by decide) Tryz.sizeOf36 g 0 n cap xs w hl (by omega) (by omega) (fun j u hj => ?_) h1).mono ?_
  ·have hjl := (List.getElem?_eq_some_iff.1 hj).1
   rw [← ht, List.getElem?_take] at hj
   split at hj
   ·simpa [World.cell?, hh] using hj
   ·cases hj
  ·rintro e w' ⟨v', rfl, o, -, b⟩
   exact ⟨v', rfl, o, b⟩
theorem clone_rul {B n : Nat} {w : World} {v : Value} {xs : List Value} (h : w.ownsRow B 79 7 v n xs) (h1 : ∀ u ∈ xs, u.oneCell' = true) (hn : n ≤ 1048577) : Calls Tryz.prog 41 #[v] w fun e w' => ∃ v', e = .returned v' ∧ w'.ownsRow w.heap.size 79 7 v' n xs ∧ Below w.heap.size w w' := by
 obtain ⟨i, hi, hz'⟩ := Option.map_eq_some_iff.1 infoU
 simp only [Prod.mk.injEq] at hz'
 obtain ⟨hz0, hz1, hz2⟩ := hz'
 obtain ⟨hl, ⟨rfl, rfl⟩ | ⟨g, cap, cur, rfl, hg, hh, hc, hm, hs, ht⟩⟩ := h
 ·refine (AnyE.slices_Clone_nil Tryz.laysCl_rul 0 0 w).mono ?_
  rintro e w' ⟨rfl, rfl⟩
  have : xs = [] := by cases xs with | nil => rfl | cons _ _ => simp at hl
  subst this
  exact ⟨_, rfl, World.ownsRow_nil _ _ _ _, Below.refl _ _⟩
 ·refine (AnyE.slices_Clone Tryz.laysCl_rul i _ 7 88 hi hz0 hz1 hz2 rfl (by decide) Tryz.sizeOf79 g 0 n cap xs w hl (by omega) (by omega) (fun j u hj => ?_) h1).mono ?_
  ·have hjl := (List.getElem?_eq_some_iff.1 hj).1
   rw [← ht, List.getElem?_take] at hj
   split at hj
   ·simpa [World.cell?, hh] using hj
   ·cases hj
  ·rintro e w' ⟨v', rfl, o, -, b⟩
   exact ⟨v', rfl, o, b⟩
end Af
namespace Af
structure Np (p : List Int → Prop) (F : Fil) : Prop where
 nx : ∀ r ∈ F.rules, p r.next
 al : ∀ a ∈ F.aliases, p a
section
variable {p : List Int → Prop} (p0 : p []) (pr : ∀ k s, p (So.rS k s))
include p0 pr
theorem flgS_np {F : Fil} (h : Np p F) (s : Bs) : p (flgS F s) := by
 unfold flgS
 split
 ·exact pr _ _
 ·split
  ·cases hq : F.aliases[flgN F s - 1]? with
   | none => exact p0
   | some a => exact h.al a (List.mem_of_getElem? hq)
  ·exact p0
theorem rule_np {F : Fil} (h : Np p F) {l : Nat} {c : Cls} {row : List Bs} {r : Rul} (hr : rule F l c row = .ok r) : p r.next := by
 have key : ∀ q, added F l c.kind (fld row 3) = .ok q → p q.2 := by
  intro q hq
  unfold added at hq
  split at hq
  ·cases hq
  ·split at hq
   ·cases hq
   ·split at hq
    ·injection hq with hq; subst hq; exact p0
    ·split at hq
     ·cases hq
     ·split at hq
      ·cases hq
      ·injection hq with hq; subst hq; exact flgS_np p0 pr h _
 unfold rule at hr
 split at hr
 ·cases hr
 ·split at hr
  ·cases hr
  ·split at hr
   ·cases hr
   ·rename_i q hq
    have := key q hq
    split at hr
    ·split at hr
     ·cases hr
     ·injection hr with hr; subst hr; exact this
    ·injection hr with hr; subst hr; exact this
omit p0 pr in
theorem repStep_np {key : Bs} {R R' : Rdr} (h : repStep key R = .ok R') (k : Np p R.file) : Np p R'.file := by
 unfold repStep at h
 split at h
 ·cases h
 ·rename_i row R1 hg
  obtain ⟨m, e⟩ := grow_mo hg
  split at h
  ·cases h
  ·injection h with h
   subst h
   exact ⟨by rw [e]; exact k.nx, by rw [e]; exact k.al⟩
theorem aliStep_np {key : Bs} {R R' : Rdr} (h : aliStep key R = .ok R') (k : Np p R.file) : Np p R'.file := by
 unfold aliStep at h
 split at h
 ·cases h
 ·rename_i row R1 hg
  obtain ⟨m, e⟩ := grow_mo hg
  split at h
  ·cases h
  ·rename_i q hq
   injection h with h
   subst h
   refine ⟨by rw [e]; exact k.nx, fun a ha => ?_⟩
   rw [e] at ha
   rcases List.mem_append.1 ha with z | z
   ·exact k.al a z
   ·simp at z
    subst z
    have := p0
    unfold aliRow at hq
    repeat' split at hq
    all_goals first | (cases hq; done) | (injection hq with hq; subst hq; exact pr _ _)
theorem rulStep_np {beg : List Bs} {c : Cls} {R R' : Rdr} (h : rulStep beg c R = .ok R') (k : Np p R.file) : Np p R'.file := by
 unfold rulStep at h
 split at h
 ·cases h
 ·rename_i row R1 hg
  obtain ⟨m, e⟩ := grow_mo hg
  split at h
  ·cases h
  ·rename_i q hq
   injection h with h
   subst h
   have kk : Np p R1.file := by rw [e]; exact k
   refine ⟨fun r hr => ?_, kk.al⟩
   rcases List.mem_append.1 hr with z | z
   ·exact kk.nx r z
   ·simp at z
    subst z
    exact rule_np p0 pr kk hq
theorem doKey_np {R R' : Rdr} {h : List Bs} {k : Key} (hk : doKey R h k = .ok R') (hn : Np p R.file) : Np p R'.file := by
 have triv : ∀ (f : Except Er Rdr) , f = .ok R' → (∀ R1, f = .ok R1 → R1.file.rules = R.file.rules ∧ R1.file.aliases = R.file.aliases) → Np p R'.file := by
  intro f hf q
  obtain ⟨e1, e2⟩ := q R' hf
  exact ⟨by rw [e1]; exact hn.nx, by rw [e2]; exact hn.al⟩
 cases k with
 | reps =>
  simp only [doKey, doReps] at hk
  split at hk
  ·cases hk
  ·exact times_rel (rel := fun R R' => Np p R.file → Np p R'.file) (fun R h => h) (fun a b c x y z => y (x z)) (fun R R' q => repStep_np q) _ _ _ hk hn
 | aliases =>
  simp only [doKey, doAliases] at hk
  split at hk
  ·cases hk
  ·split at hk
   ·cases hk
   ·exact times_rel (rel := fun R R' => Np p R.file → Np p R'.file) (fun R h => h) (fun a b c x y z => y (x z)) (fun R R' q => aliStep_np p0 pr q) _ _ _ hk hn
 | cls kk =>
  simp only [doKey, doClass] at hk
  split at hk
  ·cases hk
  ·split at hk
   ·cases hk
   ·split at hk
    ·cases hk
    ·split at hk
     ·cases hk
     ·exact times_rel (rel := fun R R' => Np p R.file → Np p R'.file) (fun R h => h) (fun a b c x y z => y (x z)) (fun R R' q => rulStep_np p0 pr q) _ _ _ hk ⟨hn.nx, hn.al⟩
 | _ =>
  refine triv _ hk fun R1 q => ?_
  simp only [doKey, doKind, doCharset, doLetters, doSpecial, doLeast] at q
  repeat' split at q
  all_goals first | (cases q; done) | (injection q with q; subst q; exact ⟨rfl, rfl⟩)
theorem heading_np {R R' : Rdr} {l : Nat} {hd : List Bs} (h : heading R l hd = .ok R') (hn : Np p R.file) : Np p R'.file := by
 unfold heading at h
 split at h
 ·cases h
 ·split at h
  ·cases h
  ·split at h
   ·cases h
   ·split at h
    ·cases h
    ·rename_i R2 hd2
     injection h with h
     subst h
     have := doKey_np p0 pr (R := { R with line := l }) hd2 hn
     exact this
theorem heads_np : ∀ {m : Nat} {R R' : Rdr}, heads m R = .ok R' → Np p R.file → Np p R'.file
 | 0, R, R', h, hn => by
  simp only [heads, Except.ok.injEq] at h
  subst h
  exact hn
 | m + 1, R, R', h, hn => by
  simp only [heads] at h
  split at h
  ·injection h with h; subst h; exact hn
  ·rename_i l hd t hr
   split at h
   ·cases h
   ·rename_i R1 h1
    have n1 := heading_np p0 pr h1 hn
    exact heads_np h n1
theorem affR_np {l : Bs} {F : Fil} (h : affR l = .ok F) : Np p F := by
 by_cases hl : 65536 < l.length
 ·simp [affR, hl] at h
 ·rw [affR_short hl] at h
  cases hh : heads (Rw.rowsOf l).length (start l) with
  | error e => rw [hh] at h; cases h
  | ok R =>
   rw [hh] at h
   have := heads_np p0 pr hh ⟨fun r hr => by simp [start] at hr, fun a ha => by simp [start] at ha⟩
   unfold affEnd at h
   simp only at h
   split at h
   ·cases h
   ·injection h with h
    subst h
    exact this
end
theorem affR_small {l : Bs} {F : Fil} (h : affR l = .ok F) : Np (fun a => ∀ x ∈ a, 0 ≤ x ∧ x ≤ 65535) F :=
 affR_np (fun x hx => by cases hx) (fun k s => rS_nb k s) h
def Sd (a : List Int) : Prop := So.setOf a = a ∧ a.length ≤ 64
theorem affR_sets {l : Bs} {F : Fil} (h : affR l = .ok F) : Np Sd F := by
 refine affR_np ⟨rfl, by simp⟩ (fun k s => ?_) h
 by_cases he : So.rE k s = 0
 ·refine ⟨(rS_set k s he).1, ?_⟩
  unfold So.rS
  rw [if_pos he]
  have hl := (So.setOf_set (So.vals k s)).len
  have : (So.vals k s).length ≤ 64 := by
   unfold So.rE So.readE at he
   repeat (split at he <;> first | omega | skip)
  omega
 ·unfold So.rS
  rw [if_neg he]
  exact ⟨rfl, by simp⟩
open RowB
def axL (F : Fil) (vr va vc vu : Value) : List Value := [.int .i64 F.kind, .string (Wd.str F.charset), .string (Wd.str F.letters), .int .u16 (F.specials.getD 0 0), .int .u16 (F.specials.getD 1 0), .int .u16 (F.specials.getD 2 0), .int .u16 (F.specials.getD 3 0), .int .u16 (F.specials.getD 4 0), .int .i64 (F.least : Nat), vr, va, vc, vu]
abbrev TA : TypeId := 43
def RepR (n : Nat) (W : World) (F : Fil) (v : Value) : Prop := W.ownsRow n 90 2 v F.reps.length (F.reps.flatMap repC)
def ClsR (n : Nat) (W : World) (F : Fil) (v : Value) : Prop := W.ownsRow n 94 5 v F.classes.length (F.classes.flatMap clsC)
def AliR (n : Nat) (W : World) (F : Fil) (v : Value) (av : List Value) (j : Nat) : Prop := W.ownsRow n 54 1 v F.aliases.length av ∧ av.length = F.aliases.length ∧ ∀ (i : Nat) u a, av[i]? = some u → F.aliases[i]? = some a → FNx (if i < j then n else 0) W u a
def RulR (n : Nat) (W : World) (F : Fil) (v : Value) (nv : List Value) (j : Nat) : Prop := W.ownsRow n 79 7 v F.rules.length ((F.rules.zip nv).flatMap fun p => rulC p.1 p.2) ∧ nv.length = F.rules.length ∧ ∀ (i : Nat) u r, nv[i]? = some u → F.rules[i]? = some r → FNx (if i < j then n else 0) W u r.next
def AxV (n : Nat) (W : World) (F : Fil) (v : Value) : Prop :=
 ∃ vr va vc vu av nv, v = .agg (axL F vr va vc vu).toArray ∧ RepR n W F vr ∧ AliR n W F va av F.aliases.length ∧ ClsR n W F vc ∧ RulR n W F vu nv F.rules.length
def AxRes (w : World) (F : Fil) (e : Ending) (w' : World) : Prop := Below w.heap.size w w' ∧ ∃ v, e = .returned v ∧ AxV w.heap.size w' F v
theorem RepR.kq {n : Nat} {W W' : World} {F : Fil} {v : Value} {T : List TypeId} {M : Nat → Prop} (h : RepR n W F v) (k : Kq T M W W') (ht : 90 ∉ T) : RepR n W' F v := own_kq h k ht
theorem ClsR.kq {n : Nat} {W W' : World} {F : Fil} {v : Value} {T : List TypeId} {M : Nat → Prop} (h : ClsR n W F v) (k : Kq T M W W') (ht : 94 ∉ T) : ClsR n W' F v := own_kq h k ht
theorem AliR.kq {n j : Nat} {W W' : World} {F : Fil} {v : Value} {av : List Value} {T : List TypeId} {M : Nat → Prop} (h : AliR n W F v av j) (k : Kq T M W W') (ht : 54 ∉ T) (ht2 : 36 ∉ T) : AliR n W' F v av j := ⟨own_kq h.1 k ht, h.2.1, fun i u a q1 q2 => fnx_kq (h.2.2 i u a q1 q2) k ht2⟩
theorem RulR.kq {n j : Nat} {W W' : World} {F : Fil} {v : Value} {nv : List Value} {T : List TypeId} {M : Nat → Prop} (h : RulR n W F v nv j) (k : Kq T M W W') (ht : 79 ∉ T) (ht2 : 36 ∉ T) : RulR n W' F v nv j := ⟨own_kq h.1 k ht, h.2.1, fun i u a q1 q2 => fnx_kq (h.2.2 i u a q1 q2) k ht2⟩
theorem cells13 {W : World} {b : Nat} {x0 x1 x2 x3 x4 x5 x6 x7 x8 x9 x10 x11 x12 : Value} {t : TypeId} (h : W.heap[b]? = some (.cells #[x0, x1, x2, x3, x4, x5, x6, x7, x8, x9, x10, x11, x12] t (0, 0))) :
  W.cell? ⟨b, 0, none⟩ = some x0 ∧ W.cell? ⟨b, 1, none⟩ = some x1 ∧ W.cell? ⟨b, 2, none⟩ = some x2 ∧ W.cell? ⟨b, 3, none⟩ = some x3 ∧ W.cell? ⟨b, 4, none⟩ = some x4 ∧ W.cell? ⟨b, 5, none⟩ = some x5 ∧ W.cell? ⟨b, 6, none⟩ = some x6 ∧ W.cell? ⟨b, 7, none⟩ = some x7 ∧ W.cell? ⟨b, 8, none⟩ = some x8 ∧ W.cell? ⟨b, 9, none⟩ = some x9 ∧ W.cell? ⟨b, 10, none⟩ = some x10 ∧ W.cell? ⟨b, 11, none⟩ = some x11 ∧ W.cell? ⟨b, 12, none⟩ = some x12 ∧ ∀ k, W.frozen? ⟨b, k, none⟩ = false := by
 refine ⟨?_, ?_, ?_, ?_, ?_, ?_, ?_, ?_, ?_, ?_, ?_, ?_, ?_, fun k => ?_⟩ <;> simp [World.cell?, World.frozen?, h]
def wrL (W : World) (b : Nat) : Nat → List Value → World
 | _, [] => W
 | i, x :: t => wrL (W.setCell ⟨b, i, none⟩ x) b (i + 1) t
theorem wrL_facts {B b : Nat} {t : TypeId} : ∀ (xs : List Value) (W : World) (pre old : List Value), old.length = xs.length → B ≤ b → W.heap[b]? = some (.cells (pre ++ old).toArray t (0, 0)) →
  (wrL W b pre.length xs).heap[b]? = some (.cells (pre ++ xs).toArray t (0, 0)) ∧ Kp b W (wrL W b pre.length xs) ∧ Below B W (wrL W b pre.length xs)
 | [], W, pre, old, hl, hB, h => by
  have : old = [] := List.length_eq_zero_iff.1 (by simpa using hl)
  subst this
  exact ⟨h, ⟨Nat.le_refl _, fun _ _ _ => rfl⟩, Below.refl _ _⟩
 | x :: xs, W, pre, [], hl, hB, h => by simp at hl
 | x :: xs, W, pre, y :: old, hl, hB, h => by
  have e : (W.setCell ⟨b, pre.length, none⟩ x).heap[b]? = some (.cells ((pre ++ [x]) ++ old).toArray t (0, 0)) := by
   rw [set_heap1 h]
   simp
  have ih := wrL_facts (B := B) xs (W.setCell ⟨b, pre.length, none⟩ x) (pre ++ [x]) old (by simpa using hl) hB e
  rw [List.length_append, List.length_singleton, List.append_assoc, List.singleton_append] at ih
  exact ⟨ih.1, kp_trans (kp_set W b pre.length x) ih.2.1, ((Below.refl B W).setCell (p := ⟨b, pre.length, none⟩) hB x).trans ih.2.2⟩
theorem own_slice {W : World} {B : Nat} {e : TypeId} {size n : Nat} {v : Value} {xs : List Value} (h : W.ownsRow B e size v n xs) : ∃ a c, v = .slice a n c := by
 obtain ⟨a, c, q, -, -⟩ := own_len h
 exact ⟨a, c, q⟩
noncomputable def ax18 : Code := dropSeq 9 (Tryz.f14.body.getD .skip)
theorem ax_end {rs ab : Nat} {w W : World} {F : Fil} {vr va vc vu : Value} {av nv : List Value} (low : Below w.heap.size w W) (hrs : W.heap[rs]? = some (.cells #[.int .i64 0, .string ⟨#[]⟩, .string ⟨#[]⟩, .int .u16 0, .int .u16 0, .int .u16 0, .int .u16 0, .int .u16 0, .int .i64 0, .slice none 0 0, .slice none 0 0, .slice none 0 0, .slice none 0 0] TA (0, 0))) (hle : w.heap.size ≤ rs) (hab : W.heap[ab]? = some (.cells (axL F vr va vc vu).toArray TA (0, 0)))
  (h1 : RepR w.heap.size W F vr) (h2 : AliR w.heap.size W F va av F.aliases.length) (h3 : ClsR w.heap.size W F vc) (h4 : RulR w.heap.size W F vu nv F.rules.length) (u0 u1 u4 u5 u6 u7 u8 u9 u10 u11 u12 u13 u14 u15 u16 u17 u18 u19 u20 u21 u22 u23 u24 u25 u26 u27 u28 u29 u30 u31 u32 u33 u34 u35 u36 u37 u38 u39 u40 u41 u42 u43 u44 u45 u46 u47 u48 u49 u50 u51 u52 u53 u54 u55 u56 u57 u58 u59 u60 u61 u62 u63 : Value) :
  Code.wp Tryz.prog ax18 (bodyPost Tryz.prog Tryz.f14 (AxRes w F)) ⟨#[u0, u1, .pointer (some ⟨rs, 0, none⟩), .pointer (some ⟨ab, 0, none⟩), u4, u5, u6, u7, u8, u9, u10, u11, u12, u13, u14, u15, u16, u17, u18, u19, u20, u21, u22, u23, u24, u25, u26, u27, u28, u29, u30, u31, u32, u33, u34, u35, u36, u37, u38, u39, u40, u41, u42, u43, u44, u45, u46, u47, u48, u49, u50, u51, u52, u53, u54, u55, u56, u57, u58, u59, u60, u61, u62, u63], []⟩ W := by
 conv => arg 2; whnf
 obtain ⟨ar, cr, er⟩ := own_slice h1
 obtain ⟨aa, ca, ea⟩ := own_slice h2.1
 obtain ⟨ac, cc, ec⟩ := own_slice h3
 obtain ⟨au, cu, eu⟩ := own_slice h4.1
 have HAX : Hid (∃ w' : World, w' = wrL W rs 0 (axL F vr va vc vu) ∧ Below w.heap.size w w' ∧ w'.heap[rs]? = some (.cells (axL F vr va vc vu).toArray TA (0, 0)) ∧ AxV w.heap.size w' F (.agg (axL F vr va vc vu).toArray)) := by
  obtain ⟨f1, f2, f3⟩ := wrL_facts (B := w.heap.size) (axL F vr va vc vu) W [] [.int .i64 0, .string ⟨#[]⟩, .string ⟨#[]⟩, .int .u16 0, .int .u16 0, .int .u16 0, .int .u16 0, .int .u16 0, .int .i64 0, .slice none 0 0, .slice none 0 0, .slice none 0 0, .slice none 0 0] rfl hle hrs
  have kq : Kq [TA] noM W (wrL W rs 0 (axL F vr va vc vu)) := Kq.kp f2 hrs (by simp)
  exact ⟨_, rfl, low.trans f3, f1, vr, va, vc, vu, av, nv, rfl, h1.kq kq (by decide), h2.kq kq (by decide) (by decide), h3.kq kq (by decide), h4.kq kq (by decide) (by decide)⟩
 obtain ⟨s0, e0⟩ : ∃ x, F.specials.getD 0 0 = x := ⟨_, rfl⟩
 obtain ⟨s1, e1⟩ : ∃ x, F.specials.getD 1 0 = x := ⟨_, rfl⟩
 obtain ⟨s2, e2⟩ : ∃ x, F.specials.getD 2 0 = x := ⟨_, rfl⟩
 obtain ⟨s3, e3⟩ : ∃ x, F.specials.getD 3 0 = x := ⟨_, rfl⟩
 obtain ⟨s4, e4⟩ : ∃ x, F.specials.getD 4 0 = x := ⟨_, rfl⟩
 have HEQ : Hid (axL F vr va vc vu = [.int .i64 F.kind, .string (Wd.str F.charset), .string (Wd.str F.letters), .int .u16 s0, .int .u16 s1, .int .u16 s2, .int .u16 s3, .int .u16 s4, .int .i64 (F.least : Nat), .slice ar F.reps.length cr, .slice aa F.aliases.length ca, .slice ac F.classes.length cc, .slice au F.rules.length cu]) := by
  rw [Hid, axL, e0, e1, e2, e3, e4, er, ea, ec, eu]
 rw [unhide HEQ] at hab HAX
 obtain ⟨c0, c1, c2, c3, c4, c5, c6, c7, c8, c9, c10, c11, c12, -⟩ := cells13 hab
 obtain ⟨d0, d1, d2, d3, d4, d5, d6, d7, d8, d9, d10, d11, d12, dz⟩ := cells13 hrs
 have hlt := lt_some hrs
 clear hrs hle low h1 h2 h3 h4 hab er ea ec eu e0 e1 e2 e3 e4 HEQ
 generalize Wd.str F.charset = k1 at *
 generalize Wd.str F.letters = k2 at *
 generalize F.kind = k0 at *
 generalize F.least = k8 at *
 generalize F.reps.length = nr at *
 generalize F.aliases.length = na at *
 generalize F.classes.length = nc at *
 generalize F.rules.length = nu at *
 go_wp2
 obtain ⟨w', hw', b, hh, hx⟩ := unhide HAX
 obtain ⟨m0, m1, m2, m3, m4, m5, m6, m7, m8, m9, m10, m11, m12, -⟩ := cells13 hh
 have HH := hide (And.intro b hx)
 clear c0 c1 c2 c3 c4 c5 c6 c7 c8 c9 c10 c11 c12 d0 d1 d2 d3 d4 d5 d6 d7 d8 d9 d10 d11 d12 dz hlt HAX b hx hh
 show bodyPost _ _ _ Exit.ret _ (wrL W rs 0 [.int .i64 k0, .string k1, .string k2, .int .u16 s0, .int .u16 s1, .int .u16 s2, .int .u16 s3, .int .u16 s4, .int .i64 (k8 : Nat), .slice ar nr cr, .slice aa na ca, .slice ac nc cc, .slice au nu cu])
 rw [← hw']
 refine bodyPost_ret (v := .agg #[.int .i64 k0, .string k1, .string k2, .int .u16 s0, .int .u16 s1, .int .u16 s2, .int .u16 s3, .int .u16 s4, .int .i64 (k8 : Nat), .slice ar nr cr, .slice aa na ca, .slice ac nc cc, .slice au nu cu]) (by simp [results, Tryz.results14, go_sem, m0, m1, m2, m3, m4, m5, m6, m7, m8, m9, m10, m11, m12]) rfl ?_
 exact ⟨(unhide HH).1, _, rfl, (unhide HH).2⟩
structure XS (rs ab : Nat) (w W : World) (F : Fil) (vr va vc vu : Value) : Prop where
 low : Below w.heap.size w W
 hrs : W.heap[rs]? = some (.cells #[.int .i64 0, .string ⟨#[]⟩, .string ⟨#[]⟩, .int .u16 0, .int .u16 0, .int .u16 0, .int .u16 0, .int .u16 0, .int .i64 0, .slice none 0 0, .slice none 0 0, .slice none 0 0, .slice none 0 0] TA (0, 0))
 hle : w.heap.size ≤ rs
 hab : W.heap[ab]? = some (.cells (axL F vr va vc vu).toArray TA (0, 0))
 hla : w.heap.size ≤ ab
 hne : ab ≠ rs
theorem XS.kq {rs ab : Nat} {w W W' : World} {F : Fil} {vr va vc vu : Value} {T : List TypeId} (h : XS rs ab w W F vr va vc vu) (k : Kq T noM W W') (hT : TA ∉ T) (l : Below w.heap.size W W') : XS rs ab w W' F vr va vc vu :=
 ⟨h.low.trans l, (k.cells _ _ _ _ h.hrs hT).trans h.hrs, h.hle, (k.cells _ _ _ _ h.hab hT).trans h.hab, h.hla, h.hne⟩
theorem fnx_own {B : Nat} {W : World} {v : Value} {l : List Int} (h : FNx B W v l) : W.ownsRow B 36 1 v l.length (l.map So.encF) := by
 rcases h with ⟨rfl, rfl⟩ | h
 ·exact World.ownsRow_nil _ _ _ _
 ·exact h.owns
theorem own_fnx {B : Nat} {W : World} {v : Value} {l : List Int} (h : W.ownsRow B 36 1 v l.length (l.map So.encF)) : FNx B W v l := by
 obtain ⟨hl, ⟨e1, e2⟩ | ⟨g, cap, cur, e1, hg, hh, h1, h2, h3, h4⟩⟩ := h
 ·exact .inl ⟨e1, List.length_eq_zero_iff.1 e2⟩
 ·refine .inr ⟨g, cap, cur, e1, hg, hh, h1, h2, by omega, ?_⟩
  rw [Nat.mul_one] at h4
  exact h4
theorem enc_one (l : List Int) : ∀ u ∈ l.map So.encF, u.oneCell' = true := by
 intro u hu
 obtain ⟨x, -, rfl⟩ := List.mem_map.1 hu
 rfl
theorem own_set {W : World} {B g cap : Nat} {e : TypeId} {size n : Nat} {xs : List Value} (h : W.ownsRow B e size (.slice (some ⟨g, 0, none⟩) n cap) n xs) (k : Nat) (_hk : k < n * size) (u : Value) : (W.setCell ⟨g, k, none⟩ u).ownsRow B e size (.slice (some ⟨g, 0, none⟩) n cap) n (xs.set k u) := by
 obtain ⟨hl, ⟨e1, -⟩ | ⟨g', cap', cur, e1, hg, hh, h1, h2, h3, h4⟩⟩ := h
 ·cases e1
 ·injection e1 with e1 _ e2
  injection e1 with e1
  injection e1 with e1 _ _
  subst e1 e2
  refine ⟨by simpa using hl, .inr ⟨g, cap, cur.setIfInBounds k u, rfl, hg, set_heap1 hh u, h1, h2, by simpa using h3, ?_⟩⟩
  rw [Array.toList_setIfInBounds, List.take_set, h4]
theorem own_blk {W : World} {B g cap : Nat} {e : TypeId} {size n : Nat} {xs : List Value} (h : W.ownsRow B e size (.slice (some ⟨g, 0, none⟩) n cap) n xs) : ∃ cur, W.heap[g]? = some (.cells cur e (0, 0)) ∧ B ≤ g := by
 obtain ⟨hl, ⟨e1, -⟩ | ⟨g', cap', cur, e1, hg, hh, -⟩⟩ := h
 ·cases e1
 ·injection e1 with e1 _ e2
  injection e1 with e1
  injection e1 with e1 _ _
  subst e1
  exact ⟨cur, hh, hg⟩
theorem zip_set {u : Value} : ∀ (rs : List Rul) (nv : List Value) (j : Nat), j < rs.length → nv.length = rs.length → ((rs.zip (nv.set j u)).flatMap fun p => rulC p.1 p.2) = ((rs.zip nv).flatMap fun p => rulC p.1 p.2).set (j * 7 + 6) u
 | [], _, _, h, _ => by simp at h
 | r :: rs, [], _, _, h => by simp at h
 | r :: rs, v :: nv, 0, h, h2 => by
  simp [rulC]
 | r :: rs, v :: nv, j + 1, h, h2 => by
  have ih := zip_set (u := u) rs nv j (by simpa using h) (by simpa using h2)
  simp only [List.set_cons_succ, List.zip_cons_cons, List.flatMap_cons, ih]
  rw [List.set_append_right _ _ (by simp [rulC]; omega)]
  congr 2
  simp [rulC]
  omega
theorem RulR.put {n0 j : Nat} {W W' : World} {F : Fil} {g cap : Nat} {nv : List Value} {u : Value} {r : Rul} (h : RulR n0 W F (.slice (some ⟨g, 0, none⟩) F.rules.length cap) nv j) (hr : F.rules[j]? = some r) (hW : W' = W.setCell ⟨g, j * 7 + 6, none⟩ u) (hu : FNx n0 W u r.next) : RulR n0 W' F (.slice (some ⟨g, 0, none⟩) F.rules.length cap) (nv.set j u) (j + 1) ∧ Kq [79] noM W W' ∧ n0 ≤ g := by
 subst hW
 obtain ⟨cur, hh, hg⟩ := own_blk h.1
 have k : Kq [79] noM W (W.setCell ⟨g, j * 7 + 6, none⟩ u) := Kq.kp (kp_set _ _ _ _) hh (by simp)
 have hj := (List.getElem?_eq_some_iff.1 hr).1
 refine ⟨⟨?_, by simpa using h.2.1, fun i v q h1 h2 => ?_⟩, k, hg⟩
 ·rw [zip_set _ _ _ hj h.2.1]
  exact own_set h.1 _ (by omega) u
 ·by_cases hi : i = j
  ·subst hi
   rw [List.getElem?_set_self (by rw [h.2.1]; exact hj)] at h1
   injection h1 with h1
   subst h1
   rw [hr] at h2
   injection h2 with h2
   subst h2
   rw [if_pos (by omega)]
   exact fnx_kq hu k (by decide)
  ·rw [List.getElem?_set_ne (fun e => hi e.symm)] at h1
   have := fnx_kq (h.2.2 i v q h1 h2) k (by decide)
   by_cases q1 : i < j
   ·rw [if_pos q1] at this
    rw [if_pos (by omega)]
    exact this
   ·rw [if_neg q1] at this
    rw [if_neg (by omega)]
    exact this
noncomputable def ax13 : Code := dropSeq 8 (Tryz.f14.body.getD .skip)
theorem ax_rules {rs ab : Nat} {w W : World} {F : Fil} {vr va vc vu : Value} {av nv : List Value} (hX : XS rs ab w W F vr va vc vu) (h1 : RepR w.heap.size W F vr) (h2 : AliR w.heap.size W F va av F.aliases.length) (h3 : ClsR w.heap.size W F vc) (h4 : RulR w.heap.size W F vu nv 0) (hS : Np Sd F) (u0 u1 u4 u5 u6 u7 u8 u9 u10 u11 u12 u13 u14 u15 u16 u17 u18 u19 u20 u21 u22 u23 u24 u25 u26 u27 u28 u29 u30 u31 u32 u33 u34 u35 u36 u37 u38 u39 u40 u41 u42 u43 u44 u45 u46 u47 u48 u49 u50 u51 u52 u53 u54 u55 u56 u57 u58 u59 u60 u61 u62 u63 : Value) :
  Code.wp Tryz.prog ax13 (bodyPost Tryz.prog Tryz.f14 (AxRes w F)) ⟨#[u0, u1, .pointer (some ⟨rs, 0, none⟩), .pointer (some ⟨ab, 0, none⟩), u4, u5, u6, u7, u8, u9, u10, u11, u12, u13, u14, u15, u16, u17, u18, u19, u20, u21, u22, u23, u24, u25, u26, u27, u28, u29, u30, u31, u32, u33, u34, u35, u36, u37, u38, u39, u40, u41, u42, u43, u44, u45, u46, u47, u48, u49, u50, u51, u52, u53, u54, u55, u56, u57, u58, u59, u60, u61, u62, u63], []⟩ W := by
 have HEND : Hid (∀ W nv', XS rs ab w W F vr va vc vu → RepR w.heap.size W F vr → AliR w.heap.size W F va av F.aliases.length → ClsR w.heap.size W F vc → RulR w.heap.size W F vu nv' F.rules.length → ∀ (u0 u1 u4 u5 u6 u7 u8 u9 u10 u11 u12 u13 u14 u15 u16 u17 u18 u19 u20 u21 u22 u23 u24 u25 u26 u27 u28 u29 u30 u31 u32 u33 u34 u35 u36 u37 u38 u39 u40 u41 u42 u43 u44 u45 u46 u47 u48 u49 u50 u51 u52 u53 u54 u55 u56 u57 u58 u59 u60 u61 u62 u63 : Value), Code.wp Tryz.prog ax18 (bodyPost Tryz.prog Tryz.f14 (AxRes w F)) ⟨#[u0, u1, .pointer (some ⟨rs, 0, none⟩), .pointer (some ⟨ab, 0, none⟩), u4, u5, u6, u7, u8, u9, u10, u11, u12, u13, u14, u15, u16, u17, u18, u19, u20, u21, u22, u23, u24, u25, u26, u27, u28, u29, u30, u31, u32, u33, u34, u35, u36, u37, u38, u39, u40, u41, u42, u43, u44, u45, u46, u47, u48, u49, u50, u51, u52, u53, u54, u55, u56, u57, u58, u59, u60, u61, u62, u63], []⟩ W) :=
  fun W nv' x a b c d u0 u1 u4 u5 u6 u7 u8 u9 u10 u11 u12 u13 u14 u15 u16 u17 u18 u19 u20 u21 u22 u23 u24 u25 u26 u27 u28 u29 u30 u31 u32 u33 u34 u35 u36 u37 u38 u39 u40 u41 u42 u43 u44 u45 u46 u47 u48 u49 u50 u51 u52 u53 u54 u55 u56 u57 u58 u59 u60 u61 u62 u63 => ax_end (rs := rs) (ab := ab) x.low x.hrs x.hle x.hab a b c d u0 u1 u4 u5 u6 u7 u8 u9 u10 u11 u12 u13 u14 u15 u16 u17 u18 u19 u20 u21 u22 u23 u24 u25 u26 u27 u28 u29 u30 u31 u32 u33 u34 u35 u36 u37 u38 u39 u40 u41 u42 u43 u44 u45 u46 u47 u48 u49 u50 u51 u52 u53 u54 u55 u56 u57 u58 u59 u60 u61 u62 u63
 have HCODE : ax13 = Code.seq (match ax13 with | .seq a _ => a | c => c) ax18 := by kernel_rfl
 rw [HCODE]
 clear HCODE
 refine wp_seq_k (fun KE hKE => ?_)
 conv => arg 2; whnf
 have c12 : W.cell? ⟨ab, 12, none⟩ = some vu := by simp [World.cell?, hX.hab, axL]
 obtain ⟨au, cu, eu⟩ := own_slice h4.1
 obtain ⟨n, hn⟩ : ∃ n, F.rules.length = n := ⟨_, rfl⟩
 have HN := hide hn
 rcases Nat.eq_zero_or_pos n with hz | hpos
 ·subst hz
  have hz0 : ¬ (0 : Int) < 0 := by omega
  have HGO := hide (unhide HEND W nv hX h1 h2 h3 (by rw [hn]; exact h4))
  rw [hn] at eu
  subst eu
  have HKE := hide hKE
  clear hX h1 h2 h3 h4 hS HEND hKE
  go_wp2
  go_loopw [49] (fun s49 wr => s49 = .int .i64 0 ∧ wr = W) (fun _ _ => 0)
  case atStart => exact ⟨rfl, rfl⟩
  case round =>
   obtain ⟨rfl, rfl⟩ := hrel
   go_wp2
   apply unhide HKE
   exact unhide HGO _ _ _ _ _ _ _ _ _ _ _ _ _ _ _ _ _ _ _ _ _ _ _ _ _ _ _ _ _ _ _ _ _ _ _ _ _ _ _ _ _ _ _ _ _ _ _ _ _ _ _ _ _ _ _ _ _ _ _ _ _ _
 obtain ⟨gu, cu', e1, -, hgu, hcu1, hcu2, -, -⟩ := own_at h4.1 (by omega)
 rw [hn] at e1
 subst e1
 clear eu au cu
 have HKE := hide hKE
 have HSD := hide hS
 have HX0 := hide (And.intro hX (And.intro h1 (And.intro h2 (And.intro h3 h4))))
 unfold maxLen at hcu2
 rw [hn] at hcu1
 clear hX h1 h2 h3 h4 hS hKE hn
 go_wp2
 go_loopw [49] (fun s49 wr => ∃ j : Nat, s49 = .int .i64 j ∧ j ≤ n ∧ Hid (∃ nv', XS rs ab w wr F vr va vc (.slice (some ⟨gu, 0, none⟩) n cu') ∧ RepR w.heap.size wr F vr ∧ AliR w.heap.size wr F va av F.aliases.length ∧ ClsR w.heap.size wr F vc ∧ RulR w.heap.size wr F (.slice (some ⟨gu, 0, none⟩) n cu') nv' j)) (fun s49 _ => n - (intOf s49).toNat)
 case atStart => exact ⟨0, rfl, Nat.zero_le _, ⟨nv, unhide HX0⟩⟩
 case round =>
  obtain ⟨j, rfl, hj, HR⟩ := hrel
  clear c12 HX0 hgu
  by_cases hlt : j < n
  ·have hltz : (j : Int) < (n : Int) := by omega
   have hj0 : ¬ (j : Int) < 0 := by omega
   obtain ⟨nv', hX, h1, h2, h3, h4⟩ := unhide HR
   have hjr : j < F.rules.length := by rw [unhide HN]; exact hlt
   obtain ⟨r, hr⟩ : ∃ r, F.rules[j]? = some r := ⟨_, List.getElem?_eq_getElem hjr⟩
   obtain ⟨v, hv⟩ : ∃ v, nv'[j]? = some v := ⟨_, List.getElem?_eq_getElem (by rw [h4.2.1]; exact hjr)⟩
   have hfn := h4.2.2 j v r hv hr
   rw [if_neg (Nat.lt_irrefl j)] at hfn
   obtain ⟨g', c', e1, -, hgu, -, -, -, hcu⟩ := own_at h4.1 (by omega)
   injection e1 with e1 ea eb
   clear ea eb
   injection e1 with e1
   injection e1 with e1 ea eb
   clear ea eb
   subst e1
   have h41 := h4.1
   rw [unhide HN] at h41
   have q : ∀ k, k < 7 → wr.cell? ⟨gu, j * 7 + k, none⟩ = (rulC r v)[k]? := fun k hk => (hcu _ (by omega)).trans (flat_get (f := fun p : Rul × Value => rulC p.1 p.2) (m := 7) (fun _ => rfl) (zip_get hr hv) hk)
   have q0 := q 0 (by decide)
   have q1 := q 1 (by decide)
   have q2 := q 2 (by decide)
   have q3 := q 3 (by decide)
   have q4 := q 4 (by decide)
   have q5 := q 5 (by decide)
   have q6 := q 6 (by decide)
   simp only [rulC, List.getElem?_cons_zero, List.getElem?_cons_succ, Nat.add_zero] at q0 q1 q2 q3 q4 q5 q6
   obtain ⟨ao, m, c, rfl⟩ : ∃ a m c, v = .slice a m c := by
    rcases hfn with ⟨q, -⟩ | ⟨gq, cq, curq, q, -⟩
    ·exact ⟨_, _, _, q⟩
    ·exact ⟨_, _, _, q⟩
   have b1 : Below wr.heap.size wr (wr.alloc (.cells (rulC r (.slice ao m c)).toArray 79)) := (Below.refl _ wr).alloc (Nat.le_refl _) _
   have b1d := b1.drew
   have c12 : wr.cell? ⟨ab, 12, none⟩ = some (.slice (some ⟨gu, 0, none⟩) n cu') := by simp [World.cell?, hX.hab, axL]
   have habl := lt_some hX.hab
   have h12a := (b1d.cell (p := ⟨ab, 12, none⟩) habl).trans c12
   obtain ⟨-, -, -, -, -, -, t76⟩ : True ∧ True ∧ True ∧ True ∧ True ∧ True ∧ ((wr.alloc (.cells (rulC r (.slice ao m c)).toArray 79)).drew).cell? ⟨wr.heap.size, 6, none⟩ = some (.slice ao m c) := by
    refine ⟨trivial, trivial, trivial, trivial, trivial, trivial, ?_⟩
    have e := alloc_new wr (.cells (rulC r (.slice ao m c)).toArray 79)
    show (wr.alloc (.cells (rulC r (.slice ao m c)).toArray 79)).cell? ⟨wr.heap.size, 6, none⟩ = _
    unfold World.cell?
    simp only
    rw [e]
    rfl
   have hfd := fnx_kept hfn (below_kept b1d)
   have HCL := hide (clone_flg (w := (wr.alloc (.cells (rulC r (.slice ao m c)).toArray 79)).drew) (fnx_own hfd) (enc_one _) (by have := (unhide HSD).nx r (List.mem_of_getElem? hr); unfold Sd at this; omega))
   have HST : Hid (∀ w3 u, w3.ownsRow (wr.alloc (.cells (rulC r (.slice ao m c)).toArray 79)).drew.heap.size 36 1 u r.next.length (r.next.map So.encF) → Below (wr.alloc (.cells (rulC r (.slice ao m c)).toArray 79)).drew.heap.size (wr.alloc (.cells (rulC r (.slice ao m c)).toArray 79)).drew w3 →
     ∀ W', W' = w3.setCell ⟨gu, j * 7 + 6, none⟩ u → ∃ nv'', XS rs ab w W' F vr va vc (.slice (some ⟨gu, 0, none⟩) n cu') ∧ RepR w.heap.size W' F vr ∧ AliR w.heap.size W' F va av F.aliases.length ∧ ClsR w.heap.size W' F vc ∧ RulR w.heap.size W' F (.slice (some ⟨gu, 0, none⟩) n cu') nv'' (j + 1)) := by
    intro w3 u o3 b3 W' hW
    have bb : Below wr.heap.size wr w3 := b1d.trans (b3.mono b1d.size)
    have hn0 := hX.low.size
    have kq : Kq ([] : List TypeId) noM wr w3 := Kq.below bb
    have h4' := h4.kq kq (by simp) (by simp)
    have hu : FNx w.heap.size w3 u r.next := (own_fnx o3).low (Nat.le_trans hn0 b1d.size)
    rw [← unhide HN] at h4'
    obtain ⟨r1, r2, r3⟩ := h4'.put hr hW hu
    rw [unhide HN] at r1
    have hX' := hX.kq kq (by simp) (bb.mono hn0)
    have l2 : Below w.heap.size w3 W' := by rw [hW]; exact (Below.refl _ _).setCell (p := ⟨gu, j * 7 + 6, none⟩) r3 _
    exact ⟨_, hX'.kq r2 (by decide) l2, (h1.kq kq (by simp)).kq r2 (by decide), (h2.kq kq (by simp) (by simp)).kq r2 (by decide) (by decide), (h3.kq kq (by simp)).kq r2 (by decide), r1⟩
   have HRW : Hid (∀ w3, Below (wr.alloc (.cells (rulC r (.slice ao m c)).toArray 79)).drew.heap.size (wr.alloc (.cells (rulC r (.slice ao m c)).toArray 79)).drew w3 → w3.cell? ⟨ab, 12, none⟩ = some (.slice (some ⟨gu, 0, none⟩) n cu') ∧ w3.cell? ⟨wr.heap.size, 6, none⟩ = some (.slice ao m c) ∧ w3.cell? ⟨gu, j * 7 + 6, none⟩ = some (.slice ao m c) ∧ w3.frozen? ⟨gu, j * 7 + 6, none⟩ = false ∧ gu < w3.heap.size) := by
    intro w3 b3
    have bb : Below wr.heap.size wr w3 := b1d.trans (b3.mono b1d.size)
    obtain ⟨cur, hcur, -⟩ := own_blk h41
    have hcur3 := (below_kept bb _ _ hcur).trans hcur
    refine ⟨(bb.cell (p := ⟨ab, 12, none⟩) habl).trans c12, (b3.cell (p := ⟨wr.heap.size, 6, none⟩) (World.block_lt_of_cell? _ _ t76)).trans t76, (bb.cell (p := ⟨gu, j * 7 + 6, none⟩) hgu).trans q6, by simp [World.frozen?, hcur3], lt_some hcur3⟩
   have HQ := hide (And.intro h12a t76)
   clear HR hX h1 h2 h3 h4 h41 hv hr hfn hcu q hfd b1 b1d h12a t76
   unfold rulC at HCL HST HRW HQ
   go_wp2
   rename_i K0 hK0
   have HK0 := hide hK0
   clear hK0
   refine Lst.region_last (ops1 := ?ops1) (o := ?op1) (S := fun w' => w'.cell? ⟨ab, 12, none⟩ = some (.slice (some ⟨gu, 0, none⟩) n cu') ∧ w'.cell? ⟨wr.heap.size, 6, none⟩ = some (.slice ao m c)) (by kernel_rfl) ?hp1 ?hb1 ?hk1 (by exact unhide HQ) ?hn1
   case hp1 => (simp only [List.pop_toArray, List.dropLast_cons_cons, List.dropLast_singleton]; rfl)
   case hb1 => (simp only [List.back?_toArray, List.getLast?_cons_cons, List.getLast?_singleton]; rfl)
   case hk1 => kernel_rfl
   intro hHeld
   refine Lst.tk 0 ?_
   (try simp only [Act.put, List.setIfInBounds_toArray])
   refine Lst.tk 1 ?_
   (try simp only [Act.put])
   refine Lst.tk 2 ?_
   (try simp only [Act.put])
   refine Lst.tk 3 ?_
   (try simp only [Act.put])
   refine Lst.tk 4 ?_
   (try simp only [Act.put])
   refine wpAnyH_ready (rs := [5]) (by kernel_rfl) (by simp) ?_
   refine AllReadyH.cons (by simp only [List.getElem?_toArray, List.getElem?_cons_succ, List.getElem?_cons_zero]; rfl) (fun K hK => ?_) AllReadyH.nil
   go_simp
   go_wp2_with (go_at_call 40; refine (unhide HCL).mono ?_; rintro e w3 ⟨u, rfl, o3, b3⟩; obtain ⟨x1, x2, x3, x4, x5⟩ := unhide HRW _ b3; have HNX := hide (unhide HST _ _ o3 b3); obtain ⟨au, cu2, rfl⟩ := own_slice o3; clear o3 b3)
   refine hK.out _ _ (⟨x1, x2⟩) (fun hh3 => ?_)
   clear hK K
   (try simp only [Act.put, List.setIfInBounds_toArray, List.set_cons_zero, List.set_cons_succ])
   refine Lst.tk 6 ?_
   (try simp only [Act.put, List.setIfInBounds_toArray])
   refine Lst.tk 7 ?_
   (try simp only [Act.put])
   refine wpAnyH_done (by kernel_rfl) ?_ _
   show Oper.wp _ _ _ _ _ _
   go_simp
   apply unhide HK0
   go_wp2
   go_roundw
   case rel => exact ⟨j + 1, by go_num, by omega, unhide HNX _ rfl⟩
   case measure => simp [intOf]; omega
  ·obtain rfl : j = n := by omega
   have hltz : ¬ (j : Int) < (j : Int) := by omega
   obtain ⟨nv', hX, h1, h2, h3, h4⟩ := unhide HR
   have HGO := hide (unhide HEND wr nv' hX h1 h2 h3 (by rw [unhide HN]; exact h4))
   clear HR hX h1 h2 h3 h4 HEND HN
   go_wp2
   apply unhide HKE
   exact unhide HGO _ _ _ _ _ _ _ _ _ _ _ _ _ _ _ _ _ _ _ _ _ _ _ _ _ _ _ _ _ _ _ _ _ _ _ _ _ _ _ _ _ _ _ _ _ _ _ _ _ _ _ _ _ _ _ _ _ _ _ _ _ _
end Af
end Go.Proofs.YtidhbhdcoanfcaaGreatDoor
