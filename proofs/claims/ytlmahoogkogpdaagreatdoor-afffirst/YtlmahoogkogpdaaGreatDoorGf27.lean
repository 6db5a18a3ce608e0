/- The reader: what a heading's key does, plain; a keyword is counted; which function reads it. -/
import Derived.Test.YtlmahoogkogpdaaGreatDoorGf25
import Derived.Test.YtlmahoogkogpdaaGreatDoorGf26
import Derived.Test.YtlmahoogkogpdaaGreatDoorGf23
import Derived.Laws.EntriesVeiled
namespace Go.Proofs.YtlmahoogkogpdaaGreatDoor
open Go.RowKit
namespace Af
open RowB
/-! plain: what stays -/
theorem times_rel {f : Rdr → Except Er Rdr} {rel : Rdr → Rdr → Prop} (rf : ∀ R, rel R R) (tr : ∀ a b c, rel a b → rel b c → rel a c) (hf : ∀ R R', f R = .ok R' → rel R R') : ∀ (n : Nat) (R R' : Rdr), times f n R = .ok R' → rel R R'
  | 0, R, R', h => by
    simp only [times, Except.ok.injEq] at h
    subst h
    exact rf _
  | n + 1, R, R', h => by
    rw [times] at h
    cases hq : f R with
    | error e => rw [hq] at h; cases h
    | ok R1 => rw [hq] at h; exact tr _ _ _ (hf _ _ hq) (times_rel rf tr hf n R1 R' h)
structure Mo (R R' : Rdr) : Prop where
  heads : R'.heads = R.heads
  rows : R'.rows.length ≤ R.rows.length
  cls : R'.file.classes = R.file.classes
theorem Mo.refl (R : Rdr) : Mo R R := ⟨rfl, Nat.le_refl _, rfl⟩
theorem Mo.trans {a b c : Rdr} (h : Mo a b) (k : Mo b c) : Mo a c := ⟨k.heads.trans h.heads, Nat.le_trans k.rows h.rows, k.cls.trans h.cls⟩
theorem grow_mo {R R1 : Rdr} {beg row : List Bs} (h : grow R beg = .ok (row, R1)) : Mo R R1 ∧ R1.file = R.file := by
  obtain ⟨l, t, h1, h2⟩ := grow_fld h
  subst h2
  exact ⟨⟨rfl, by rw [h1]; simp, rfl⟩, rfl⟩
theorem repStep_mo {key : Bs} {R R' : Rdr} (h : repStep key R = .ok R') : Mo R R' ∧ R'.file.aliases = R.file.aliases := by
  unfold repStep at h
  split at h
  · cases h
  · rename_i row R1 hg
    obtain ⟨m, e⟩ := grow_mo hg
    split at h
    · cases h
    · injection h with h
      subst h
      exact ⟨⟨m.heads, m.rows, m.cls⟩, by rw [e]⟩
theorem aliStep_mo {key : Bs} {R R' : Rdr} (h : aliStep key R = .ok R') : Mo R R' ∧ R'.file.reps = R.file.reps := by
  unfold aliStep at h
  split at h
  · cases h
  · rename_i row R1 hg
    obtain ⟨m, e⟩ := grow_mo hg
    split at h
    · cases h
    · injection h with h
      subst h
      exact ⟨⟨m.heads, m.rows, m.cls⟩, by rw [e]⟩
theorem rulStep_mo {beg : List Bs} {c : Cls} {R R' : Rdr} (h : rulStep beg c R = .ok R') : Mo R R' ∧ R'.file.reps = R.file.reps ∧ R'.file.aliases = R.file.aliases := by
  unfold rulStep at h
  split at h
  · cases h
  · rename_i row R1 hg
    obtain ⟨m, e⟩ := grow_mo hg
    split at h
    · cases h
    · injection h with h
      subst h
      exact ⟨⟨m.heads, m.rows, m.cls⟩, by rw [e], by rw [e]⟩
/-- what a key does -/
structure Kd (R R' : Rdr) (k : Key) : Prop where
  heads : R'.heads = R.heads
  rows : R'.rows.length ≤ R.rows.length
  cls : R'.file.classes.length ≤ R.file.classes.length + 1
  reps : k ≠ .reps → R'.file.reps = R.file.reps
  alis : k ≠ .aliases → R'.file.aliases = R.file.aliases
theorem doKey_kd {R R' : Rdr} {h : List Bs} {k : Key} (hk : doKey R h k = .ok R') : Kd R R' k := by
  cases k with
  | kind =>
    simp only [doKey, doKind] at hk
    repeat' split at hk
    all_goals first | (cases hk; done) | (injection hk with hk; subst hk; exact ⟨rfl, Nat.le_refl _, Nat.le_succ _, fun _ => rfl, fun _ => rfl⟩)
  | charset =>
    simp only [doKey, doCharset] at hk
    split at hk
    · injection hk with hk; subst hk; exact ⟨rfl, Nat.le_refl _, Nat.le_succ _, fun _ => rfl, fun _ => rfl⟩
    · cases hk
  | letters =>
    simp only [doKey, doLetters] at hk
    split at hk
    · injection hk with hk; subst hk; exact ⟨rfl, Nat.le_refl _, Nat.le_succ _, fun _ => rfl, fun _ => rfl⟩
    · cases hk
  | special i =>
    simp only [doKey, doSpecial] at hk
    split at hk
    · cases hk
    · injection hk with hk; subst hk; exact ⟨rfl, Nat.le_refl _, Nat.le_succ _, fun _ => rfl, fun _ => rfl⟩
  | least =>
    simp only [doKey, doLeast] at hk
    repeat' split at hk
    all_goals first | (cases hk; done) | (injection hk with hk; subst hk; exact ⟨rfl, Nat.le_refl _, Nat.le_succ _, fun _ => rfl, fun _ => rfl⟩)
  | reps =>
    simp only [doKey, doReps] at hk
    split at hk
    · cases hk
    · have m := times_rel (rel := fun R R' => Mo R R' ∧ R'.file.aliases = R.file.aliases) (fun R => ⟨Mo.refl R, rfl⟩) (fun a b c x y => ⟨x.1.trans y.1, y.2.trans x.2⟩) (fun R R' q => repStep_mo q) _ _ _ hk
      exact ⟨m.1.heads, m.1.rows, by rw [m.1.cls]; exact Nat.le_succ _, fun x => absurd rfl x, fun _ => m.2⟩
  | aliases =>
    simp only [doKey, doAliases] at hk
    split at hk
    · cases hk
    · split at hk
      · cases hk
      · have m := times_rel (rel := fun R R' => Mo R R' ∧ R'.file.reps = R.file.reps) (fun R => ⟨Mo.refl R, rfl⟩) (fun a b c x y => ⟨x.1.trans y.1, y.2.trans x.2⟩) (fun R R' q => aliStep_mo q) _ _ _ hk
        exact ⟨m.1.heads, m.1.rows, by rw [m.1.cls]; exact Nat.le_succ _, fun _ => m.2, fun x => absurd rfl x⟩
  | cls kk =>
    simp only [doKey, doClass] at hk
    split at hk
    · cases hk
    · split at hk
      · cases hk
      · split at hk
        · cases hk
        · split at hk
          · cases hk
          · have m := times_rel (rel := fun R R' => Mo R R' ∧ R'.file.reps = R.file.reps ∧ R'.file.aliases = R.file.aliases) (fun R => ⟨Mo.refl R, rfl, rfl⟩) (fun a b c x y => ⟨x.1.trans y.1, y.2.1.trans x.2.1, y.2.2.trans x.2.2⟩) (fun R R' q => rulStep_mo q) _ _ _ hk
            exact ⟨m.1.heads, m.1.rows, by rw [m.1.cls]; simp, fun _ => m.2.1, fun _ => m.2.2⟩
/-- what holds of a reader between two headings -/
structure Inv (R : Rdr) : Prop where
  cls : R.file.classes.length ≤ R.heads.length
  few : R.heads.length + R.rows.length ≤ 65536
  reps : [82, 69, 80] ∉ R.heads → R.file.reps = []
  alis : [65, 70] ∉ R.heads → R.file.aliases = []
theorem kw_reps {s : Bs} {k : Kw} (h : kwOf s = some k) (hk : k.key = .reps) : s = [82, 69, 80] ∧ k.again = false ∧ k.fields = 2 := by
  unfold kwOf at h
  obtain ⟨p, hp, rfl⟩ := Option.map_eq_some_iff.1 h
  have hm := List.mem_of_find?_eq_some hp
  have hs : p.1 = s := by simpa using List.find?_some hp
  subst hs
  simp [kws] at hm
  rcases hm with rfl | rfl | rfl | rfl | rfl | rfl | rfl | rfl | rfl | rfl | rfl | rfl | rfl <;> first | (cases hk; done) | exact ⟨rfl, rfl, rfl⟩
theorem kw_alis {s : Bs} {k : Kw} (h : kwOf s = some k) (hk : k.key = .aliases) : s = [65, 70] ∧ k.again = false ∧ k.fields = 2 := by
  unfold kwOf at h
  obtain ⟨p, hp, rfl⟩ := Option.map_eq_some_iff.1 h
  have hm := List.mem_of_find?_eq_some hp
  have hs : p.1 = s := by simpa using List.find?_some hp
  subst hs
  simp [kws] at hm
  rcases hm with rfl | rfl | rfl | rfl | rfl | rfl | rfl | rfl | rfl | rfl | rfl | rfl | rfl <;> first | (cases hk; done) | exact ⟨rfl, rfl, rfl⟩
theorem heading_inv {R R' : Rdr} {l : Nat} {hd : List Bs} {t : List (Nat × List Bs)} (hi : Inv R) (hr : R.rows = (l, hd) :: t) (h : heading { R with rows := t } l hd = .ok R') : Inv R' ∧ R'.rows.length ≤ t.length := by
  unfold heading at h
  split at h
  · cases h
  · rename_i k hk
    split at h
    · cases h
    · split at h
      · cases h
      · rename_i hag
        split at h
        · cases h
        · rename_i R2 hd2
          injection h with h
          subst h
          have d := doKey_kd hd2
          have hl := hi.few
          have hc := hi.cls
          rw [hr, List.length_cons] at hl
          have e1 : R2.heads = R.heads := d.heads
          have e2 : R2.rows.length ≤ t.length := d.rows
          have e3 : R2.file.classes.length ≤ R.file.classes.length + 1 := d.cls
          refine ⟨⟨?_, ?_, fun hn => ?_, fun hn => ?_⟩, e2⟩
          · simp only [List.length_append, List.length_singleton, e1]; omega
          · simp only [List.length_append, List.length_singleton, e1]; omega
          · simp only [List.mem_append, List.mem_singleton, not_or, e1] at hn
            have : k.key ≠ .reps := fun q => hn.2 (kw_reps hk q).1.symm
            exact (d.reps this).trans (hi.reps hn.1)
          · simp only [List.mem_append, List.mem_singleton, not_or, e1] at hn
            have : k.key ≠ .aliases := fun q => hn.2 (kw_alis hk q).1.symm
            exact (d.alis this).trans (hi.alis hn.1)
/-! which function reads it -/
def fnOf : Key → FuncId
  | .kind => 52
  | .charset => 53
  | .letters => 54
  | .special _ => 55
  | .least => 56
  | .reps => 57
  | .aliases => 58
  | .cls _ => 59
def whOf : Key → Int
  | .special i => i
  | .cls k => k
  | _ => 0
def kval (k : Kw) : Value := kwV k.fields k.again (fnOf k.key) (whOf k.key)
theorem kw_table : kwL13 = kws.map fun p => (p.1, kval p.2) := by rfl
theorem kwF_of (s : Bs) : kwF kwL13 (.string s) = (kwOf s).map kval := by
  show (kwL13.find? fun p => p.1 == s).map (·.2) = _
  rw [kw_table, List.find?_map]
  unfold kwOf
  simp only [Option.map_map]
  rfl
theorem ent_fn (k : Key) (x y z : Value) (W : World) : Sem.run Tryz.prog (callFunc (fnOf k) #[x, y, z]) W = .ok (.enter (fnOf k) #[x, y, z]) W := by
  cases k <;> kernel_rfl
/-- a key's function does what the key does -/
theorem dispatch {B rb : Nat} {R : Rdr} {P : Pts} {w : World} {s : Bs} {k : Kw} (hk : kwOf s = some k) (h : RAt B w rb R P) (hM : Mx B w) (hd : List Bs) (hv : Value) (hrow : StrRow B w hv (hd.map Fld.str)) (hlen : hd.length = k.fields) (hf : ∀ f ∈ hd, f.length ≤ 65536)
    (hcn : R.file.classes.length ≤ 65536) (hre : k.key = .reps → R.file.reps = []) (hal : k.key = .aliases → R.file.aliases = []) :
    Calls Tryz.prog (fnOf k.key) #[ptr rb, hv, .int .i64 (whOf k.key)] w (Res B rb P w (doKey R hd k.key)) := by
  unfold kwOf at hk
  obtain ⟨p, hp, rfl⟩ := Option.map_eq_some_iff.1 hk
  have hm := List.mem_of_find?_eq_some hp
  simp [kws] at hm
  rcases hm with rfl | rfl | rfl | rfl | rfl | rfl | rfl | rfl | rfl | rfl | rfl | rfl | rfl
  · exact readKind_any h _ hd hv hrow hlen
  · exact readCharset_any h _ hd hv hrow hlen hf
  · exact readTry_any h _ hd hv hrow hlen hf
  · exact readSpecial_0 h hd hv hrow hlen hf
  · exact readSpecial_1 h hd hv hrow hlen hf
  · exact readSpecial_2 h hd hv hrow hlen hf
  · exact readSpecial_3 h hd hv hrow hlen hf
  · exact readSpecial_4 h hd hv hrow hlen hf
  · exact readLeast_any h _ hd hv hrow hlen hf
  · exact readReps_any h _ hd hv hrow hlen hf (hre rfl)
  · exact readAliases_any h hM _ hd hv hrow hlen hf (hal rfl)
  · exact readClass_any h hM 1 hd hv hrow hlen hf hcn
  · exact readClass_any h hM 2 hd hv hrow hlen hf hcn
/-! a keyword is counted -/
theorem cnt_getD (H : List Bs) (s : Bs) : (cnt H (.string s)).getD (.int .i64 0) = .int .i64 (H.count s : Nat) := by
  by_cases h : s ∈ H
  · rw [cnt_in h]; rfl
  · rw [cnt_out h, List.count_eq_zero.2 h]; rfl
theorem RAt.head {B rb : Nat} {R : Rdr} {P : Pts} {w : World} (h : RAt B w rb R P) (key : Bs) (hk : key.length ≤ 65536) (hlt : R.heads.length < 65536) :
    (Instr.lookup 62 (.map (some P.hm)) (.string (Fld.str key)) false).run Tryz.prog w = .ok (.int .i64 (R.heads.count key : Nat)) w ∧
    ∃ w', (Instr.mapUpdate 62 (.map (some P.hm)) (.string (Fld.str key)) (.int .i64 ((R.heads.count key : Nat) + 1))).run Tryz.prog w = .ok () w' ∧ RAt B w' rb { R with heads := R.heads ++ [key] } P ∧ Kt B P.pm P.hm w w' := by
  obtain ⟨n, hn, hm⟩ := h.hds
  have hsz : (Fld.str key).size ≤ maxLen := by rw [fstr_wd, Wd.str_size]; unfold maxLen; omega
  have e1 : (Fld.str key).data.toList = key := by simp [Fld.str]
  have hkey := key9 hsz
  rw [e1] at hkey
  have hlook := hm.look law9 Tryz.underlying62 (zero3 w) hkey
  rw [cnt_getD] at hlook
  refine ⟨hlook, ?_⟩
  obtain ⟨w', hr, hput, hg⟩ := hm.put (v := .int .i64 ((R.heads.count key : Nat) + 1)) law9 Tryz.underlying62 (by unfold maxLen; omega) hkey trivial
  obtain ⟨es, c, ee⟩ := hm.isMap
  have kp : Kp P.hm w w' := Kp.of_grown hg
  have kq : Kq [] (· = P.hm) w w' := Kq.kpm kp ee rfl
  have low : Below B w w' := (Below.refl B w).grown hg (Nat.le_of_lt (Nat.lt_of_le_of_lt h.hmB hm.lt)) (fun k hk => by injection hk with hk; rw [← hk]; exact h.hmB)
  have hf : FAt B w' R.file P := h.file.kq kq rfl rfl ((kq.cells _ _ _ _ h.file.fil (by simp)).trans h.file.fil) (.inr ⟨rfl, fun e => h.hne e.symm⟩) (.inr ⟨rfl, rfl, by simp⟩) (.inr ⟨rfl, rfl, rfl, by simp⟩) (.inr ⟨rfl, rfl, by simp⟩) (.inr ⟨rfl, rfl, rfl, by simp⟩) (by simp) h.file.ok
  refine ⟨w', hr, ⟨h.rbB, h.hmB, (kq.cells _ _ _ _ h.rdr (by simp)).trans h.rdr, rows_kept h.rows (fun g cur q => kq.cells g cur _ (0, 0) q (by simp)) (fun g cur q => kq.cells g cur _ (0, 0) q (by simp)), ⟨n + 1, by simp; omega, hput _ ?_ ?_⟩, h.hne, own_kq h.lns kq (by simp), hf, ⟨by simp; omega, h.few.2.1, h.few.2.2⟩, h.rok⟩, kq.kt low (by simp) (fun g e => .inr e)⟩
  · rw [cnt_in (by simp)]
    simp [List.count_append]
  · intro x hx
    cases x with
    | string s =>
      have hne : s ≠ key := fun e => hx (by rw [e])
      simp only [cnt, List.mem_append, List.mem_singleton, hne, or_false, List.count_append]
      rw [List.count_singleton]
      have : (key == s) = false := by simpa using fun e : key = s => hne e.symm
      simp [this]
    | _ => rfl
end Af
end Go.Proofs.YtlmahoogkogpdaaGreatDoor
/- The reader: a heading. -/
namespace Go.Proofs.YtlmahoogkogpdaaGreatDoor
open Go.RowKit
namespace Af
open RowB
noncomputable def hdg6 : Code := dropSeq 6 (Tryz.f37.body.getD .skip)
def kcells (k : Kw) : Array Value := #[.int .i64 k.fields, .bool k.again, .func (.func (fnOf k.key)) #[] #[], .int .i64 (whOf k.key)]
def hres (s : Bs) (X : Except Er Rdr) : Except Er Rdr := match X with
  | .error e => .error e
  | .ok R' => .ok { R' with heads := R'.heads ++ [s] }
set_option maxRecDepth 100000 in
set_option maxHeartbeats 4000000 in
theorem hdg_tail {B rb kb g m cap : Nat} {R : Rdr} {P P0 : Pts} {w V : World} {k : Kw} {hd : List Bs} (hk : kwOf (fld hd 0) = some k) (hL : LP B rb w V R P P0 (.slice (some ⟨g, 0, none⟩) m cap) hd) (hM : Mx B w) (hB : V.heap[kb]? = some (.cells (kcells k) 111 (0, 0))) (hlen : hd.length = k.fields) (hf : ∀ f ∈ hd, f.length ≤ 65536)
    (hcn : R.file.classes.length ≤ 65536) (hre : k.key = .reps → R.file.reps = []) (hal : k.key = .aliases → R.file.aliases = []) (hhd : R.heads.length < 65536) (h0 : 0 < hd.length) (u1 u2 u3 u7 u8 u9 u10 u11 u12 u13 u14 u15 u16 u17 u18 u19 u20 u21 u22 u23 u24 u25 u26 u27 u28 u29 u30 u31 u32 u33 u34 u35 u36 u37 u38 u39 u40 u41 u42 u43 u44 u45 u46 u47 u48 u49 u50 u51 u52 u53 : Value) :
    Code.wp Tryz.prog hdg6 (bodyPost Tryz.prog Tryz.f37 (Res B rb P0 w (hres (fld hd 0) (doKey R hd k.key)))) ⟨#[ptr rb, u1, u2, u3, .slice (some ⟨g, 0, none⟩) m cap, .string (Fld.str (fld hd 0)), .pointer (some ⟨kb, 0, none⟩), u7, u8, u9, u10, u11, u12, u13, u14, u15, u16, u17, u18, u19, u20, u21, u22, u23, u24, u25, u26, u27, u28, u29, u30, u31, u32, u33, u34, u35, u36, u37, u38, u39, u40, u41, u42, u43, u44, u45, u46, u47, u48, u49, u50, u51, u52, u53], []⟩ V := by
  conv => arg 2; whnf
  have HD := hide (dispatch hk hL.at_ (hM.low hL.kt.low) hd _ hL.row hlen hf hcn hre hal)
  have hent := ent_fn k.key
  have k2 : V.cell? ⟨kb, 2, none⟩ = some (.func (.func (fnOf k.key)) #[] #[]) := by simp [World.cell?, hB, kcells]
  have k3 : V.cell? ⟨kb, 3, none⟩ = some (.int .i64 (whOf k.key)) := by simp [World.cell?, hB, kcells]
  have HL := hide hL
  have HF := hide (hf _ (List.mem_of_getElem? (fld_get h0)))
  have HH := hide hhd
  clear hk hL hM hB hlen hf hcn hre hal h0 hhd
  cases hx : doKey R hd k.key with
  | error er =>
    have HN := hide (callNo (unhide HD) hx)
    clear HD
    generalize fnOf k.key = fn at *
    generalize whOf k.key = wh at *
    go_wp2_with fail
    refine (unhide HN).mono ?_
    rintro e w2 ⟨rfl, kt⟩
    refine ⟨rfl, Res.no rfl ((unhide HL).kt.trans ?_)⟩
    rw [← (unhide HL).eq.2.1, ← (unhide HL).eq.2.2]
    exact kt
  | ok R' =>
    have HO := hide (callOk (unhide HD) hx)
    have HHE := hide (doKey_kd hx).heads
    have HX : Hid (hres (fld hd 0) (.ok R') = .ok { R' with heads := R'.heads ++ [fld hd 0] }) := rfl
    clear HD hx
    generalize hres (fld hd 0) (.ok R') = X at *
    generalize fnOf k.key = fn at *
    generalize whOf k.key = wh at *
    go_wp2_with fail
    refine (unhide HO).mono ?_
    rintro e w2 ⟨rfl, kt, P', hR', e1, e2, e3⟩
    obtain ⟨-, -, -, -, d4, -, -⟩ := hR'.cells
    obtain ⟨hlk, w3, hmu, hR3, kt3⟩ := hR'.head (fld hd 0) (unhide HF) (by rw [unhide HHE]; exact unhide HH)
    have HR3 := hide hR3
    have HKT : Hid (Kt B P0.pm P0.hm w w3) := by
      refine (unhide HL).kt.trans ?_
      rw [← (unhide HL).eq.2.1, ← (unhide HL).eq.2.2]
      rw [e2, e3] at kt3
      exact kt.trans kt3
    have HE := hide (And.intro (e1.trans (unhide HL).eq.1) (And.intro (e2.trans (unhide HL).eq.2.1) (e3.trans (unhide HL).eq.2.2)))
    clear hR' hR3 kt3 kt e1 e2 e3 k2 k3 hent
    have hcl : (R'.heads.count (fld hd 0) : Nat) ≤ 65536 := by
      have := List.count_le_length (a := fld hd 0) (l := R'.heads)
      rw [unhide HHE] at this ⊢
      have := unhide HH
      omega
    generalize List.count (fld hd 0) R'.heads = cn at *
    generalize Fld.str (fld hd 0) = r0 at *
    go_wp2
    go_end0
    exact Res.yes (unhide HX) (unhide HKT) (unhide HR3) (unhide HE).1 (unhide HE).2.1 (unhide HE).2.2
end Af
end Go.Proofs.YtlmahoogkogpdaaGreatDoor
/- The reader: a heading, from its row on. -/
namespace Go.Proofs.YtlmahoogkogpdaaGreatDoor
open Go.RowKit
namespace Af
open RowB
def zkw : Array Value := #[.int .i64 0, .bool false, .nilFunc, .int .i64 0]
theorem zeroK (w : World) : (zeroValue 111).run Tryz.prog w = .ok (.agg zkw) w := by kernel_rfl
theorem heading_none {R : Rdr} {l : Nat} {hd : List Bs} (h : kwOf (fld hd 0) = none) : heading R l hd = .error (l, 110) := by unfold heading; rw [h]
theorem heading_len {R : Rdr} {l : Nat} {hd : List Bs} {k : Kw} (h : kwOf (fld hd 0) = some k) (h2 : hd.length ≠ k.fields) : heading R l hd = .error (l, 111) := by unfold heading; rw [h]; simp [h2]
theorem heading_two {R : Rdr} {l : Nat} {hd : List Bs} {k : Kw} (h : kwOf (fld hd 0) = some k) (h2 : hd.length = k.fields) (h3 : k.again = false) (h4 : fld hd 0 ∈ R.heads) : heading R l hd = .error (l, 112) := by unfold heading; rw [h]; simp [h2, h3, h4]
theorem heading_do {R : Rdr} {l : Nat} {hd : List Bs} {k : Kw} (h : kwOf (fld hd 0) = some k) (h2 : hd.length = k.fields) (h3 : ¬ (k.again = false ∧ fld hd 0 ∈ R.heads)) : heading R l hd = hres (fld hd 0) (doKey { R with line := l } hd k.key) := by
  unfold heading hres
  rw [h]
  simp only
  rw [if_neg (by omega), if_neg h3]
  cases doKey { R with line := l } hd k.key <;> rfl
set_option maxRecDepth 100000 in
set_option maxHeartbeats 4000000 in
theorem readHeading_any {B rb tb nt l : Nat} {R : Rdr} {P : Pts} {w : World} {hd : List Bs} {t : List (Nat × List Bs)} (h : RAt B w rb R P) (hM : Mx B w) (hr : R.rows = (l, hd) :: t) (hT : MapF w 9 tb nt (kwF kwL13)) (hi : Inv R) :
    Calls Tryz.prog 37 #[ptr rb, .map (some tb)] w (Res B rb P w (heading { R with rows := t } l hd)) := by
  have hrk := h.rok (l, hd) (by rw [hr]; simp)
  have h0 : 0 < hd.length := List.length_pos_iff.2 hrk.2.1
  have hf0 := hrk.2.2 _ (List.mem_of_getElem? (fld_get h0))
  have e1 : (Fld.str (fld hd 0)).data.toList = fld hd 0 := by simp [Fld.str]
  have hsz : (Fld.str (fld hd 0)).size ≤ 65536 := by rw [fstr_wd, Wd.str_size]; omega
  have HN := hide (nextRow_any h hr)
  have HT : Hid (∀ w1, Kp rb w w1 → ∀ W, W.heap[tb]? = w1.heap[tb]? → (Instr.lookup 89 (.map (some tb)) (.string (Fld.str (fld hd 0))) true).run Tryz.prog W = .ok (.tuple #[((kwOf (fld hd 0)).map kval).getD (.agg zkw), .bool (kwOf (fld hd 0)).isSome]) W) := by
    intro w1 k1 W hW
    have hm := (k1.keptM h.rdr hT).kept hW
    have hkey := key9 (s := Fld.str (fld hd 0)) (by unfold maxLen; omega)
    rw [e1] at hkey
    have := hm.look2 law9 Tryz.underlying89 (zeroK W) hkey
    rw [kwF_of] at this
    rw [this]
    cases kwOf (fld hd 0) <;> rfl
  have HLP : Hid (∀ w1 fv rv, StrRow B w1 fv (hd.map Fld.str) → RAt B w1 rb { R with rows := t, line := l } { P with rv := rv } → Below B w w1 → Kp rb w w1 → LP B rb w w1 { R with rows := t, line := l } { P with rv := rv } P fv hd) := fun w1 fv rv s1 r1 l1 k1 => ⟨r1, h.kt k1 l1, s1, rfl, rfl, rfl⟩
  have HM := hide hM
  have HR0 := hide hrk
  have HI := hide hi
  have HRR := hide hr
  have H0 := hide h0
  have HE1 := hide e1
  have HSZ := hide hsz
  clear h hM hr hT hi hrk e1 hf0 hsz
  have hpos : (0 : Int) < (hd.length : Int) := by omega
  cases hk : kwOf (fld hd 0) with
  | none =>
    have HX := hide (heading_none (R := { R with rows := t }) (l := l) hk)
    rw [hk] at HT
    clear hk
    go_enter Tryz.func37, Tryz.ntmps37
    go_wp2_with (go_at_call 60; refine (unhide HN).mono ?_; rintro e w1 ⟨fv, rv, rfl, s1, r1, l1, k1⟩; have HL1 := hide (unhide HLP w1 fv rv s1 r1 l1 k1); have hlk : (Instr.lookup 89 (.map (some tb)) (.string (Fld.str (fld hd 0))) true).run Tryz.prog w1 = .ok (.tuple #[.agg #[.int .i64 0, .bool false, .nilFunc, .int .i64 0], .bool false]) w1 := unhide HT w1 k1 w1 rfl; obtain ⟨g, cap, rfl, hg, x1, x2, -, hc⟩ := str_cells s1; have q0 := hc 0 _ (fld_get (unhide H0)); clear s1 r1 l1 k1 hc HN)
    have bA := (Below.refl w1.heap.size w1).alloc (Nat.le_refl _) (.cells #[.int .i64 0, .bool false, .nilFunc, .int .i64 0] 111)
    refine (leaveIf_no rb l 110 _ (by decide) (by decide) ((unhide HL1).below bA).at_.cells.2.2.1).mono ?_
    rintro e w5 ⟨rfl, rfl⟩
    exact ⟨rfl, (unhide HL1).no bA (unhide HX)⟩
  | some k =>
    rw [hk] at HT
    have HK := hide hk
    by_cases hlen : hd.length = k.fields
    · have hlf : ((hd.length : Int) != (k.fields : Int)) = false := by simp [hlen]
      have HLN := hide hlen
      have HX0 := hide (fun h3 => heading_do (R := { R with rows := t }) (l := l) hk hlen h3)
      have HX2 := hide (fun h3 h4 => heading_two (R := { R with rows := t }) (l := l) hk hlen h3 h4)
      clear hk hlen
      cases HAG : k.again with
      | true =>
        have HX := hide (unhide HX0 (fun q => by rw [HAG] at q; exact absurd q.1 (by decide)))
        have HST := hide (show ∀ z : Bs, fld hd 0 = z → k.again = false → z ∉ R.heads from fun _ _ q => by rw [HAG] at q; cases q)
        clear HX0 HX2
        go_enter Tryz.func37, Tryz.ntmps37
        go_wp2_with (first | (go_at_call 60; refine (unhide HN).mono ?_; rintro e w1 ⟨fv, rv, rfl, s1, r1, l1, k1⟩; have HL1 := hide ((unhide HLP w1 fv rv s1 r1 l1 k1).below ((Below.refl _ w1).alloc (Nat.le_refl _) (.cells #[.int .i64 k.fields, .bool true, .func (.func (fnOf k.key)) #[] #[], .int .i64 (whOf k.key)] 111))); have HBL := hide (alloc_new w1 (.cells #[.int .i64 k.fields, .bool true, .func (.func (fnOf k.key)) #[] #[], .int .i64 (whOf k.key)] 111)); have hlk : (Instr.lookup 89 (.map (some tb)) (.string (Fld.str (fld hd 0))) true).run Tryz.prog w1 = .ok (.tuple #[.agg #[.int .i64 k.fields, .bool true, .func (.func (fnOf k.key)) #[] #[], .int .i64 (whOf k.key)], .bool true]) w1 := (unhide HT w1 k1 w1 rfl).trans (by simp [kval, kwV, HAG]); obtain ⟨g, cap, rfl, hg, x1, x2, -, hc⟩ := str_cells s1; have q0 := hc 0 _ (fld_get (unhide H0)); clear s1 r1 l1 k1 hc HN) | (go_at_call 61; with_reducible (show Calls _ _ #[_, _, .int .i64 110] _ _); refine (leaveIf_f _ _ _ _ rfl).mono ?_; rintro e w3 ⟨rfl, hw3⟩; subst w3) | (go_at_call 61; with_reducible (show Calls _ _ #[_, _, .int .i64 111] _ _); refine (leaveIf_f _ _ _ _ (by first | rfl | exact hlf)).mono ?_; rintro e w3 ⟨rfl, hw3⟩; subst w3))
        refine (leaveIf_f _ _ _ _ rfl).mono ?_
        rintro e w5 ⟨rfl, hw5⟩
        rename_i K3 hK3 K2 hK2
        subst w5
        apply hK2
        refine hK3 _ _ ?_
        rw [unhide HX]
        refine hdg_tail (R := { R with rows := t, line := l }) (unhide HK) (unhide HL1) (unhide HM) (by rw [unhide HBL, kcells, HAG]) (unhide HLN) (unhide HR0).2.2 ?_ ?_ ?_ ?_ (unhide H0) _ _ _ _ _ _ _ _ _ _ _ _ _ _ _ _ _ _ _ _ _ _ _ _ _ _ _ _ _ _ _ _ _ _ _ _ _ _ _ _ _ _ _ _ _ _ _ _ _ _
        · have := (unhide HI).cls
          have := (unhide HI).few
          show R.file.classes.length ≤ 65536
          omega
        · intro q
          exact (unhide HI).reps ((unhide HST) _ (kw_reps (unhide HK) q).1 (kw_reps (unhide HK) q).2.1)
        · intro q
          exact (unhide HI).alis ((unhide HST) _ (kw_alis (unhide HK) q).1 (kw_alis (unhide HK) q).2.1)
        · have := (unhide HI).few
          rw [unhide HRR, List.length_cons] at this
          show R.heads.length < 65536
          omega
      | false =>
        by_cases hst : fld hd 0 ∈ R.heads
        · have HX := hide (unhide HX2 HAG hst)
          have HSD : decide ((Fld.str (fld hd 0)).data.toList ∈ R.heads) = true := by rw [unhide HE1]; simpa using hst
          clear HX0 HX2 hst
          go_enter Tryz.func37, Tryz.ntmps37
          go_wp2_with (first | (go_at_call 60; refine (unhide HN).mono ?_; rintro e w1 ⟨fv, rv, rfl, s1, r1, l1, k1⟩; have HL1 := hide ((unhide HLP w1 fv rv s1 r1 l1 k1).below ((Below.refl _ w1).alloc (Nat.le_refl _) (.cells #[.int .i64 k.fields, .bool false, .func (.func (fnOf k.key)) #[] #[], .int .i64 (whOf k.key)] 111))); have HBL := hide (alloc_new w1 (.cells #[.int .i64 k.fields, .bool false, .func (.func (fnOf k.key)) #[] #[], .int .i64 (whOf k.key)] 111)); have hlk : (Instr.lookup 89 (.map (some tb)) (.string (Fld.str (fld hd 0))) true).run Tryz.prog w1 = .ok (.tuple #[.agg #[.int .i64 k.fields, .bool false, .func (.func (fnOf k.key)) #[] #[], .int .i64 (whOf k.key)], .bool true]) w1 := (unhide HT w1 k1 w1 rfl).trans (by simp [kval, kwV, HAG]); obtain ⟨g, cap, rfl, hg, x1, x2, -, hc⟩ := str_cells s1; have q0 := hc 0 _ (fld_get (unhide H0)); clear s1 r1 l1 k1 hc HN) | (go_at_call 61; with_reducible (show Calls _ _ #[_, _, .int .i64 110] _ _); refine (leaveIf_f _ _ _ _ rfl).mono ?_; rintro e w3 ⟨rfl, hw3⟩; subst w3) | (go_at_call 61; with_reducible (show Calls _ _ #[_, _, .int .i64 111] _ _); refine (leaveIf_f _ _ _ _ (by first | rfl | exact hlf)).mono ?_; rintro e w3 ⟨rfl, hw3⟩; subst w3) | (go_at_call 62; refine (stood_any (unhide HL1).at_ _ (unhide HSZ)).mono ?_; rintro e w3 ⟨rfl, hw3⟩; subst w3))
          refine (leaveIf_t rb l _ 112 _ (by first | rfl | exact HSD) (by decide) (by decide) (unhide HL1).at_.cells.2.2.1).mono ?_
          rintro e w5 ⟨rfl, rfl⟩
          exact ⟨rfl, (unhide HL1).no (Below.refl _ _) (unhide HX)⟩
        · have HX := hide (unhide HX0 (fun q => hst q.2))
          have HST := hide (show ∀ z : Bs, fld hd 0 = z → k.again = false → z ∉ R.heads from fun z e _ => by rw [← e]; exact hst)
          have HSD : decide ((Fld.str (fld hd 0)).data.toList ∈ R.heads) = false := by rw [unhide HE1]; simpa using hst
          clear HX0 HX2 hst
          go_enter Tryz.func37, Tryz.ntmps37
          go_wp2_with (first | (go_at_call 60; refine (unhide HN).mono ?_; rintro e w1 ⟨fv, rv, rfl, s1, r1, l1, k1⟩; have HL1 := hide ((unhide HLP w1 fv rv s1 r1 l1 k1).below ((Below.refl _ w1).alloc (Nat.le_refl _) (.cells #[.int .i64 k.fields, .bool false, .func (.func (fnOf k.key)) #[] #[], .int .i64 (whOf k.key)] 111))); have HBL := hide (alloc_new w1 (.cells #[.int .i64 k.fields, .bool false, .func (.func (fnOf k.key)) #[] #[], .int .i64 (whOf k.key)] 111)); have hlk : (Instr.lookup 89 (.map (some tb)) (.string (Fld.str (fld hd 0))) true).run Tryz.prog w1 = .ok (.tuple #[.agg #[.int .i64 k.fields, .bool false, .func (.func (fnOf k.key)) #[] #[], .int .i64 (whOf k.key)], .bool true]) w1 := (unhide HT w1 k1 w1 rfl).trans (by simp [kval, kwV, HAG]); obtain ⟨g, cap, rfl, hg, x1, x2, -, hc⟩ := str_cells s1; have q0 := hc 0 _ (fld_get (unhide H0)); clear s1 r1 l1 k1 hc HN) | (go_at_call 61; with_reducible (show Calls _ _ #[_, _, .int .i64 110] _ _); refine (leaveIf_f _ _ _ _ rfl).mono ?_; rintro e w3 ⟨rfl, hw3⟩; subst w3) | (go_at_call 61; with_reducible (show Calls _ _ #[_, _, .int .i64 111] _ _); refine (leaveIf_f _ _ _ _ (by first | rfl | exact hlf)).mono ?_; rintro e w3 ⟨rfl, hw3⟩; subst w3) | (go_at_call 62; refine (stood_any (unhide HL1).at_ _ (unhide HSZ)).mono ?_; rintro e w3 ⟨rfl, hw3⟩; subst w3))
          refine (leaveIf_f _ _ _ _ (by first | rfl | exact HSD)).mono ?_
          rintro e w5 ⟨rfl, hw5⟩
          rename_i K3 hK3 K2 hK2
          subst w5
          apply hK2
          refine hK3 _ _ ?_
          rw [unhide HX]
          refine hdg_tail (R := { R with rows := t, line := l }) (unhide HK) (unhide HL1) (unhide HM) (by rw [unhide HBL, kcells, HAG]) (unhide HLN) (unhide HR0).2.2 ?_ ?_ ?_ ?_ (unhide H0) _ _ _ _ _ _ _ _ _ _ _ _ _ _ _ _ _ _ _ _ _ _ _ _ _ _ _ _ _ _ _ _ _ _ _ _ _ _ _ _ _ _ _ _ _ _ _ _ _ _
          · have := (unhide HI).cls
            have := (unhide HI).few
            show R.file.classes.length ≤ 65536
            omega
          · intro q
            exact (unhide HI).reps ((unhide HST) _ (kw_reps (unhide HK) q).1 (kw_reps (unhide HK) q).2.1)
          · intro q
            exact (unhide HI).alis ((unhide HST) _ (kw_alis (unhide HK) q).1 (kw_alis (unhide HK) q).2.1)
          · have := (unhide HI).few
            rw [unhide HRR, List.length_cons] at this
            show R.heads.length < 65536
            omega
    · have HX := hide (heading_len (R := { R with rows := t }) (l := l) hk hlen)
      have hlf : ((hd.length : Int) != (k.fields : Int)) = true := by simp; omega
      clear hk hlen
      obtain ⟨ag, HAG⟩ : ∃ ag, k.again = ag := ⟨_, rfl⟩
      go_enter Tryz.func37, Tryz.ntmps37
      go_wp2_with (first | (go_at_call 60; refine (unhide HN).mono ?_; rintro e w1 ⟨fv, rv, rfl, s1, r1, l1, k1⟩; have HL1 := hide ((unhide HLP w1 fv rv s1 r1 l1 k1).below ((Below.refl _ w1).alloc (Nat.le_refl _) (.cells #[.int .i64 k.fields, .bool ag, .func (.func (fnOf k.key)) #[] #[], .int .i64 (whOf k.key)] 111))); have HBL := hide (alloc_new w1 (.cells #[.int .i64 k.fields, .bool ag, .func (.func (fnOf k.key)) #[] #[], .int .i64 (whOf k.key)] 111)); have hlk : (Instr.lookup 89 (.map (some tb)) (.string (Fld.str (fld hd 0))) true).run Tryz.prog w1 = .ok (.tuple #[.agg #[.int .i64 k.fields, .bool ag, .func (.func (fnOf k.key)) #[] #[], .int .i64 (whOf k.key)], .bool true]) w1 := (unhide HT w1 k1 w1 rfl).trans (by simp [kval, kwV, HAG]); obtain ⟨g, cap, rfl, hg, x1, x2, -, hc⟩ := str_cells s1; have q0 := hc 0 _ (fld_get (unhide H0)); clear s1 r1 l1 k1 hc HN) | (go_at_call 61; with_reducible (show Calls _ _ #[_, _, .int .i64 110] _ _); refine (leaveIf_f _ _ _ _ rfl).mono ?_; rintro e w3 ⟨rfl, hw3⟩; subst w3))
      refine (leaveIf_t rb l _ 111 _ (by first | rfl | exact hlf) (by decide) (by decide) (unhide HL1).at_.cells.2.2.1).mono ?_
      rintro e w5 ⟨rfl, rfl⟩
      exact ⟨rfl, (unhide HL1).no (Below.refl _ _) (unhide HX)⟩
end Af
end Go.Proofs.YtlmahoogkogpdaaGreatDoor
/- The reader: may a flag go on from a rule? -/
namespace Go.Proofs.YtlmahoogkogpdaaGreatDoor
open Go.RowKit
namespace Af
open RowB
theorem goesOn_none {F : Fil} {x s : Int} (h : findC F.classes x = none) (hs : F.specials[0]? = some s) : goesOn F x = decide (x = s) := by
  unfold goesOn
  rw [h, hs]
  by_cases e : x = s <;> simp [e]
theorem goesOn_suf {F : Fil} {x : Int} {i : Nat} {c : Cls} (h : findC F.classes x = some i) (hc : F.classes[i]? = some c) (hk : c.kind = 2) : goesOn F x = true := by
  unfold goesOn
  rw [h]
  simp [hc, hk]
theorem goesOn_pre {F : Fil} {x s : Int} {i : Nat} {c : Cls} (h : findC F.classes x = some i) (hc : F.classes[i]? = some c) (hk : c.kind ≠ 2) (hs : F.specials[0]? = some s) : goesOn F x = decide (x = s) := by
  unfold goesOn
  rw [h, hs]
  by_cases e : x = s <;> simp [hc, hk, e]
set_option maxHeartbeats 1000000 in
theorem cannot_any {B rb : Nat} {R : Rdr} {P : Pts} {w : World} (h : RAt B w rb R P) (x : Int) (h0 : 0 ≤ x) (h1 : x ≤ 65535) :
    Calls Tryz.prog 64 #[ptr rb, .int .u16 x] w fun e w' => e = .returned (.bool (!goesOn R.file x)) ∧ Below w.heap.size w w' := by
  obtain ⟨d0, -, -, -, -, -, -⟩ := h.cells
  have hb := h.lt
  obtain ⟨s0, s1, s2, s3, s4, hsp⟩ := five h.file.ok.spec
  have hs0 : R.file.specials[0]? = some s0 := by rw [hsp]; rfl
  have HC : Hid (∀ w0, Below w.heap.size w w0 → w0.cell? ⟨rb, 0, none⟩ = some (.pointer (some ⟨P.fb, 0, none⟩)) ∧ w0.cell? ⟨P.fb, 3, none⟩ = some (.int .u16 s0) ∧ rb < w0.heap.size ∧ P.fb < w0.heap.size) := fun w0 b => by
    have hh := h.below b
    have := hh.file.fil
    exact ⟨hh.cells.1, by simp [World.cell?, this, filC, hsp], hh.lt, hh.file.lt⟩
  cases hf : findC R.file.classes x with
  | none =>
    rw [goesOn_none hf hs0]
    have HCL := hide (class_none h.file x h0 h1 hf)
    unfold noC at HCL
    clear h hf hsp hs0
    go_enter Tryz.func64, Tryz.ntmps64
    go_wp2_with (go_at_call 86; refine (unhide HCL).mono ?_; rintro e w2 ⟨rfl, b2⟩; obtain ⟨f1, f2, f3, f4⟩ := unhide HC _ b2; have HB2 := hide b2; have hsz := b2.size; clear b2)
    go_ret
    refine ⟨?_, (unhide HB2).alloc hsz _⟩
    by_cases e : x = s0 <;> simp [e]
  | some i =>
    obtain ⟨c, hc, -⟩ := findC_get hf
    have HCL := hide (class_some h.file x h0 h1 hf hc)
    unfold clsV at HCL
    by_cases hk : c.kind = 2
    · rw [goesOn_suf hf hc hk]
      have hkb : (c.kind == 2) = true := by simpa using hk
      clear h hf hsp hs0 hc hk
      go_enter Tryz.func64, Tryz.ntmps64
      go_wp2_with (go_at_call 86; refine (unhide HCL).mono ?_; rintro e w2 ⟨rfl, b2⟩; obtain ⟨f1, f2, f3, f4⟩ := unhide HC _ b2; have HB2 := hide b2; have hsz := b2.size; clear b2)
      go_ret
      exact ⟨rfl, (unhide HB2).alloc hsz _⟩
    · rw [goesOn_pre hf hc hk hs0]
      have hkb : (c.kind == 2) = false := by simpa using hk
      clear h hf hsp hs0 hc hk
      go_enter Tryz.func64, Tryz.ntmps64
      go_wp2_with (go_at_call 86; refine (unhide HCL).mono ?_; rintro e w2 ⟨rfl, b2⟩; obtain ⟨f1, f2, f3, f4⟩ := unhide HC _ b2; have HB2 := hide b2; have hsz := b2.size; clear b2)
      go_ret
      refine ⟨?_, (unhide HB2).alloc hsz _⟩
      by_cases e : x = s0 <;> simp [e]
end Af
end Go.Proofs.YtlmahoogkogpdaaGreatDoor
/- The reader: a list of flags of which one cannot go on. -/
namespace Go.Proofs.YtlmahoogkogpdaaGreatDoor
open Go.RowKit
namespace Af
open RowB
set_option maxRecDepth 100000 in
set_option maxHeartbeats 2000000 in
theorem indexFunc_any {B rb : Nat} {R : Rdr} {P : Pts} {w : World} (h : RAt B w rb R P) (v : Value) (l : List Int) (hA : So.FArg w v l) (hbd : ∀ x ∈ l, 0 ≤ x ∧ x ≤ 65535) :
    Calls Tryz.prog 85 #[v, .func (.func 64) #[ptr rb] #[]] w fun e w' => (∃ q : Int, e = .returned (.int .i64 q) ∧ (decide (0 ≤ q)) = !(l.all (goesOn R.file))) ∧ Below w.heap.size w w' := by
  have HA := hide hA
  obtain ⟨ao, cap, rfl, hl1, hl2, -, hat⟩ := hA
  unfold maxLen at hl2
  rcases Nat.eq_zero_or_pos l.length with hz | hpos
  · have hl0 : l = [] := List.length_eq_zero_iff.1 hz
    rw [hz]
    subst hl0
    clear hbd HA hat hl1
    have hltz : ¬ (0 : Int) < 0 := by omega
    go_enter Tryz.func85, Tryz.ntmps85
    go_wp2
    go_loopw [8] (fun s8 wr => s8 = .int .i64 0 ∧ wr = w) (fun _ _ => 0)
    case atStart => exact ⟨rfl, rfl⟩
    case round =>
      obtain ⟨rfl, rfl⟩ := hrel
      go_wp2
      go_ret
      exact ⟨⟨_, rfl, by simp⟩, Below.refl _ _⟩
  obtain ⟨g, off, rfl, hg0, -⟩ := hat hpos
  obtain ⟨n, hn⟩ : ∃ n, l.length = n := ⟨_, rfl⟩
  have HN := hide hn
  have HBD := hide hbd
  have HG := hide (fun W (b : Below w.heap.size w W) x h0 h1 => cannot_any (h.below b) x h0 h1)
  rw [hn] at hl1 ⊢
  clear hn hbd h
  go_enter Tryz.func85, Tryz.ntmps85
  go_wp2
  go_loopw [8] (fun s8 wr => ∃ j : Nat, s8 = .int .i64 j ∧ j ≤ n ∧ Hid (Below w.heap.size w wr ∧ (l.take j).all (goesOn R.file) = true)) (fun s8 _ => n - (intOf s8).toNat)
  case atStart => exact ⟨0, rfl, Nat.zero_le _, ⟨Below.refl _ _, by simp⟩⟩
  case round =>
    obtain ⟨j, rfl, hj, HR⟩ := hrel
    by_cases hlt : j < n
    · have hltz : (j : Int) < (n : Int) := by omega
      have hj0 : 0 ≤ (j : Int) := by omega
      obtain ⟨y, hy⟩ : ∃ y, l[j]? = some y := ⟨_, List.getElem?_eq_getElem (by rw [unhide HN]; exact hlt)⟩
      obtain ⟨ao', cap', e1, -, -, -, hc⟩ := (unhide HA).below (unhide HR).1
      obtain ⟨g', off', e2, hg, hcc⟩ := hc (by rw [unhide HN]; omega)
      have hcy : wr.cell? ⟨g, off + j, none⟩ = some (So.encF y) := by
        have := hcc j y hy
        rw [e2] at e1
        injection e1 with e1 _ _
        injection e1 with e1
        injection e1 with e3 e4 _
        rw [← e3, ← e4] at this
        exact this
      clear e1 e2 hg
      obtain ⟨y0, y1⟩ := unhide HBD y (List.mem_of_getElem? hy)
      have HC := hide (unhide HG _ (unhide HR).1 y y0 y1)
      have HT : Hid ((l.take (j + 1)).all (goesOn R.file) = ((l.take j).all (goesOn R.file) && goesOn R.file y)) := by
        rw [Hid, List.take_succ_eq_append_getElem (by rw [unhide HN]; exact hlt), (List.getElem?_eq_some_iff.1 hy).2, List.all_append]
        simp
      unfold So.encF at hcy
      have HY := hide hy
      clear hc hcc hy y0 y1
      cases hgo : goesOn R.file y with
      | true =>
        rw [hgo] at HC HT
        clear hgo
        go_wp2_with (go_at_call 64; refine (unhide HC).mono ?_; rintro e w2 ⟨rfl, b2⟩; have HB2 := hide (btr (unhide HR).1 b2); clear b2)
        go_roundw
        case rel => exact ⟨j + 1, by go_num, by omega, ⟨unhide HB2, by rw [unhide HT, (unhide HR).2]; rfl⟩⟩
        case measure => simp [intOf]; omega
      | false =>
        rw [hgo] at HC
        have HAL : Hid (l.all (goesOn R.file) = false) := by
          rw [Hid, List.all_eq_false]
          exact ⟨y, List.mem_of_getElem? (unhide HY), by rw [hgo]; decide⟩
        clear hgo
        go_wp2_with (go_at_call 64; refine (unhide HC).mono ?_; rintro e w2 ⟨rfl, b2⟩; have HB2 := hide (btr (unhide HR).1 b2); clear b2)
        go_ret
        exact ⟨⟨_, rfl, by rw [unhide HAL]; simp⟩, unhide HB2⟩
    · obtain rfl : j = n := by omega
      have hltz : ¬ (j : Int) < (j : Int) := by omega
      have HAL : Hid (l.all (goesOn R.file) = true) := by
        have := (unhide HR).2
        rwa [List.take_of_length_le (Nat.le_of_eq (unhide HN))] at this
      go_wp2
      go_ret
      exact ⟨⟨_, rfl, by rw [unhide HAL]; decide⟩, (unhide HR).1⟩
set_option maxHeartbeats 1000000 in
theorem containsFunc_any {B rb : Nat} {R : Rdr} {P : Pts} {w : World} (h : RAt B w rb R P) (v : Value) (l : List Int) (hA : So.FArg w v l) (hbd : ∀ x ∈ l, 0 ≤ x ∧ x ≤ 65535) :
    Calls Tryz.prog 63 #[v, .func (.func 64) #[ptr rb] #[]] w fun e w' => e = .returned (.bool (!(l.all (goesOn R.file)))) ∧ Below w.heap.size w w' := by
  have HI := hide (indexFunc_any h v l hA hbd)
  clear h hA hbd
  generalize (!(l.all (goesOn R.file))) = b at *
  go_enter Tryz.func63, Tryz.ntmps63
  go_wp2_with (go_at_call 85; refine (unhide HI).mono ?_; rintro e w2 ⟨⟨q, rfl, hq⟩, b2⟩; have HQ := hide hq; have HB := hide b2; clear hq b2)
  go_ret
  exact ⟨by rw [← unhide HQ]; first | rfl | (simp; done) | (congr), unhide HB⟩
end Af
end Go.Proofs.YtlmahoogkogpdaaGreatDoor
