/- The reader: a heading. -/
import Derived.Test.YtlajdmjpobckhaaGreatDoorGd22
import Derived.Laws.EntriesVeiled
import Derived.Defers
import Derived.Recover
import Derived.Laws.Pointers
namespace Go.Proofs.YtlajdmjpobckhaaGreatDoor
open Go.RowKit
namespace Af
open RowB
noncomputable def hdg6 : Code := dropSeq 6 (Tryz.f55.body.getD .skip)
def kcells (k : Kw) : Array Value := #[.int .i64 k.fields, .bool k.again, .func (.func (fnOf k.key)) #[] #[], .int .i64 (whOf k.key)]
def hres (s : Bs) (X : Except Er Rdr) : Except Er Rdr := match X with
  | .error e => .error e
  | .ok R' => .ok { R' with heads := R'.heads ++ [s] }
set_option maxRecDepth 100000 in
set_option maxHeartbeats 4000000 in
theorem hdg_tail {B rb kb g m cap : Nat} {R : Rdr} {P P0 : Pts} {w V : World} {k : Kw} {hd : List Bs} (hk : kwOf (fld hd 0) = some k) (hL : LP B rb w V R P P0 (.slice (some ⟨g, 0, none⟩) m cap) hd) (hM : Mx B w) (hB : V.heap[kb]? = some (.cells (kcells k) 150 (0, 0))) (hlen : hd.length = k.fields) (hf : ∀ f ∈ hd, f.length ≤ 65536)
    (hcn : R.file.classes.length ≤ 65536) (hre : k.key = .reps → R.file.reps = []) (hal : k.key = .aliases → R.file.aliases = []) (hhd : R.heads.length < 65536) (h0 : 0 < hd.length) (u1 u2 u3 u7 u8 u9 u10 u11 u12 u13 u14 u15 u16 u17 u18 u19 u20 u21 u22 u23 u24 u25 u26 u27 u28 u29 u30 u31 u32 u33 u34 u35 u36 u37 u38 u39 u40 u41 u42 u43 u44 u45 u46 u47 u48 u49 u50 u51 u52 u53 : Value) :
    Code.wp Tryz.prog hdg6 (bodyPost Tryz.prog Tryz.f55 (Res B rb P0 w (hres (fld hd 0) (doKey R hd k.key)))) ⟨#[ptr rb, u1, u2, u3, .slice (some ⟨g, 0, none⟩) m cap, .string (Fld.str (fld hd 0)), .pointer (some ⟨kb, 0, none⟩), u7, u8, u9, u10, u11, u12, u13, u14, u15, u16, u17, u18, u19, u20, u21, u22, u23, u24, u25, u26, u27, u28, u29, u30, u31, u32, u33, u34, u35, u36, u37, u38, u39, u40, u41, u42, u43, u44, u45, u46, u47, u48, u49, u50, u51, u52, u53], []⟩ V := by
  conv => arg 2; whnf
  have HD := hide (dispatch hk hL.at_ (hM.low hL.kt.low) hd _ hL.row hlen hf hcn hre hal)
  have hent := ent_fn k.key
  have k2 : V.cell? ⟨kb, 2, none⟩ = some (.func (.func (fnOf k.key)) #[] #[]) := by simp [World.cell?, hB, kcells]
  have k3 : V.cell? ⟨kb, 3, none⟩ = some (.int .i64 (whOf k.key)) := by simp [World.cell?, hB, kcells]
  have HL := hide hL
  have HF := hide (hf _ (List.mem_of_getElem? (fld_get h0)))
  have HH := hide hhd
  clear hk hL hM hB hlen hf hcn hre hal h0 hhd
  cases hx : doKey R hd k.key with
  | error er =>
    have HN := hide (callNo (unhide HD) hx)
    clear HD
    generalize fnOf k.key = fn at *
    generalize whOf k.key = wh at *
    go_wp2_with fail
    refine (unhide HN).mono ?_
    rintro e w2 ⟨rfl, kt⟩
    refine ⟨rfl, Res.no rfl ((unhide HL).kt.trans ?_)⟩
    rw [← (unhide HL).eq.2.1, ← (unhide HL).eq.2.2]
    exact kt
  | ok R' =>
    have HO := hide (callOk (unhide HD) hx)
    have HHE := hide (doKey_kd hx).heads
    have HX : Hid (hres (fld hd 0) (.ok R') = .ok { R' with heads := R'.heads ++ [fld hd 0] }) := rfl
    clear HD hx
    generalize hres (fld hd 0) (.ok R') = X at *
    generalize fnOf k.key = fn at *
    generalize whOf k.key = wh at *
    go_wp2_with fail
    refine (unhide HO).mono ?_
    rintro e w2 ⟨rfl, kt, P', hR', e1, e2, e3⟩
    obtain ⟨-, -, -, -, d4, -, -⟩ := hR'.cells
    obtain ⟨hlk, w3, hmu, hR3, kt3⟩ := hR'.head (fld hd 0) (unhide HF) (by rw [unhide HHE]; exact unhide HH)
    have HR3 := hide hR3
    have HKT : Hid (Kt B P0.pm P0.hm w w3) := by
      refine (unhide HL).kt.trans ?_
      rw [← (unhide HL).eq.2.1, ← (unhide HL).eq.2.2]
      rw [e2, e3] at kt3
      exact kt.trans kt3
    have HE := hide (And.intro (e1.trans (unhide HL).eq.1) (And.intro (e2.trans (unhide HL).eq.2.1) (e3.trans (unhide HL).eq.2.2)))
    clear hR' hR3 kt3 kt e1 e2 e3 k2 k3 hent
    have hcl : (R'.heads.count (fld hd 0) : Nat) ≤ 65536 := by
      have := List.count_le_length (a := fld hd 0) (l := R'.heads)
      rw [unhide HHE] at this ⊢
      have := unhide HH
      omega
    generalize List.count (fld hd 0) R'.heads = cn at *
    generalize Fld.str (fld hd 0) = r0 at *
    go_wp2
    go_end0
    exact Res.yes (unhide HX) (unhide HKT) (unhide HR3) (unhide HE).1 (unhide HE).2.1 (unhide HE).2.2
end Af
end Go.Proofs.YtlajdmjpobckhaaGreatDoor
/- The reader: a heading, from its row on. -/
namespace Go.Proofs.YtlajdmjpobckhaaGreatDoor
open Go.RowKit
namespace Af
open RowB
def zkw : Array Value := #[.int .i64 0, .bool false, .nilFunc, .int .i64 0]
theorem zeroK (w : World) : (zeroValue 150).run Tryz.prog w = .ok (.agg zkw) w := by kernel_rfl
theorem heading_none {R : Rdr} {l : Nat} {hd : List Bs} (h : kwOf (fld hd 0) = none) : heading R l hd = .error (l, 110) := by unfold heading; rw [h]
theorem heading_len {R : Rdr} {l : Nat} {hd : List Bs} {k : Kw} (h : kwOf (fld hd 0) = some k) (h2 : hd.length ≠ k.fields) : heading R l hd = .error (l, 111) := by unfold heading; rw [h]; simp [h2]
theorem heading_two {R : Rdr} {l : Nat} {hd : List Bs} {k : Kw} (h : kwOf (fld hd 0) = some k) (h2 : hd.length = k.fields) (h3 : k.again = false) (h4 : fld hd 0 ∈ R.heads) : heading R l hd = .error (l, 112) := by unfold heading; rw [h]; simp [h2, h3, h4]
theorem heading_do {R : Rdr} {l : Nat} {hd : List Bs} {k : Kw} (h : kwOf (fld hd 0) = some k) (h2 : hd.length = k.fields) (h3 : ¬ (k.again = false ∧ fld hd 0 ∈ R.heads)) : heading R l hd = hres (fld hd 0) (doKey { R with line := l } hd k.key) := by
  unfold heading hres
  rw [h]
  simp only
  rw [if_neg (by omega), if_neg h3]
  cases doKey { R with line := l } hd k.key <;> rfl
set_option maxRecDepth 100000 in
set_option maxHeartbeats 4000000 in
theorem readHeading_any {B rb tb nt l : Nat} {R : Rdr} {P : Pts} {w : World} {hd : List Bs} {t : List (Nat × List Bs)} (h : RAt B w rb R P) (hM : Mx B w) (hr : R.rows = (l, hd) :: t) (hT : MapF w 9 tb nt (kwF kwL13)) (hi : Inv R) :
    Calls Tryz.prog 55 #[ptr rb, .map (some tb)] w (Res B rb P w (heading { R with rows := t } l hd)) := by
  have hrk := h.rok (l, hd) (by rw [hr]; simp)
  have h0 : 0 < hd.length := List.length_pos_iff.2 hrk.2.1
  have hf0 := hrk.2.2 _ (List.mem_of_getElem? (fld_get h0))
  have e1 : (Fld.str (fld hd 0)).data.toList = fld hd 0 := by simp [Fld.str]
  have hsz : (Fld.str (fld hd 0)).size ≤ 65536 := by rw [fstr_wd, Wd.str_size]; omega
  have HN := hide (nextRow_any h hr)
  have HT : Hid (∀ w1, Kp rb w w1 → ∀ W, W.heap[tb]? = w1.heap[tb]? → (Instr.lookup 125 (.map (some tb)) (.string (Fld.str (fld hd 0))) true).run Tryz.prog W = .ok (.tuple #[((kwOf (fld hd 0)).map kval).getD (.agg zkw), .bool (kwOf (fld hd 0)).isSome]) W) := by
    intro w1 k1 W hW
    have hm := (k1.keptM h.rdr hT).kept hW
    have hkey := key9 (s := Fld.str (fld hd 0)) (by unfold maxLen; omega)
    rw [e1] at hkey
    have := hm.look2 law9 Tryz.underlying125 (zeroK W) hkey
    rw [kwF_of] at this
    rw [this]
    cases kwOf (fld hd 0) <;> rfl
  have HLP : Hid (∀ w1 fv rv, StrRow B w1 fv (hd.map Fld.str) → RAt B w1 rb { R with rows := t, line := l } { P with rv := rv } → Below B w w1 → Kp rb w w1 → LP B rb w w1 { R with rows := t, line := l } { P with rv := rv } P fv hd) := fun w1 fv rv s1 r1 l1 k1 => ⟨r1, h.kt k1 l1, s1, rfl, rfl, rfl⟩
  have HM := hide hM
  have HR0 := hide hrk
  have HI := hide hi
  have HRR := hide hr
  have H0 := hide h0
  have HE1 := hide e1
  have HSZ := hide hsz
  clear h hM hr hT hi hrk e1 hf0 hsz
  have hpos : (0 : Int) < (hd.length : Int) := by omega
  cases hk : kwOf (fld hd 0) with
  | none =>
    have HX := hide (heading_none (R := { R with rows := t }) (l := l) hk)
    rw [hk] at HT
    clear hk
    go_enter Tryz.func55, Tryz.ntmps55
    go_wp2_with (go_at_call 78; refine (unhide HN).mono ?_; rintro e w1 ⟨fv, rv, rfl, s1, r1, l1, k1⟩; have HL1 := hide (unhide HLP w1 fv rv s1 r1 l1 k1); have hlk : (Instr.lookup 125 (.map (some tb)) (.string (Fld.str (fld hd 0))) true).run Tryz.prog w1 = .ok (.tuple #[.agg #[.int .i64 0, .bool false, .nilFunc, .int .i64 0], .bool false]) w1 := unhide HT w1 k1 w1 rfl; obtain ⟨g, cap, rfl, hg, x1, x2, -, hc⟩ := str_cells s1; have q0 := hc 0 _ (fld_get (unhide H0)); clear s1 r1 l1 k1 hc HN)
    have bA := (Below.refl w1.heap.size w1).alloc (Nat.le_refl _) (.cells #[.int .i64 0, .bool false, .nilFunc, .int .i64 0] 150)
    refine (leaveIf_no rb l 110 _ (by decide) (by decide) ((unhide HL1).below bA).at_.cells.2.2.1).mono ?_
    rintro e w5 ⟨rfl, rfl⟩
    exact ⟨rfl, (unhide HL1).no bA (unhide HX)⟩
  | some k =>
    rw [hk] at HT
    have HK := hide hk
    by_cases hlen : hd.length = k.fields
    · have hlf : ((hd.length : Int) != (k.fields : Int)) = false := by simp [hlen]
      have HLN := hide hlen
      have HX0 := hide (fun h3 => heading_do (R := { R with rows := t }) (l := l) hk hlen h3)
      have HX2 := hide (fun h3 h4 => heading_two (R := { R with rows := t }) (l := l) hk hlen h3 h4)
      clear hk hlen
      cases HAG : k.again with
      | true =>
        have HX := hide (unhide HX0 (fun q => by rw [HAG] at q; exact absurd q.1 (by decide)))
        have HST := hide (show ∀ z : Bs, fld hd 0 = z → k.again = false → z ∉ R.heads from fun _ _ q => by rw [HAG] at q; cases q)
        clear HX0 HX2
        go_enter Tryz.func55, Tryz.ntmps55
        go_wp2_with (first | (go_at_call 78; refine (unhide HN).mono ?_; rintro e w1 ⟨fv, rv, rfl, s1, r1, l1, k1⟩; have HL1 := hide ((unhide HLP w1 fv rv s1 r1 l1 k1).below ((Below.refl _ w1).alloc (Nat.le_refl _) (.cells #[.int .i64 k.fields, .bool true, .func (.func (fnOf k.key)) #[] #[], .int .i64 (whOf k.key)] 150))); have HBL := hide (alloc_new w1 (.cells #[.int .i64 k.fields, .bool true, .func (.func (fnOf k.key)) #[] #[], .int .i64 (whOf k.key)] 150)); have hlk : (Instr.lookup 125 (.map (some tb)) (.string (Fld.str (fld hd 0))) true).run Tryz.prog w1 = .ok (.tuple #[.agg #[.int .i64 k.fields, .bool true, .func (.func (fnOf k.key)) #[] #[], .int .i64 (whOf k.key)], .bool true]) w1 := (unhide HT w1 k1 w1 rfl).trans (by simp [kval, kwV, HAG]); obtain ⟨g, cap, rfl, hg, x1, x2, -, hc⟩ := str_cells s1; have q0 := hc 0 _ (fld_get (unhide H0)); clear s1 r1 l1 k1 hc HN) | (go_at_call 79; with_reducible (show Calls _ _ #[_, _, .int .i64 110] _ _); refine (leaveIf_f _ _ _ _ rfl).mono ?_; rintro e w3 ⟨rfl, hw3⟩; subst w3) | (go_at_call 79; with_reducible (show Calls _ _ #[_, _, .int .i64 111] _ _); refine (leaveIf_f _ _ _ _ (by first | rfl | exact hlf)).mono ?_; rintro e w3 ⟨rfl, hw3⟩; subst w3))
        refine (leaveIf_f _ _ _ _ rfl).mono ?_
        rintro e w5 ⟨rfl, hw5⟩
        rename_i K3 hK3 K2 hK2
        subst w5
        apply hK2
        refine hK3 _ _ ?_
        rw [unhide HX]
        refine hdg_tail (R := { R with rows := t, line := l }) (unhide HK) (unhide HL1) (unhide HM) (by rw [unhide HBL, kcells, HAG]) (unhide HLN) (unhide HR0).2.2 ?_ ?_ ?_ ?_ (unhide H0) _ _ _ _ _ _ _ _ _ _ _ _ _ _ _ _ _ _ _ _ _ _ _ _ _ _ _ _ _ _ _ _ _ _ _ _ _ _ _ _ _ _ _ _ _ _ _ _ _ _
        · have := (unhide HI).cls
          have := (unhide HI).few
          show R.file.classes.length ≤ 65536
          omega
        · intro q
          exact (unhide HI).reps ((unhide HST) _ (kw_reps (unhide HK) q).1 (kw_reps (unhide HK) q).2.1)
        · intro q
          exact (unhide HI).alis ((unhide HST) _ (kw_alis (unhide HK) q).1 (kw_alis (unhide HK) q).2.1)
        · have := (unhide HI).few
          rw [unhide HRR, List.length_cons] at this
          show R.heads.length < 65536
          omega
      | false =>
        by_cases hst : fld hd 0 ∈ R.heads
        · have HX := hide (unhide HX2 HAG hst)
          have HSD : decide ((Fld.str (fld hd 0)).data.toList ∈ R.heads) = true := by rw [unhide HE1]; simpa using hst
          clear HX0 HX2 hst
          go_enter Tryz.func55, Tryz.ntmps55
          go_wp2_with (first | (go_at_call 78; refine (unhide HN).mono ?_; rintro e w1 ⟨fv, rv, rfl, s1, r1, l1, k1⟩; have HL1 := hide ((unhide HLP w1 fv rv s1 r1 l1 k1).below ((Below.refl _ w1).alloc (Nat.le_refl _) (.cells #[.int .i64 k.fields, .bool false, .func (.func (fnOf k.key)) #[] #[], .int .i64 (whOf k.key)] 150))); have HBL := hide (alloc_new w1 (.cells #[.int .i64 k.fields, .bool false, .func (.func (fnOf k.key)) #[] #[], .int .i64 (whOf k.key)] 150)); have hlk : (Instr.lookup 125 (.map (some tb)) (.string (Fld.str (fld hd 0))) true).run Tryz.prog w1 = .ok (.tuple #[.agg #[.int .i64 k.fields, .bool false, .func (.func (fnOf k.key)) #[] #[], .int .i64 (whOf k.key)], .bool true]) w1 := (unhide HT w1 k1 w1 rfl).trans (by simp [kval, kwV, HAG]); obtain ⟨g, cap, rfl, hg, x1, x2, -, hc⟩ := str_cells s1; have q0 := hc 0 _ (fld_get (unhide H0)); clear s1 r1 l1 k1 hc HN) | (go_at_call 79; with_reducible (show Calls _ _ #[_, _, .int .i64 110] _ _); refine (leaveIf_f _ _ _ _ rfl).mono ?_; rintro e w3 ⟨rfl, hw3⟩; subst w3) | (go_at_call 79; with_reducible (show Calls _ _ #[_, _, .int .i64 111] _ _); refine (leaveIf_f _ _ _ _ (by first | rfl | exact hlf)).mono ?_; rintro e w3 ⟨rfl, hw3⟩; subst w3) | (go_at_call 80; refine (stood_any (unhide HL1).at_ _ (unhide HSZ)).mono ?_; rintro e w3 ⟨rfl, hw3⟩; subst w3))
          refine (leaveIf_t rb l _ 112 _ (by first | rfl | exact HSD) (by decide) (by decide) (unhide HL1).at_.cells.2.2.1).mono ?_
          rintro e w5 ⟨rfl, rfl⟩
          exact ⟨rfl, (unhide HL1).no (Below.refl _ _) (unhide HX)⟩
        · have HX := hide (unhide HX0 (fun q => hst q.2))
          have HST := hide (show ∀ z : Bs, fld hd 0 = z → k.again = false → z ∉ R.heads from fun z e _ => by rw [← e]; exact hst)
          have HSD : decide ((Fld.str (fld hd 0)).data.toList ∈ R.heads) = false := by rw [unhide HE1]; simpa using hst
          clear HX0 HX2 hst
          go_enter Tryz.func55, Tryz.ntmps55
          go_wp2_with (first | (go_at_call 78; refine (unhide HN).mono ?_; rintro e w1 ⟨fv, rv, rfl, s1, r1, l1, k1⟩; have HL1 := hide ((unhide HLP w1 fv rv s1 r1 l1 k1).below ((Below.refl _ w1).alloc (Nat.le_refl _) (.cells #[.int .i64 k.fields, .bool false, .func (.func (fnOf k.key)) #[] #[], .int .i64 (whOf k.key)] 150))); have HBL := hide (alloc_new w1 (.cells #[.int .i64 k.fields, .bool false, .func (.func (fnOf k.key)) #[] #[], .int .i64 (whOf k.key)] 150)); have hlk : (Instr.lookup 125 (.map (some tb)) (.string (Fld.str (fld hd 0))) true).run Tryz.prog w1 = .ok (.tuple #[.agg #[.int .i64 k.fields, .bool false, .func (.func (fnOf k.key)) #[] #[], .int .i64 (whOf k.key)], .bool true]) w1 := (unhide HT w1 k1 w1 rfl).trans (by simp [kval, kwV, HAG]); obtain ⟨g, cap, rfl, hg, x1, x2, -, hc⟩ := str_cells s1; have q0 := hc 0 _ (fld_get (unhide H0)); clear s1 r1 l1 k1 hc HN) | (go_at_call 79; with_reducible (show Calls _ _ #[_, _, .int .i64 110] _ _); refine (leaveIf_f _ _ _ _ rfl).mono ?_; rintro e w3 ⟨rfl, hw3⟩; subst w3) | (go_at_call 79; with_reducible (show Calls _ _ #[_, _, .int .i64 111] _ _); refine (leaveIf_f _ _ _ _ (by first | rfl | exact hlf)).mono ?_; rintro e w3 ⟨rfl, hw3⟩; subst w3) | (go_at_call 80; refine (stood_any (unhide HL1).at_ _ (unhide HSZ)).mono ?_; rintro e w3 ⟨rfl, hw3⟩; subst w3))
          refine (leaveIf_f _ _ _ _ (by first | rfl | exact HSD)).mono ?_
          rintro e w5 ⟨rfl, hw5⟩
          rename_i K3 hK3 K2 hK2
          subst w5
          apply hK2
          refine hK3 _ _ ?_
          rw [unhide HX]
          refine hdg_tail (R := { R with rows := t, line := l }) (unhide HK) (unhide HL1) (unhide HM) (by rw [unhide HBL, kcells, HAG]) (unhide HLN) (unhide HR0).2.2 ?_ ?_ ?_ ?_ (unhide H0) _ _ _ _ _ _ _ _ _ _ _ _ _ _ _ _ _ _ _ _ _ _ _ _ _ _ _ _ _ _ _ _ _ _ _ _ _ _ _ _ _ _ _ _ _ _ _ _ _ _
          · have := (unhide HI).cls
            have := (unhide HI).few
            show R.file.classes.length ≤ 65536
            omega
          · intro q
            exact (unhide HI).reps ((unhide HST) _ (kw_reps (unhide HK) q).1 (kw_reps (unhide HK) q).2.1)
          · intro q
            exact (unhide HI).alis ((unhide HST) _ (kw_alis (unhide HK) q).1 (kw_alis (unhide HK) q).2.1)
          · have := (unhide HI).few
            rw [unhide HRR, List.length_cons] at this
            show R.heads.length < 65536
            omega
    · have HX := hide (heading_len (R := { R with rows := t }) (l := l) hk hlen)
      have hlf : ((hd.length : Int) != (k.fields : Int)) = true := by simp; omega
      clear hk hlen
      obtain ⟨ag, HAG⟩ : ∃ ag, k.again = ag := ⟨_, rfl⟩
      go_enter Tryz.func55, Tryz.ntmps55
      go_wp2_with (first | (go_at_call 78; refine (unhide HN).mono ?_; rintro e w1 ⟨fv, rv, rfl, s1, r1, l1, k1⟩; have HL1 := hide ((unhide HLP w1 fv rv s1 r1 l1 k1).below ((Below.refl _ w1).alloc (Nat.le_refl _) (.cells #[.int .i64 k.fields, .bool ag, .func (.func (fnOf k.key)) #[] #[], .int .i64 (whOf k.key)] 150))); have HBL := hide (alloc_new w1 (.cells #[.int .i64 k.fields, .bool ag, .func (.func (fnOf k.key)) #[] #[], .int .i64 (whOf k.key)] 150)); have hlk : (Instr.lookup 125 (.map (some tb)) (.string (Fld.str (fld hd 0))) true).run Tryz.prog w1 = .ok (.tuple #[.agg #[.int .i64 k.fields, .bool ag, .func (.func (fnOf k.key)) #[] #[], .int .i64 (whOf k.key)], .bool true]) w1 := (unhide HT w1 k1 w1 rfl).trans (by simp [kval, kwV, HAG]); obtain ⟨g, cap, rfl, hg, x1, x2, -, hc⟩ := str_cells s1; have q0 := hc 0 _ (fld_get (unhide H0)); clear s1 r1 l1 k1 hc HN) | (go_at_call 79; with_reducible (show Calls _ _ #[_, _, .int .i64 110] _ _); refine (leaveIf_f _ _ _ _ rfl).mono ?_; rintro e w3 ⟨rfl, hw3⟩; subst w3))
      refine (leaveIf_t rb l _ 111 _ (by first | rfl | exact hlf) (by decide) (by decide) (unhide HL1).at_.cells.2.2.1).mono ?_
      rintro e w5 ⟨rfl, rfl⟩
      exact ⟨rfl, (unhide HL1).no (Below.refl _ _) (unhide HX)⟩
end Af
end Go.Proofs.YtlajdmjpobckhaaGreatDoor
/- The reader: may a flag go on from a rule? -/
namespace Go.Proofs.YtlajdmjpobckhaaGreatDoor
open Go.RowKit
namespace Af
open RowB
theorem goesOn_none {F : Fil} {x s : Int} (h : findC F.classes x = none) (hs : F.specials[0]? = some s) : goesOn F x = decide (x = s) := by
  unfold goesOn
  rw [h, hs]
  by_cases e : x = s <;> simp [e]
theorem goesOn_suf {F : Fil} {x : Int} {i : Nat} {c : Cls} (h : findC F.classes x = some i) (hc : F.classes[i]? = some c) (hk : c.kind = 2) : goesOn F x = true := by
  unfold goesOn
  rw [h]
  simp [hc, hk]
theorem goesOn_pre {F : Fil} {x s : Int} {i : Nat} {c : Cls} (h : findC F.classes x = some i) (hc : F.classes[i]? = some c) (hk : c.kind ≠ 2) (hs : F.specials[0]? = some s) : goesOn F x = decide (x = s) := by
  unfold goesOn
  rw [h, hs]
  by_cases e : x = s <;> simp [hc, hk, e]
set_option maxHeartbeats 1000000 in
theorem cannot_any {B rb : Nat} {R : Rdr} {P : Pts} {w : World} (h : RAt B w rb R P) (x : Int) (h0 : 0 ≤ x) (h1 : x ≤ 65535) :
    Calls Tryz.prog 82 #[ptr rb, .int .u16 x] w fun e w' => e = .returned (.bool (!goesOn R.file x)) ∧ Below w.heap.size w w' := by
  obtain ⟨d0, -, -, -, -, -, -⟩ := h.cells
  have hb := h.lt
  obtain ⟨s0, s1, s2, s3, s4, hsp⟩ := five h.file.ok.spec
  have hs0 : R.file.specials[0]? = some s0 := by rw [hsp]; rfl
  have HC : Hid (∀ w0, Below w.heap.size w w0 → w0.cell? ⟨rb, 0, none⟩ = some (.pointer (some ⟨P.fb, 0, none⟩)) ∧ w0.cell? ⟨P.fb, 3, none⟩ = some (.int .u16 s0) ∧ rb < w0.heap.size ∧ P.fb < w0.heap.size) := fun w0 b => by
    have hh := h.below b
    have := hh.file.fil
    exact ⟨hh.cells.1, by simp [World.cell?, this, filC, hsp], hh.lt, hh.file.lt⟩
  cases hf : findC R.file.classes x with
  | none =>
    rw [goesOn_none hf hs0]
    have HCL := hide (class_none h.file x h0 h1 hf)
    unfold noC at HCL
    clear h hf hsp hs0
    go_enter Tryz.func82, Tryz.ntmps82
    go_wp2_with (go_at_call 64; refine (unhide HCL).mono ?_; rintro e w2 ⟨rfl, b2⟩; obtain ⟨f1, f2, f3, f4⟩ := unhide HC _ b2; have HB2 := hide b2; have hsz := b2.size; clear b2)
    go_ret
    refine ⟨?_, (unhide HB2).alloc hsz _⟩
    by_cases e : x = s0 <;> simp [e]
  | some i =>
    obtain ⟨c, hc, -⟩ := findC_get hf
    have HCL := hide (class_some h.file x h0 h1 hf hc)
    unfold clsV at HCL
    by_cases hk : c.kind = 2
    · rw [goesOn_suf hf hc hk]
      have hkb : (c.kind == 2) = true := by simpa using hk
      clear h hf hsp hs0 hc hk
      go_enter Tryz.func82, Tryz.ntmps82
      go_wp2_with (go_at_call 64; refine (unhide HCL).mono ?_; rintro e w2 ⟨rfl, b2⟩; obtain ⟨f1, f2, f3, f4⟩ := unhide HC _ b2; have HB2 := hide b2; have hsz := b2.size; clear b2)
      go_ret
      exact ⟨rfl, (unhide HB2).alloc hsz _⟩
    · rw [goesOn_pre hf hc hk hs0]
      have hkb : (c.kind == 2) = false := by simpa using hk
      clear h hf hsp hs0 hc hk
      go_enter Tryz.func82, Tryz.ntmps82
      go_wp2_with (go_at_call 64; refine (unhide HCL).mono ?_; rintro e w2 ⟨rfl, b2⟩; obtain ⟨f1, f2, f3, f4⟩ := unhide HC _ b2; have HB2 := hide b2; have hsz := b2.size; clear b2)
      go_ret
      refine ⟨?_, (unhide HB2).alloc hsz _⟩
      by_cases e : x = s0 <;> simp [e]
end Af
end Go.Proofs.YtlajdmjpobckhaaGreatDoor
/- The reader: a list of flags of which one cannot go on. -/
namespace Go.Proofs.YtlajdmjpobckhaaGreatDoor
open Go.RowKit
namespace Af
open RowB
set_option maxRecDepth 100000 in
set_option maxHeartbeats 2000000 in
theorem indexFunc_any {B rb : Nat} {R : Rdr} {P : Pts} {w : World} (h : RAt B w rb R P) (v : Value) (l : List Int) (hA : So.FArg w v l) (hbd : ∀ x ∈ l, 0 ≤ x ∧ x ≤ 65535) :
    Calls Tryz.prog 103 #[v, .func (.func 82) #[ptr rb] #[]] w fun e w' => (∃ q : Int, e = .returned (.int .i64 q) ∧ (decide (0 ≤ q)) = !(l.all (goesOn R.file))) ∧ Below w.heap.size w w' := by
  have HA := hide hA
  obtain ⟨ao, cap, rfl, hl1, hl2, -, hat⟩ := hA
  unfold maxLen at hl2
  rcases Nat.eq_zero_or_pos l.length with hz | hpos
  · have hl0 : l = [] := List.length_eq_zero_iff.1 hz
    rw [hz]
    subst hl0
    clear hbd HA hat hl1
    have hltz : ¬ (0 : Int) < 0 := by omega
    go_enter Tryz.func103, Tryz.ntmps103
    go_wp2
    go_loopw [8] (fun s8 wr => s8 = .int .i64 0 ∧ wr = w) (fun _ _ => 0)
    case atStart => exact ⟨rfl, rfl⟩
    case round =>
      obtain ⟨rfl, rfl⟩ := hrel
      go_wp2
      go_ret
      exact ⟨⟨_, rfl, by simp⟩, Below.refl _ _⟩
  obtain ⟨g, off, rfl, hg0, -⟩ := hat hpos
  obtain ⟨n, hn⟩ : ∃ n, l.length = n := ⟨_, rfl⟩
  have HN := hide hn
  have HBD := hide hbd
  have HG := hide (fun W (b : Below w.heap.size w W) x h0 h1 => cannot_any (h.below b) x h0 h1)
  rw [hn] at hl1 ⊢
  clear hn hbd h
  go_enter Tryz.func103, Tryz.ntmps103
  go_wp2
  go_loopw [8] (fun s8 wr => ∃ j : Nat, s8 = .int .i64 j ∧ j ≤ n ∧ Hid (Below w.heap.size w wr ∧ (l.take j).all (goesOn R.file) = true)) (fun s8 _ => n - (intOf s8).toNat)
  case atStart => exact ⟨0, rfl, Nat.zero_le _, ⟨Below.refl _ _, by simp⟩⟩
  case round =>
    obtain ⟨j, rfl, hj, HR⟩ := hrel
    by_cases hlt : j < n
    · have hltz : (j : Int) < (n : Int) := by omega
      have hj0 : 0 ≤ (j : Int) := by omega
      obtain ⟨y, hy⟩ : ∃ y, l[j]? = some y := ⟨_, List.getElem?_eq_getElem (by rw [unhide HN]; exact hlt)⟩
      obtain ⟨ao', cap', e1, -, -, -, hc⟩ := (unhide HA).below (unhide HR).1
      obtain ⟨g', off', e2, hg, hcc⟩ := hc (by rw [unhide HN]; omega)
      have hcy : wr.cell? ⟨g, off + j, none⟩ = some (So.encF y) := by
        have := hcc j y hy
        rw [e2] at e1
        injection e1 with e1 _ _
        injection e1 with e1
        injection e1 with e3 e4 _
        rw [← e3, ← e4] at this
        exact this
      clear e1 e2 hg
      obtain ⟨y0, y1⟩ := unhide HBD y (List.mem_of_getElem? hy)
      have HC := hide (unhide HG _ (unhide HR).1 y y0 y1)
      have HT : Hid ((l.take (j + 1)).all (goesOn R.file) = ((l.take j).all (goesOn R.file) && goesOn R.file y)) := by
        rw [Hid, List.take_succ_eq_append_getElem (by rw [unhide HN]; exact hlt), (List.getElem?_eq_some_iff.1 hy).2, List.all_append]
        simp
      unfold So.encF at hcy
      have HY := hide hy
      clear hc hcc hy y0 y1
      cases hgo : goesOn R.file y with
      | true =>
        rw [hgo] at HC HT
        clear hgo
        go_wp2_with (go_at_call 82; refine (unhide HC).mono ?_; rintro e w2 ⟨rfl, b2⟩; have HB2 := hide (btr (unhide HR).1 b2); clear b2)
        go_roundw
        case rel => exact ⟨j + 1, by go_num, by omega, ⟨unhide HB2, by rw [unhide HT, (unhide HR).2]; rfl⟩⟩
        case measure => simp [intOf]; omega
      | false =>
        rw [hgo] at HC
        have HAL : Hid (l.all (goesOn R.file) = false) := by
          rw [Hid, List.all_eq_false]
          exact ⟨y, List.mem_of_getElem? (unhide HY), by rw [hgo]; decide⟩
        clear hgo
        go_wp2_with (go_at_call 82; refine (unhide HC).mono ?_; rintro e w2 ⟨rfl, b2⟩; have HB2 := hide (btr (unhide HR).1 b2); clear b2)
        go_ret
        exact ⟨⟨_, rfl, by rw [unhide HAL]; simp⟩, unhide HB2⟩
    · obtain rfl : j = n := by omega
      have hltz : ¬ (j : Int) < (j : Int) := by omega
      have HAL : Hid (l.all (goesOn R.file) = true) := by
        have := (unhide HR).2
        rwa [List.take_of_length_le (Nat.le_of_eq (unhide HN))] at this
      go_wp2
      go_ret
      exact ⟨⟨_, rfl, by rw [unhide HAL]; decide⟩, (unhide HR).1⟩
set_option maxHeartbeats 1000000 in
theorem containsFunc_any {B rb : Nat} {R : Rdr} {P : Pts} {w : World} (h : RAt B w rb R P) (v : Value) (l : List Int) (hA : So.FArg w v l) (hbd : ∀ x ∈ l, 0 ≤ x ∧ x ≤ 65535) :
    Calls Tryz.prog 81 #[v, .func (.func 82) #[ptr rb] #[]] w fun e w' => e = .returned (.bool (!(l.all (goesOn R.file)))) ∧ Below w.heap.size w w' := by
  have HI := hide (indexFunc_any h v l hA hbd)
  clear h hA hbd
  generalize (!(l.all (goesOn R.file))) = b at *
  go_enter Tryz.func81, Tryz.ntmps81
  go_wp2_with (go_at_call 103; refine (unhide HI).mono ?_; rintro e w2 ⟨⟨q, rfl, hq⟩, b2⟩; have HQ := hide hq; have HB := hide b2; clear hq b2)
  go_ret
  exact ⟨by rw [← unhide HQ]; first | rfl | (simp; done) | (congr), unhide HB⟩
end Af
end Go.Proofs.YtlajdmjpobckhaaGreatDoor
/- The reader: which flags may go on, asked behind all rows. -/
namespace Go.Proofs.YtlajdmjpobckhaaGreatDoor
open Go.RowKit
namespace Af
open RowB
/-! plain: flags are small numbers -/
structure Nb (F : Fil) : Prop where
  nx : ∀ r ∈ F.rules, ∀ x ∈ r.next, 0 ≤ x ∧ x ≤ 65535
  al : ∀ a ∈ F.aliases, ∀ x ∈ a, 0 ≤ x ∧ x ≤ 65535
theorem rS_nb (k : Int) (s : Bs) : ∀ x ∈ So.rS k s, 0 ≤ x ∧ x ≤ 65535 := by
  intro x hx
  unfold So.rS at hx
  split at hx
  · rw [So.mem_setOf] at hx
    unfold So.vals at hx
    obtain ⟨p, -, rfl⟩ := List.mem_map.1 hx
    exact One.val_bounds _ _
  · cases hx
theorem flgS_nb {F : Fil} (h : Nb F) (s : Bs) : ∀ x ∈ flgS F s, 0 ≤ x ∧ x ≤ 65535 := by
  intro x hx
  unfold flgS at hx
  split at hx
  · exact rS_nb _ _ x hx
  · split at hx
    · cases hq : F.aliases[flgN F s - 1]? with
      | none => rw [hq] at hx; cases hx
      | some a =>
        rw [hq] at hx
        exact h.al a (List.mem_of_getElem? hq) x hx
    · cases hx
theorem rule_nb {F : Fil} (h : Nb F) {l : Nat} {c : Cls} {row : List Bs} {r : Rul} (hr : rule F l c row = .ok r) : ∀ x ∈ r.next, 0 ≤ x ∧ x ≤ 65535 := by
  have key : ∀ p, added F l c.kind (fld row 3) = .ok p → ∀ x ∈ p.2, 0 ≤ x ∧ x ≤ 65535 := by
    intro p hp
    unfold added at hp
    split at hp
    · cases hp
    · split at hp
      · cases hp
      · split at hp
        · injection hp with hp; subst hp; intro x hx; cases hx
        · split at hp
          · cases hp
          · split at hp
            · cases hp
            · injection hp with hp; subst hp; exact flgS_nb h _
  unfold rule at hr
  split at hr
  · cases hr
  · split at hr
    · cases hr
    · split at hr
      · cases hr
      · rename_i p hp
        have := key p hp
        split at hr
        · split at hr
          · cases hr
          · injection hr with hr; subst hr; exact this
        · injection hr with hr; subst hr; exact this
theorem repStep_nb {key : Bs} {R R' : Rdr} (h : repStep key R = .ok R') (k : Nb R.file) : Nb R'.file := by
  unfold repStep at h
  split at h
  · cases h
  · rename_i row R1 hg
    obtain ⟨m, e⟩ := grow_mo hg
    split at h
    · cases h
    · injection h with h
      subst h
      exact ⟨by rw [e]; exact k.nx, by rw [e]; exact k.al⟩
theorem aliStep_nb {key : Bs} {R R' : Rdr} (h : aliStep key R = .ok R') (k : Nb R.file) : Nb R'.file := by
  unfold aliStep at h
  split at h
  · cases h
  · rename_i row R1 hg
    obtain ⟨m, e⟩ := grow_mo hg
    split at h
    · cases h
    · rename_i p hp
      injection h with h
      subst h
      refine ⟨by rw [e]; exact k.nx, fun a ha => ?_⟩
      rw [e] at ha
      rcases List.mem_append.1 ha with q | q
      · exact k.al a q
      · simp at q
        subst q
        unfold aliRow at hp
        repeat' split at hp
        all_goals first | (cases hp; done) | (injection hp with hp; subst hp; exact rS_nb _ _)
theorem rulStep_nb {beg : List Bs} {c : Cls} {R R' : Rdr} (h : rulStep beg c R = .ok R') (k : Nb R.file) : Nb R'.file := by
  unfold rulStep at h
  split at h
  · cases h
  · rename_i row R1 hg
    obtain ⟨m, e⟩ := grow_mo hg
    split at h
    · cases h
    · rename_i p hp
      injection h with h
      subst h
      have kk : Nb R1.file := by rw [e]; exact k
      refine ⟨fun r hr => ?_, kk.al⟩
      rcases List.mem_append.1 hr with q | q
      · exact kk.nx r q
      · simp at q
        subst q
        exact rule_nb kk hp
theorem doKey_nb {R R' : Rdr} {h : List Bs} {k : Key} (hk : doKey R h k = .ok R') (hn : Nb R.file) : Nb R'.file := by
  have triv : ∀ (f : Except Er Rdr) , f = .ok R' → (∀ R1, f = .ok R1 → R1.file.rules = R.file.rules ∧ R1.file.aliases = R.file.aliases) → Nb R'.file := by
    intro f hf q
    obtain ⟨e1, e2⟩ := q R' hf
    exact ⟨by rw [e1]; exact hn.nx, by rw [e2]; exact hn.al⟩
  cases k with
  | kind =>
    refine triv _ hk fun R1 q => ?_
    simp only [doKey, doKind] at q
    repeat' split at q
    all_goals first | (cases q; done) | (injection q with q; subst q; exact ⟨rfl, rfl⟩)
  | charset =>
    refine triv _ hk fun R1 q => ?_
    simp only [doKey, doCharset] at q
    repeat' split at q
    all_goals first | (cases q; done) | (injection q with q; subst q; exact ⟨rfl, rfl⟩)
  | letters =>
    refine triv _ hk fun R1 q => ?_
    simp only [doKey, doLetters] at q
    repeat' split at q
    all_goals first | (cases q; done) | (injection q with q; subst q; exact ⟨rfl, rfl⟩)
  | special i =>
    refine triv _ hk fun R1 q => ?_
    simp only [doKey, doSpecial] at q
    repeat' split at q
    all_goals first | (cases q; done) | (injection q with q; subst q; exact ⟨rfl, rfl⟩)
  | least =>
    refine triv _ hk fun R1 q => ?_
    simp only [doKey, doLeast] at q
    repeat' split at q
    all_goals first | (cases q; done) | (injection q with q; subst q; exact ⟨rfl, rfl⟩)
  | reps =>
    simp only [doKey, doReps] at hk
    split at hk
    · cases hk
    · exact times_rel (rel := fun R R' => Nb R.file → Nb R'.file) (fun R h => h) (fun a b c x y z => y (x z)) (fun R R' q => repStep_nb q) _ _ _ hk hn
  | aliases =>
    simp only [doKey, doAliases] at hk
    split at hk
    · cases hk
    · split at hk
      · cases hk
      · exact times_rel (rel := fun R R' => Nb R.file → Nb R'.file) (fun R h => h) (fun a b c x y z => y (x z)) (fun R R' q => aliStep_nb q) _ _ _ hk hn
  | cls kk =>
    simp only [doKey, doClass] at hk
    split at hk
    · cases hk
    · split at hk
      · cases hk
      · split at hk
        · cases hk
        · split at hk
          · cases hk
          · exact times_rel (rel := fun R R' => Nb R.file → Nb R'.file) (fun R h => h) (fun a b c x y z => y (x z)) (fun R R' q => rulStep_nb q) _ _ _ hk ⟨hn.nx, hn.al⟩
theorem heading_nb {R R' : Rdr} {l : Nat} {hd : List Bs} (h : heading R l hd = .ok R') (hn : Nb R.file) : Nb R'.file := by
  unfold heading at h
  split at h
  · cases h
  · split at h
    · cases h
    · split at h
      · cases h
      · split at h
        · cases h
        · rename_i R2 hd2
          injection h with h
          subst h
          have := doKey_nb (R := { R with line := l }) hd2 hn
          exact this
/-- the lines of the rules are small -/
structure Nl (R : Rdr) : Prop where
  ok : RowsOk R.rows
  ln : ∀ r ∈ R.file.rules, r.line ≤ 65536
theorem grow_nl {R R1 : Rdr} {beg row : List Bs} (h : grow R beg = .ok (row, R1)) (k : Nl R) : Nl R1 ∧ R1.line ≤ 65536 := by
  obtain ⟨l, t, h1, h2⟩ := grow_fld h
  subst h2
  refine ⟨⟨fun p hp => k.ok p (by rw [h1]; exact List.mem_cons_of_mem _ hp), k.ln⟩, ?_⟩
  exact (k.ok (l, row) (by rw [h1]; simp)).1
theorem repStep_nl {key : Bs} {R R' : Rdr} (h : repStep key R = .ok R') (k : Nl R) : Nl R' := by
  unfold repStep at h
  split at h
  · cases h
  · rename_i row R1 hg
    have m := grow_nl hg k
    split at h
    · cases h
    · injection h with h
      subst h
      exact ⟨m.1.ok, m.1.ln⟩
theorem aliStep_nl {key : Bs} {R R' : Rdr} (h : aliStep key R = .ok R') (k : Nl R) : Nl R' := by
  unfold aliStep at h
  split at h
  · cases h
  · rename_i row R1 hg
    have m := grow_nl hg k
    split at h
    · cases h
    · injection h with h
      subst h
      exact ⟨m.1.ok, m.1.ln⟩
theorem rulStep_nl {beg : List Bs} {c : Cls} {R R' : Rdr} (h : rulStep beg c R = .ok R') (k : Nl R) : Nl R' := by
  unfold rulStep at h
  split at h
  · cases h
  · rename_i row R1 hg
    have m := grow_nl hg k
    split at h
    · cases h
    · rename_i p hp
      injection h with h
      subst h
      refine ⟨m.1.ok, fun r hr => ?_⟩
      rcases List.mem_append.1 hr with q | q
      · exact m.1.ln r q
      · simp at q
        subst q
        rw [rule_line hp]
        exact m.2
theorem doKey_nl {R R' : Rdr} {h : List Bs} {k : Key} (hk : doKey R h k = .ok R') (hn : Nl R) : Nl R' := by
  have triv : ∀ (f : Except Er Rdr) , f = .ok R' → (∀ R1, f = .ok R1 → R1.file.rules = R.file.rules ∧ R1.rows = R.rows) → Nl R' := by
    intro f hf q
    obtain ⟨e1, e2⟩ := q R' hf
    exact ⟨by rw [e2]; exact hn.ok, by rw [e1]; exact hn.ln⟩
  cases k with
  | reps =>
    simp only [doKey, doReps] at hk
    split at hk
    · cases hk
    · exact times_rel (rel := fun R R' => Nl R → Nl R') (fun R h => h) (fun a b c x y z => y (x z)) (fun R R' q => repStep_nl q) _ _ _ hk hn
  | aliases =>
    simp only [doKey, doAliases] at hk
    split at hk
    · cases hk
    · split at hk
      · cases hk
      · exact times_rel (rel := fun R R' => Nl R → Nl R') (fun R h => h) (fun a b c x y z => y (x z)) (fun R R' q => aliStep_nl q) _ _ _ hk hn
  | cls kk =>
    simp only [doKey, doClass] at hk
    split at hk
    · cases hk
    · split at hk
      · cases hk
      · split at hk
        · cases hk
        · split at hk
          · cases hk
          · exact times_rel (rel := fun R R' => Nl R → Nl R') (fun R h => h) (fun a b c x y z => y (x z)) (fun R R' q => rulStep_nl q) _ _ _ hk ⟨hn.ok, hn.ln⟩
  | _ =>
    refine triv _ hk fun R1 q => ?_
    simp only [doKey, doKind, doCharset, doLetters, doSpecial, doLeast] at q
    repeat' split at q
    all_goals first | (cases q; done) | (injection q with q; subst q; exact ⟨rfl, rfl⟩)
theorem heading_nl {R R' : Rdr} {l : Nat} {hd : List Bs} (h : heading R l hd = .ok R') (hn : Nl R) : Nl R' := by
  unfold heading at h
  split at h
  · cases h
  · split at h
    · cases h
    · split at h
      · cases h
      · split at h
        · cases h
        · rename_i R2 hd2
          injection h with h
          subst h
          have := doKey_nl (R := { R with line := l }) hd2 ⟨hn.ok, hn.ln⟩
          exact ⟨this.ok, this.ln⟩
/-! the walk -/
def badR (F : Fil) (r : Rul) : Bool := !(r.next.all (goesOn F))
/-- the rules before this one all go on -/
def NS (B rb : Nat) (w W : World) (R : Rdr) (P : Pts) (j : Nat) : Prop := ∃ lj, RAt B W rb { R with line := lj } P ∧ Kt B P.pm P.hm w W ∧ (R.file.rules.take j).find? (badR R.file) = none
def CRes (B rb : Nat) (P : Pts) (R : Rdr) (w : World) (e : Ending) (w' : World) : Prop :=
  Kt B P.pm P.hm w w' ∧ match nexts R.file with
  | none => e = .returned (.tuple #[]) ∧ ∃ l, RAt B w' rb { R with line := l } P
  | some k => e = .panicked (chn (k, 118))
theorem RAt.line {B rb : Nat} {R : Rdr} {P : Pts} {w : World} (h : RAt B w rb R P) (l : Nat) (hl : l ≤ 65537) : RAt B (w.setCell ⟨rb, 2, none⟩ (.int .i64 (l : Nat))) rb { R with line := l } P ∧ Kt B P.pm P.hm w (w.setCell ⟨rb, 2, none⟩ (.int .i64 (l : Nat))) := by
  have k := kp_set w rb 2 (.int .i64 (l : Nat))
  refine ⟨h.turn k (set_heap1 h.rdr _) (rows_kept h.rows (k.kept h.rdr (ne_cells (by decide))) (k.kept h.rdr (ne_cells (by decide)))) (own_kept h.lns (k.kept h.rdr (ne_cells (by decide)))) rfl rfl rfl ⟨h.few.2.1, hl⟩ h.rok, h.kt k ((Below.refl B w).setCell (p := ⟨rb, 2, none⟩) h.rbB _)⟩
theorem zip_get {α β : Type} {a : List α} {b : List β} {j : Nat} {x : α} {y : β} (h1 : a[j]? = some x) (h2 : b[j]? = some y) : (a.zip b)[j]? = some (x, y) := by
  rw [List.getElem?_zip_eq_some]
  exact ⟨h1, h2⟩
set_option maxRecDepth 100000 in
set_option maxHeartbeats 4000000 in
theorem checkNexts_any {B rb : Nat} {R : Rdr} {P : Pts} {w : World} (h : RAt B w rb R P) (hn : Nb R.file) (hl : ∀ r ∈ R.file.rules, r.line ≤ 65536) :
    Calls Tryz.prog 56 #[ptr rb] w (CRes B rb P R w) := by
  have hnx : nexts R.file = (R.file.rules.find? (badR R.file)).map (·.line) := rfl
  obtain ⟨d0, -, -, -, -, d5, -⟩ := h.cells
  obtain ⟨-, -, -, -, k12, -, -⟩ := h.file.cells
  obtain ⟨au, cu, eu, hu1, hu2⟩ := own_len h.file.ruls
  rw [eu] at k12
  unfold maxLen at hu2
  obtain ⟨n, hnn⟩ : ∃ n, R.file.rules.length = n := ⟨_, rfl⟩
  rw [hnn] at k12 hu1
  rcases Nat.eq_zero_or_pos n with hz | hpos
  · subst hz
    have HH := hide h
    have HNN : Hid (nexts R.file = none) := by
      rw [Hid, hnx, List.length_eq_zero_iff.1 hnn]
      rfl
    have hltz : ¬ (0 : Int) < 0 := by omega
    clear h hn hl hnx hnn eu d5
    go_enter Tryz.func56, Tryz.ntmps56
    go_wp2
    go_loopw [13] (fun s13 wr => s13 = .int .i64 0 ∧ wr = w) (fun _ _ => 0)
    case atStart => exact ⟨rfl, rfl⟩
    case round =>
      obtain ⟨rfl, rfl⟩ := hrel
      go_wp2
      go_end0
      refine ⟨Kt.refl _ _ _ _, ?_⟩
      rw [unhide HNN]
      exact ⟨rfl, R.line, unhide HH⟩
  obtain ⟨gu, cu0, e10, -, -, -, -, -, -⟩ := own_at h.file.ruls (by omega)
  rw [hnn] at e10 eu
  rw [eu] at e10
  injection e10 with e10 _ _
  subst e10
  have HN := hide hnn
  have HEU := hide eu
  have HH := hide h
  have HNB := hide hn
  have HLL := hide hl
  have HNX := hide hnx
  clear h hn hl hnx hnn eu
  go_enter Tryz.func56, Tryz.ntmps56
  go_wp2
  go_loopw [13] (fun s13 wr => ∃ j : Nat, s13 = .int .i64 j ∧ j ≤ n ∧ Hid (NS B rb w wr R P j)) (fun s13 _ => n - (intOf s13).toNat)
  case atStart => exact ⟨0, rfl, Nat.zero_le _, ⟨R.line, unhide HH, Kt.refl _ _ _ _, rfl⟩⟩
  case round =>
    obtain ⟨j, rfl, hj, HR⟩ := hrel
    clear d0 d5 k12
    by_cases hlt : j < n
    · have hltz : (j : Int) < (n : Int) := by omega
      have hj0 : ¬ (j : Int) < 0 := by omega
      obtain ⟨lj, hA, hK, hF⟩ := unhide HR
      have hjr : j < R.file.rules.length := by rw [unhide HN]; exact hlt
      obtain ⟨r, hr⟩ : ∃ r, R.file.rules[j]? = some r := ⟨_, List.getElem?_eq_getElem hjr⟩
      obtain ⟨v, hv⟩ : ∃ v, P.nv[j]? = some v := ⟨_, List.getElem?_eq_getElem (by rw [hA.file.rulF.1]; exact hjr)⟩
      have hfn := hA.file.rulF.2 j v r hv hr
      obtain ⟨gu', cu', e1, -, hgu, -, -, -, hcu⟩ := own_at hA.file.ruls (by show 0 < R.file.rules.length; omega)
      replace e1 : P.vu = .slice (some ⟨gu', 0, none⟩) n cu' := e1.trans (by rw [show ({ R with line := lj } : Rdr).file.rules.length = n from unhide HN])
      rw [unhide HEU] at e1
      injection e1 with e1 _ _
      injection e1 with e1
      injection e1 with e1 _ _
      subst e1
      have q : ∀ k, k < 7 → wr.cell? ⟨gu, j * 7 + k, none⟩ = (rulC r v)[k]? := fun k hk => (hcu _ (by show j * 7 + k < R.file.rules.length * 7; omega)).trans (flat_get (f := fun p : Rul × Value => rulC p.1 p.2) (m := 7) (fun _ => rfl) (zip_get hr hv) hk)
      have q0 := q 0 (by decide)
      have q1 := q 1 (by decide)
      have q2 := q 2 (by decide)
      have q3 := q 3 (by decide)
      have q4 := q 4 (by decide)
      have q5 := q 5 (by decide)
      have q6 := q 6 (by decide)
      simp only [rulC, List.getElem?_cons_zero, List.getElem?_cons_succ, Nat.add_zero] at q0 q1 q2 q3 q4 q5 q6
      obtain ⟨gl, cl', e2, -, hgl, hcl1, hcl2, -, hcl⟩ := own_at hA.lns (by show 0 < R.file.rules.length; omega)
      have p0 : wr.cell? ⟨gl, j, none⟩ = some (.int .i64 (r.line : Nat)) := by
        rw [hcl j (by show j < R.file.rules.length * 1; omega)]
        simp [hr, linC]
      obtain ⟨d0, -, d2, -, -, d5, dz⟩ := hA.cells
      unfold LineAt at d2
      rw [e2] at d5
      replace d5 : wr.cell? ⟨rb, 5, none⟩ = some (.slice (some ⟨gl, 0, none⟩) n cl') := d5.trans (by rw [show ({ R with line := lj } : Rdr).file.rules.length = n from unhide HN])
      unfold maxLen at hcl2
      have hrl := unhide HLL r (List.mem_of_getElem? hr)
      have hbd := unhide HNB |>.nx r (List.mem_of_getElem? hr)
      have HHB := hide hA.base
      obtain ⟨ao, m, c, rfl⟩ : ∃ a m c, v = .slice a m c := by
        rcases hfn with ⟨q, -⟩ | ⟨gq, cq, curq, q, -⟩
        · exact ⟨_, _, _, q⟩
        · exact ⟨_, _, _, q⟩
      have HNT : Hid ((R.file.rules.take (j + 1)).find? (badR R.file) = if badR R.file r then some r else none) := by
        rw [Hid, List.take_succ_eq_append_getElem hjr, (List.getElem?_eq_some_iff.1 hr).2, List.find?_append, hF]
        simp [List.find?_cons]
        cases badR R.file r <;> rfl
      have HKW : Hid (∀ o, RAt B ((wr.setCell ⟨rb, 2, none⟩ (.int .i64 (r.line : Nat))).alloc o) rb { R with line := r.line } P ∧ Kt B P.pm P.hm w ((wr.setCell ⟨rb, 2, none⟩ (.int .i64 (r.line : Nat))).alloc o) ∧ FNx B ((wr.setCell ⟨rb, 2, none⟩ (.int .i64 (r.line : Nat))).alloc o) (.slice ao m c) r.next) := by
        intro o
        obtain ⟨h2, h3⟩ := hA.line r.line (by omega)
        have b1 : Below (wr.setCell ⟨rb, 2, none⟩ (.int .i64 (r.line : Nat))).heap.size (wr.setCell ⟨rb, 2, none⟩ (.int .i64 (r.line : Nat))) ((wr.setCell ⟨rb, 2, none⟩ (.int .i64 (r.line : Nat))).alloc o) := (Below.refl _ _).alloc (Nat.le_refl _) o
        refine ⟨h2.below b1, (hK.trans h3).trans (Kt.of_below b1 h2.base), ?_⟩
        exact fnx_kept (fnx_kept hfn ((kp_set _ rb 2 _).kept hA.rdr (ne_cells (by decide)))) (below_kept b1)
      have HCF := hide (fun o => containsFunc_any (unhide HKW o).1 (.slice ao m c) r.next (unhide HKW o).2.2.arg hbd)
      have hmf : ∀ (fn : Fn) (first cap : Array Value) (w : World), (Instr.makeFunc fn first cap).run Tryz.prog w = .ok (.func fn first cap) w := fun _ _ _ _ => rfl
      have hrb := hA.lt
      have hrb2 : rb ≠ wr.heap.size := Nat.ne_of_lt hrb
      have q66 : ((wr.setCell ⟨rb, 2, none⟩ (.int .i64 (r.line : Nat))).alloc (.cells #[.int .i64 r.kind, .int .u16 r.flag, .bool r.cross, .string (Wd.str r.strip), .string (Wd.str r.add), .string (Wd.str r.cond), .slice ao m c] 78)).cell? ⟨wr.heap.size, 6, none⟩ = some (.slice ao m c) := by
        have e := alloc_new (wr.setCell ⟨rb, 2, none⟩ (.int .i64 (r.line : Nat))) (.cells #[.int .i64 r.kind, .int .u16 r.flag, .bool r.cross, .string (Wd.str r.strip), .string (Wd.str r.add), .string (Wd.str r.cond), .slice ao m c] 78)
        rw [show (wr.setCell ⟨rb, 2, none⟩ (.int .i64 (r.line : Nat))).heap.size = wr.heap.size by simp [World.setCell]] at e
        unfold World.cell?
        simp only
        rw [e]
        rfl
      have q67 : (wr.alloc (.cells #[.int .i64 r.kind, .int .u16 r.flag, .bool r.cross, .string (Wd.str r.strip), .string (Wd.str r.add), .string (Wd.str r.cond), .slice ao m c] 78)).cell? ⟨wr.heap.size, 6, none⟩ = some (.slice ao m c) := by
        unfold World.cell?
        simp only
        rw [alloc_new]
        rfl
      have q68 : ((wr.alloc (.cells #[.int .i64 r.kind, .int .u16 r.flag, .bool r.cross, .string (Wd.str r.strip), .string (Wd.str r.add), .string (Wd.str r.cond), .slice ao m c] 78)).setCell ⟨rb, 2, none⟩ (.int .i64 (r.line : Nat))).cell? ⟨wr.heap.size, 6, none⟩ = some (.slice ao m c) := by
        rw [World.cell?_setCell_far _ _ _ _ hrb2]
        exact q67
      have HRR := hide hr
      clear HR hA hK hF hfn hcu q hcl hbd hv hr hjr e2 hrl
      cases hb : badR R.file r with
      | false =>
        have hb2 : (!(r.next.all (goesOn R.file))) = false := hb
        rw [hb] at HNT
        have HCF2 : Hid (∀ o, Calls Tryz.prog 81 #[.slice ao m c, .func (.func 82) #[ptr rb] #[]] ((wr.setCell ⟨rb, 2, none⟩ (.int .i64 (r.line : Nat))).alloc o) fun e w' => e = .returned (.bool false) ∧ Below ((wr.setCell ⟨rb, 2, none⟩ (.int .i64 (r.line : Nat))).alloc o).heap.size ((wr.setCell ⟨rb, 2, none⟩ (.int .i64 (r.line : Nat))).alloc o) w') := fun o => by
          have := unhide HCF o
          rw [hb2] at this
          exact this
        clear HCF hb hb2
        go_wp2_with (first | (go_at_call 81; refine (unhide HCF2 _).mono ?_; rintro e w2 ⟨rfl, b2⟩; have HB2 := hide b2; clear b2) | (go_at_call 79; refine (leaveIf_f _ _ _ _ rfl).mono ?_; rintro e w3 ⟨rfl, hw3⟩; subst w3))
        go_roundw
        case rel => exact ⟨j + 1, by go_num, by omega, ⟨r.line, (unhide HKW _).1.below (unhide HB2), (unhide HKW _).2.1.trans (Kt.of_below (unhide HB2) (unhide HKW _).1.base), unhide HNT⟩⟩
        case measure => simp [intOf]; omega
      | true =>
        have hb2 : (!(r.next.all (goesOn R.file))) = true := hb
        rw [hb] at HNT
        have HCF2 : Hid (∀ o, Calls Tryz.prog 81 #[.slice ao m c, .func (.func 82) #[ptr rb] #[]] ((wr.setCell ⟨rb, 2, none⟩ (.int .i64 (r.line : Nat))).alloc o) fun e w' => e = .returned (.bool true) ∧ Below ((wr.setCell ⟨rb, 2, none⟩ (.int .i64 (r.line : Nat))).alloc o).heap.size ((wr.setCell ⟨rb, 2, none⟩ (.int .i64 (r.line : Nat))).alloc o) w') := fun o => by
          have := unhide HCF o
          rw [hb2] at this
          exact this
        have HNN : Hid (nexts R.file = some r.line) := by
          have e := unhide HNT
          rw [if_pos rfl] at e
          rw [Hid, unhide HNX]
          have : R.file.rules.find? (badR R.file) = some r := by
            rw [← List.take_append_drop (j + 1) R.file.rules, List.find?_append, e]
            rfl
          rw [this]
          rfl
        clear HCF hb hb2
        go_wp2_with (first | (go_at_call 81; refine (unhide HCF2 _).mono ?_; rintro e w2 ⟨rfl, b2⟩; have HB2 := hide b2; have HV := hide (leaveIf_no rb r.line 118 w2 (by decide) (by decide) ((unhide HKW _).1.below b2).cells.2.2.1); clear b2) | (go_at_call 79; refine (unhide HV).mono ?_; rintro e w3 ⟨rfl, hw3⟩; subst w3))
        refine ⟨rfl, (unhide HKW _).2.1.trans (Kt.of_below (unhide HB2) (unhide HKW _).1.base), ?_⟩
        rw [unhide HNN]
    · obtain rfl : j = n := by omega
      have hltz : ¬ (j : Int) < (j : Int) := by omega
      obtain ⟨lj, hA, hK, hF⟩ := unhide HR
      have HA := hide hA
      have HK := hide hK
      have HNN : Hid (nexts R.file = none) := by
        rw [Hid, unhide HNX]
        rw [List.take_of_length_le (Nat.le_of_eq (unhide HN))] at hF
        rw [hF]
        rfl
      clear HR hA hK hF
      go_wp2
      go_end0
      refine ⟨unhide HK, ?_⟩
      rw [unhide HNN]
      exact ⟨rfl, lj, unhide HA⟩
end Af
end Go.Proofs.YtlajdmjpobckhaaGreatDoor
/- The reader: the deferred closure that catches a fault. -/
namespace Go.Proofs.YtlajdmjpobckhaaGreatDoor
open Go.RowKit
namespace Af
open RowB
theorem fault3 {w : World} {b : Nat} {a0 a1 a2 : Value} (h : w.heap[b]? = some (.cells #[a0, a1, a2] 29 (0, 0))) : w.cell? ⟨b, 0, none⟩ = some a0 ∧ w.cell? ⟨b, 1, none⟩ = some a1 ∧ w.cell? ⟨b, 2, none⟩ = some a2 ∧ ∀ k, w.frozen? ⟨b, k, none⟩ = false := by
  refine ⟨?_, ?_, ?_, fun k => ?_⟩ <;> simp [World.cell?, World.frozen?, h]
/-- what the closure leaves: the fault in the named result -/
def fwr (w : World) (b : Nat) (e : Er) : World := ((w.setCell ⟨b, 0, none⟩ (.int .i64 1)).setCell ⟨b, 1, none⟩ (.int .i64 (e.1 : Nat))).setCell ⟨b, 2, none⟩ (.int .i64 (e.2 : Nat))
theorem assert_fault (v : Value) (W : World) : (Instr.typeAssert (.iface 29 v) 20 29 true).run Tryz.prog W = .ok (.tuple #[v, .bool true]) W := by kernel_rfl
set_option maxRecDepth 100000 in
set_option maxHeartbeats 1000000 in
theorem catch_panicking (b : Nat) (er : Er) (older : List PanicEntry) (a0 a1 a2 : Value) (w : World) (hb : w.heap[b]? = some (.cells #[a0, a1, a2] 29 (0, 0))) :
    CallsD Tryz.prog 52 #[.pointer (some ⟨b, 0, none⟩)] (.panicking (chn er ++ older)) w fun e u' w' =>
      e = .returned (.tuple #[]) ∧ u' = .panicking ({ v := .iface 29 (.agg #[.int .i64 1, .int .i64 (er.1 : Nat), .int .i64 (er.2 : Nat)]), recovered := true } :: older) ∧ ∃ o, w' = (fwr w b er).alloc o := by
  obtain ⟨c0, c1, c2, cz⟩ := fault3 hb
  have hlt := lt_some hb
  refine callsD_of_wpS Tryz.func52 rfl fun c₀ cs hu => ?_
  apply wpS_seq
  apply wpS_region
  simp [wpOpsS, go_sem, recoverD, hu, chn, Tryz.ntmps52, Exit.thenS]
  refine wpS_of_wp ?_
  show Code.wp _ _ _ ⟨#[.pointer (some ⟨b, 0, none⟩), undef, undef, undef, .iface 29 (.agg #[.int .i64 1, .int .i64 (er.1 : Nat), .int .i64 (er.2 : Nat)]), undef, undef, undef, undef, undef, undef], []⟩ w
  clear hu
  have hta := assert_fault (.agg #[.int .i64 1, .int .i64 (er.1 : Nat), .int .i64 (er.2 : Nat)])
  go_wp2
  refine ⟨rfl, _, rfl, .tuple #[], ?_, rfl, rfl, _, rfl⟩
  simp [results, Tryz.results52]
theorem catch_idle (b : Nat) (w : World) :
    CallsD Tryz.prog 52 #[.pointer (some ⟨b, 0, none⟩)] .returning w fun e u' w' => e = .returned (.tuple #[]) ∧ u' = .returning ∧ w' = w := by
  refine callsD_of_wpS Tryz.func52 rfl fun c₀ cs hu => ?_
  apply wpS_seq
  apply wpS_region
  simp [wpOpsS, go_sem, recoverD, hu, Tryz.ntmps52, Exit.thenS]
  refine wpS_of_wp ?_
  show Code.wp _ _ _ ⟨#[.pointer (some ⟨b, 0, none⟩), undef, undef, undef, .nilIface, undef, undef, undef, undef, undef, undef], []⟩ w
  go_wp2
  refine ⟨rfl, _, rfl, .tuple #[], ?_, rfl, ?_, rfl⟩
  · simp [results, Tryz.results52]
  · exact hu
theorem fwr_heap {w : World} {b : Nat} {a0 a1 a2 : Value} (er : Er) (h : w.heap[b]? = some (.cells #[a0, a1, a2] 29 (0, 0))) : (fwr w b er).heap[b]? = some (.cells #[.int .i64 1, .int .i64 (er.1 : Nat), .int .i64 (er.2 : Nat)] 29 (0, 0)) := by
  have := set_heap1 (k := 2) (set_heap1 (k := 1) (set_heap1 (k := 0) h (.int .i64 1)) (.int .i64 (er.1 : Nat))) (.int .i64 (er.2 : Nat))
  simpa [fwr] using this
theorem fwr_below (B : Nat) (w : World) (b : Nat) (er : Er) (h : B ≤ b) : Below B w (fwr w b er) := (((Below.refl B w).setCell (p := ⟨b, 0, none⟩) h _).setCell (p := ⟨b, 1, none⟩) h _).setCell (p := ⟨b, 2, none⟩) h _
end Af
end Go.Proofs.YtlajdmjpobckhaaGreatDoor
