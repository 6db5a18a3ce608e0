/- The reader: what a rule adds, with the flags that go on from it. -/
import Derived.Test.YtlmahoogkogpdaaGreatDoorGf20
namespace Go.Proofs.YtlmahoogkogpdaaGreatDoor
open Go.RowKit
namespace Af
open RowB
/-- how what a rule adds is answered -/
def ARes (w : World) (X : Except Er (Bs × List Int)) (e : Ending) (w' : World) : Prop :=
  Below w.heap.size w w' ∧ match X with
  | .ok p => ∃ u, e = .returned (.tuple #[.string (Wd.str p.1), u]) ∧ FNx w.heap.size w' u p.2
  | .error er => e = .panicked (chn er)
theorem ARes.no {w w' : World} {X : Except Er (Bs × List Int)} {er : Er} (hX : X = .error er) (k : Below w.heap.size w w') : ARes w X (.panicked (chn er)) w' := by
  subst hX
  exact ⟨k, rfl⟩
theorem ARes.yes {w w' : World} {X : Except Er (Bs × List Int)} {p : Bs × List Int} {u : Value} (hX : X = .ok p) (k : Below w.heap.size w w') (h : FNx w.heap.size w' u p.2) : ARes w X (.returned (.tuple #[.string (Wd.str p.1), u])) w' := by
  subst hX
  exact ⟨k, u, rfl, h⟩
theorem aOk {w : World} {X : Except Er (Bs × List Int)} {p : Bs × List Int} {g : FuncId} {args : Array Value} (h : Calls Tryz.prog g args w (ARes w X)) (hX : X = .ok p) : Calls Tryz.prog g args w fun e w' => ∃ u, e = .returned (.tuple #[.string (Wd.str p.1), u]) ∧ FNx w.heap.size w' u p.2 ∧ Below w.heap.size w w' := by
  subst hX
  exact h.mono fun e w' ⟨k, u, q1, q2⟩ => ⟨u, q1, q2, k⟩
theorem aNo {w : World} {X : Except Er (Bs × List Int)} {er : Er} {g : FuncId} {args : Array Value} (h : Calls Tryz.prog g args w (ARes w X)) (hX : X = .error er) : Calls Tryz.prog g args w fun e w' => e = .panicked (chn er) ∧ Below w.heap.size w w' := by
  subst hX
  exact h.mono fun e w' ⟨k, q⟩ => ⟨q, k⟩
theorem readE_pos (l : List Int) : 0 ≤ So.readE l := by
  unfold So.readE
  repeat' split
  all_goals omega
theorem rE_pos (k : Int) (s : Bs) : 0 ≤ So.rE k s := by
  unfold So.rE
  split
  · exact readE_pos _
  · omega
theorem flgE_pos (F : Fil) (s : Bs) : 0 ≤ flgE F s := by
  unfold flgE
  split
  · exact rE_pos _ _
  · split <;> omega
theorem added_pre {F : Fil} {l : Nat} {f a r d : Bs} (h : Wd.rd [] f = some (a, r, true)) (ha : addW l a = .ok d) : added F l 1 f = .error (l, 118) := by unfold added; rw [h]; simp [ha]
theorem added_bad {F : Fil} {l : Nat} {k : Int} {f a r d : Bs} (h : Wd.rd [] f = some (a, r, true)) (ha : addW l a = .ok d) (hk : k ≠ 1) (he : flgE F r ≠ 0) : added F l k f = .error (l, (flgE F r).toNat) := by unfold added; rw [h]; simp [ha, hk, he]
theorem added_fl {F : Fil} {l : Nat} {k : Int} {f a r d : Bs} (h : Wd.rd [] f = some (a, r, true)) (ha : addW l a = .ok d) (hk : k ≠ 1) (he : flgE F r = 0) : added F l k f = .ok (d, flgS F r) := by unfold added; rw [h]; simp [ha, hk, he]
set_option maxHeartbeats 4000000 in
theorem added_all {B rb : Nat} {R : Rdr} {P : Pts} {w : World} (h : RAt B w rb R P) (hM : Mx B w) (k : Int) (s : ByteArray) (hs : s.size ≤ 65536) :
    Calls Tryz.prog 114 #[ptr rb, .int .i64 k, .string s] w (ARes w (added R.file R.line k s.data.toList)) := by
  obtain ⟨d0, -, hl, -, -, -, -⟩ := h.cells
  have hb := h.lt
  by_cases hn : ∀ a r, Wd.rd [] s.data.toList ≠ some (a, r, true)
  · refine (added_any rb R.line R.file k s w hs hb hl hn).mono ?_
    rintro e w' ⟨rfl, b⟩
    cases hx : added R.file R.line k s.data.toList with
    | error er => exact ARes.no rfl b
    | ok p =>
      have hp : p.2 = [] := by
        unfold added at hx
        rcases hr : Wd.rd [] s.data.toList with _ | ⟨a, r, c⟩
        · rw [hr] at hx; cases hx
        · cases c with
          | true => exact absurd hr (hn a r)
          | false =>
            rw [hr] at hx
            simp only at hx
            split at hx
            · cases hx
            · simp at hx; rw [← hx]
      exact ARes.yes rfl b (by rw [hp]; exact fnx_nil _ _)
  · obtain ⟨a, r, hr⟩ : ∃ a r, Wd.rd [] s.data.toList = some (a, r, true) := by
      exact Classical.byContradiction fun q => hn fun a r e => q ⟨a, r, e⟩
    have hR := RdW.read_any s w (by omega)
    rw [hr] at hR
    have HR := hide hR
    unfold RdW.ans at HR
    have hz := rd_len0 hr
    have HL := hide (fun W => leave_ok (ptr rb) W)
    have HF := hide (fun W (b : Below w.heap.size w W) => flags_any (h.file.below b) (hM.low (b.mono h.base)) (Wd.str r) (by omega))
    rw [Wd.str_list] at HF
    have HBr := hide h.base
    have HA := fun w2 (b2 : Below w.heap.size w w2) => checkAffix_any rb R.line (Wd.str a) w2 (by omega) (Nat.lt_of_lt_of_le hb b2.size) (lineB hl hb b2)
    rw [Wd.str_list] at HA
    have HVI := hide (fun w2 (b2 : Below w.heap.size w w2) => leaveIf_no rb R.line 118 w2 (by decide) (by decide) (lineB hl hb b2))
    have HIF := hide (fun W => leaveIf_ok (ptr rb) 118 W)
    have HVF : Hid (∀ w2, Below w.heap.size w w2 → flgE R.file r ≠ 0 → Calls Tryz.prog 50 #[.pointer (some ⟨rb, 0, none⟩), .int .i64 (flgE R.file r)] w2 fun e w' => e = .panicked (chn (R.line, (flgE R.file r).toNat)) ∧ w' = w2) := fun w2 b2 hc => leave_no rb R.line _ w2 hc (flgE_pos _ _) (lineB hl hb b2)
    clear hR hs hz hn hM h hl
    have H0 := hide hr
    clear hr
    generalize s.data.toList = sl at *
    by_cases h48 : a = [48]
    · have hq : ((Wd.str a).toList == [48]) = true := by rw [h48, Lib.toList_data]; rfl
      have HD : addW R.line a = .ok [] := by rw [h48]; exact addW_zero
      clear h48
      by_cases hk : k = 1
      · subst hk
        have HX := hide (added_pre (F := R.file) (l := R.line) (unhide H0) HD)
        clear HF HVF HIF HA
        go_enter Tryz.func114, Tryz.ntmps114
        go_wp2_with (first | (go_at_call 112; refine (unhide HR).mono ?_; rintro e w2 ⟨rfl, b2⟩; have e2 := (b2.cell (p := ⟨rb, 0, none⟩) hb).trans d0; clear d0) | (go_at_call 50; refine (unhide HL _).mono ?_; rintro e w3 ⟨rfl, rfl⟩) | (go_at_call 61; refine (unhide HVI _ b2).mono ?_; rintro e w6 ⟨rfl, rfl⟩))
        exact ⟨rfl, ARes.no (unhide HX) b2⟩
      · by_cases he : flgE R.file r = 0
        · have hkb : (k == 1) = false := by simpa using hk
          have HX := hide (added_fl (F := R.file) (l := R.line) (k := k) (unhide H0) HD hk he)
          rw [he] at HF
          clear HVF HVI hk he HA
          go_enter Tryz.func114, Tryz.ntmps114
          go_wp2_with (first | (go_at_call 112; refine (unhide HR).mono ?_; rintro e w2 ⟨rfl, b2⟩; have e2 := (b2.cell (p := ⟨rb, 0, none⟩) hb).trans d0; clear d0) | (go_at_call 50; refine (unhide HL _).mono ?_; rintro e w3 ⟨rfl, rfl⟩) | (go_at_call 61; refine (leaveIf_f _ _ _ _ (by first | rfl | simpa using hkb)).mono ?_; rintro e w6 ⟨rfl, rfl⟩) | (go_at_call 9; refine (unhide HF _ b2).mono ?_; rintro e w7 ⟨u, rfl, f7, b7⟩; have b8 := btr b2 b7))
          go_ret2
          exact ARes.yes (unhide HX) b8 (f7.low b2.size)
        · have hkb : (k == 1) = false := by simpa using hk
          have HX := hide (added_bad (F := R.file) (l := R.line) (k := k) (unhide H0) HD hk he)
          have HVG := hide (fun w2 b2 => unhide HVF w2 b2 he)
          generalize flgE R.file r = cd at *
          clear HVF HVI hk he HA
          go_enter Tryz.func114, Tryz.ntmps114
          go_wp2_with (first | (go_at_call 112; refine (unhide HR).mono ?_; rintro e w2 ⟨rfl, b2⟩; have e2 := (b2.cell (p := ⟨rb, 0, none⟩) hb).trans d0; clear d0) | (go_at_call 50; refine (unhide HL _).mono ?_; rintro e w3 ⟨rfl, rfl⟩; clear HL) | (go_at_call 61; refine (leaveIf_f _ _ _ _ (by first | rfl | simpa using hkb)).mono ?_; rintro e w6 ⟨rfl, rfl⟩) | (go_at_call 9; refine (unhide HF _ b2).mono ?_; rintro e w7 ⟨u, rfl, f7, b7⟩; have b8 := btr b2 b7))
          refine (unhide HVG _ b8).mono ?_
          rintro e w8 ⟨rfl, rfl⟩
          exact ⟨rfl, ARes.no (unhide HX) b8⟩
    · have hne : ((Wd.str a).toList == [48]) = false := by
        rw [beq_eq_false_iff_ne, Lib.toList_data, Wd.str_list]
        exact h48
      cases hc : ckA R.line a with
      | error er =>
        have HAA := hide (fun w2 b2 => noOf (HA w2 b2) hc)
        have HX := hide (added_no (F := R.file) (l := R.line) (k := k) (unhide H0) (addW_no h48 hc))
        clear HA hc h48 HF HVF HVI HIF
        go_enter Tryz.func114, Tryz.ntmps114
        go_wp2_with (first | (go_at_call 112; refine (unhide HR).mono ?_; rintro e w2 ⟨rfl, b2⟩; have e2 := (b2.cell (p := ⟨rb, 0, none⟩) hb).trans d0; clear d0) | (go_at_call 50; refine (unhide HL _).mono ?_; rintro e w3 ⟨rfl, rfl⟩) | (go_at_call 113; refine (unhide HAA _ b2).mono ?_; rintro e w4 ⟨rfl, b4⟩))
        exact ⟨rfl, ARes.no (unhide HX) (btr b2 b4)⟩
      | ok u0 =>
        have HAA := hide (fun w2 b2 => okOf (HA w2 b2) hc)
        have HD : addW R.line a = .ok a := addW_ok h48 hc
        by_cases hk : k = 1
        · subst hk
          have HX := hide (added_pre (F := R.file) (l := R.line) (unhide H0) HD)
          clear HF HVF HIF HA hc h48
          go_enter Tryz.func114, Tryz.ntmps114
          go_wp2_with (first | (go_at_call 112; refine (unhide HR).mono ?_; rintro e w2 ⟨rfl, b2⟩; have e2 := (b2.cell (p := ⟨rb, 0, none⟩) hb).trans d0; clear d0) | (go_at_call 50; refine (unhide HL _).mono ?_; rintro e w3 ⟨rfl, rfl⟩) | (go_at_call 113; refine (unhide HAA _ b2).mono ?_; rintro e w4 ⟨rfl, b4⟩; have b24 := btr b2 b4; have e4 := (b4.cell (p := ⟨rb, 0, none⟩) (Nat.lt_of_lt_of_le hb b2.size)).trans e2) | (go_at_call 61; refine (unhide HVI _ b24).mono ?_; rintro e w6 ⟨rfl, rfl⟩))
          exact ⟨rfl, ARes.no (unhide HX) b24⟩
        · by_cases he : flgE R.file r = 0
          · have hkb : (k == 1) = false := by simpa using hk
            have HX := hide (added_fl (F := R.file) (l := R.line) (k := k) (unhide H0) HD hk he)
            rw [he] at HF
            clear HVF HVI hk he HA hc h48
            go_enter Tryz.func114, Tryz.ntmps114
            go_wp2_with (first | (go_at_call 112; refine (unhide HR).mono ?_; rintro e w2 ⟨rfl, b2⟩; have e2 := (b2.cell (p := ⟨rb, 0, none⟩) hb).trans d0; clear d0) | (go_at_call 50; refine (unhide HL _).mono ?_; rintro e w3 ⟨rfl, rfl⟩) | (go_at_call 113; refine (unhide HAA _ b2).mono ?_; rintro e w4 ⟨rfl, b4⟩; have b24 := btr b2 b4; have e4 := (b4.cell (p := ⟨rb, 0, none⟩) (Nat.lt_of_lt_of_le hb b2.size)).trans e2) | (go_at_call 61; refine (leaveIf_f _ _ _ _ (by first | rfl | simpa using hkb)).mono ?_; rintro e w6 ⟨rfl, rfl⟩) | (go_at_call 9; refine (unhide HF _ b24).mono ?_; rintro e w7 ⟨u, rfl, f7, b7⟩; have b8 := btr b24 b7))
            go_ret2
            exact ARes.yes (unhide HX) b8 (f7.low b24.size)
          · have hkb : (k == 1) = false := by simpa using hk
            have HX := hide (added_bad (F := R.file) (l := R.line) (k := k) (unhide H0) HD hk he)
            have HVG := hide (fun w2 b2 => unhide HVF w2 b2 he)
            generalize flgE R.file r = cd at *
            clear HVF HVI hk he HA hc h48
            go_enter Tryz.func114, Tryz.ntmps114
            go_wp2_with (first | (go_at_call 112; refine (unhide HR).mono ?_; rintro e w2 ⟨rfl, b2⟩; have e2 := (b2.cell (p := ⟨rb, 0, none⟩) hb).trans d0; clear d0) | (go_at_call 50; refine (unhide HL _).mono ?_; rintro e w3 ⟨rfl, rfl⟩; clear HL) | (go_at_call 113; refine (unhide HAA _ b2).mono ?_; rintro e w4 ⟨rfl, b4⟩; have b24 := btr b2 b4; have e4 := (b4.cell (p := ⟨rb, 0, none⟩) (Nat.lt_of_lt_of_le hb b2.size)).trans e2) | (go_at_call 61; refine (leaveIf_f _ _ _ _ (by first | rfl | simpa using hkb)).mono ?_; rintro e w6 ⟨rfl, rfl⟩) | (go_at_call 9; refine (unhide HF _ b24).mono ?_; rintro e w7 ⟨u, rfl, f7, b7⟩; have b8 := btr b24 b7))
            refine (unhide HVG _ b8).mono ?_
            rintro e w8 ⟨rfl, rfl⟩
            exact ⟨rfl, ARes.no (unhide HX) b8⟩
end Af
end Go.Proofs.YtlmahoogkogpdaaGreatDoor
/- Plain: what a reader of an affix file answers hangs on the rows that it took alone; the lines of its rows are told and kept, and never looked at. -/
namespace Go.Proofs.YtlmahoogkogpdaaGreatDoor
namespace Af
/-! faults at a line -/
def tell {α : Type} (l : Nat) : Except Nat α → Except Er α
  | .error c => .error (l, c)
  | .ok a => .ok a
def Tells {α : Type} (X : Nat → Except Er α) : Prop := ∃ Y, (∀ c, Y = .error c → c ≠ 0) ∧ ∀ l, X l = tell l Y
theorem tells_ok {α : Type} (a : α) : Tells (fun _ => .ok a) := ⟨.ok a, (fun c h => by cases h), fun _ => rfl⟩
theorem tells_no {α : Type} (c : Nat) (h : c ≠ 0 := by decide) : Tells (α := α) (fun l => .error (l, c)) := ⟨.error c, (fun d e => by injection e with e; exact e ▸ h), fun _ => rfl⟩
theorem tells_if {α : Type} {p : Prop} [Decidable p] {X Z : Nat → Except Er α} (h : p → Tells X) (k : ¬ p → Tells Z) : Tells (fun l => if p then X l else Z l) := by
  by_cases hp : p
  · obtain ⟨Y, h0, hY⟩ := h hp
    exact ⟨Y, h0, fun l => (if_pos hp).trans (hY l)⟩
  · obtain ⟨Y, h0, hY⟩ := k hp
    exact ⟨Y, h0, fun l => (if_neg hp).trans (hY l)⟩
theorem tells_ite {α : Type} {p : Prop} [Decidable p] {X Z : Nat → Except Er α} (h : Tells X) (k : Tells Z) : Tells (fun l => if p then X l else Z l) := tells_if (fun _ => h) (fun _ => k)
theorem tells_then {α β : Type} {X : Nat → Except Er α} (Z : α → Nat → Except Er β) {W : Nat → Except Er β} (h : Tells X) (k : ∀ a, Tells (Z a)) (h1 : ∀ l e, X l = .error e → W l = .error e) (h2 : ∀ l a, X l = .ok a → W l = Z a l) : Tells W := by
  obtain ⟨Y, h0, hY⟩ := h
  cases Y with
  | error c => exact ⟨.error c, (fun d e => by injection e with e; exact h0 d (by rw [e])), fun l => h1 l _ (hY l)⟩
  | ok a =>
    obtain ⟨Y2, h3, hY2⟩ := k a
    exact ⟨Y2, h3, fun l => (h2 l a (hY l)).trans (hY2 l)⟩
theorem tells_ckB (t : Bs) : Tells (fun l => ckB l t) := by
  unfold ckB
  exact tells_ite (tells_ok _) (tells_no _)
theorem tells_ckA (t : Bs) : Tells (fun l => ckA l t) := by
  unfold ckA
  exact tells_ite (tells_ite (tells_no _) (tells_ok _)) (tells_no _)
theorem tells_piece (f : Bs) : Tells (fun l => piece l f) := by
  unfold piece
  cases Wd.rd [] f with
  | none => exact tells_no _
  | some p =>
    obtain ⟨a, r, c⟩ := p
    refine tells_ite (tells_no _) ?_
    exact tells_then (fun _ _ => .ok a) (tells_ckA a) (fun _ => tells_ok _) (fun l e h => by simp only [h]) (fun l x h => by simp only [h])
theorem tells_piece0 (f : Bs) : Tells (fun l => piece0 l f) := by
  unfold piece0
  exact tells_ite (tells_ok _) (tells_piece f)
theorem tells_numb (f : Bs) (m : Nat) : Tells (fun l => numb l f m) := by
  unfold numb
  exact tells_ite (tells_ok _) (tells_no _)
theorem tells_repRow (row : List Bs) : Tells (fun l => repRow l row) := by
  unfold repRow
  refine tells_ite (tells_no _) ?_
  refine tells_then (fun a l => match piece0 l (fld row 2) with
    | .error e => .error e
    | .ok b => .ok (a, b)) (tells_piece (fld row 1)) (fun a => ?_) (fun l e h => by simp only [h]) (fun l x h => by simp only [h]; cases piece0 l (fld row 2) <;> rfl)
  exact tells_then (fun b _ => .ok (a, b)) (tells_piece0 (fld row 2)) (fun b => tells_ok _) (fun l e h => by simp only [h]) (fun l x h => by simp only [h])
theorem tells_aliRow (F : Fil) (row : List Bs) : Tells (fun l => aliRow F l row) := by
  unfold aliRow
  have := rE_pos F.kind (fld row 1)
  exact tells_ite (tells_no _) (tells_if (fun h => tells_no _ (by omega)) (fun _ => tells_ok _))
theorem tells_addW (a : Bs) : Tells (fun l => addW l a) := by
  unfold addW
  refine tells_ite (tells_ok _) ?_
  exact tells_then (fun _ _ => .ok a) (tells_ckA a) (fun _ => tells_ok _) (fun l e h => by simp only [h]) (fun l x h => by simp only [h])
theorem tells_added (F : Fil) (k : Int) (f : Bs) : Tells (fun l => added F l k f) := by
  unfold added
  cases Wd.rd [] f with
  | none => exact tells_no _
  | some p =>
    obtain ⟨a, r, c⟩ := p
    simp only
    have := flgE_pos F r
    exact tells_then (fun d l => if c = false then .ok (d, []) else if k = 1 then .error (l, 118) else if flgE F r ≠ 0 then .error (l, (flgE F r).toNat) else .ok (d, flgS F r)) (tells_addW a) (fun d => tells_ite (tells_ok _) (tells_ite (tells_no _) (tells_if (fun h => tells_no _ (by omega)) (fun _ => tells_ok _)))) (fun l e h => by simp only [h]) (fun l x h => by simp only [h])
theorem tells_condn (f : Bs) : Tells (fun l => condn l f) := by
  unfold condn
  exact tells_then (fun _ l => if (Cd.rd f).2 ≠ 0 then .error (l, (Cd.rd f).2) else .ok (Cd.sws (Cd.rd f).1)) (tells_ckB f) (fun _ => tells_if (fun h => tells_no _ h) (fun _ => tells_ok _)) (fun l e h => by simp only [h]) (fun l x h => by simp only [h])
/-- a rule without its line -/
def ruleC (_F : Fil) (c : Cls) (row : List Bs) (s : Bs) (p : Bs × List Int) (l : Nat) : Except Er Rul := if row.length = 5 then (match condn l (fld row 4) with
  | .error e => .error e
  | .ok k => .ok ⟨c.kind, c.flag, c.cross, s, p.1, k, p.2, 0⟩) else .ok ⟨c.kind, c.flag, c.cross, s, p.1, [46], p.2, 0⟩
def ruleA (F : Fil) (c : Cls) (row : List Bs) (s : Bs) (l : Nat) : Except Er Rul := match added F l c.kind (fld row 3) with
  | .error e => .error e
  | .ok p => ruleC F c row s p l
def rule0 (F : Fil) (c : Cls) (row : List Bs) (l : Nat) : Except Er Rul :=
  if row.length ≠ 4 ∧ row.length ≠ 5 then .error (l, 111) else match piece0 l (fld row 2) with
  | .error e => .error e
  | .ok s => ruleA F c row s l
theorem tells_rule0 (F : Fil) (c : Cls) (row : List Bs) : Tells (rule0 F c row) := by
  unfold rule0
  refine tells_ite (tells_no _) ?_
  refine tells_then (ruleA F c row) (tells_piece0 (fld row 2)) (fun s => ?_) (fun l e h => by simp only [h]) (fun l x h => by simp only [h])
  unfold ruleA
  refine tells_then (ruleC F c row s) (tells_added F c.kind (fld row 3)) (fun p => ?_) (fun l e h => by simp only [h]) (fun l x h => by simp only [h])
  unfold ruleC
  refine tells_ite ?_ (tells_ok _)
  exact tells_then (fun k _ => .ok ⟨c.kind, c.flag, c.cross, s, p.1, k, p.2, 0⟩) (tells_condn (fld row 4)) (fun k => tells_ok _) (fun l e h => by simp only [h]) (fun l x h => by simp only [h])
theorem rule_eq (F : Fil) (l : Nat) (c : Cls) (row : List Bs) : rule F l c row = match rule0 F c row l with
    | .error e => .error e
    | .ok r => .ok { r with line := l } := by
  unfold rule rule0
  split
  · rfl
  · cases piece0 l (fld row 2) with
    | error e => rfl
    | ok s =>
      simp only
      unfold ruleA
      cases added F l c.kind (fld row 3) with
      | error e => rfl
      | ok p =>
        simp only
        unfold ruleC
        split
        · cases condn l (fld row 4) <;> rfl
        · rfl
def newFlagK (F : Fil) (f : Bs) (l : Nat) : Except Er Int :=
  if One.oneE F.kind f ≠ 0 then .error (l, (One.oneE F.kind f).toNat)
  else if (findC F.classes (One.oneF F.kind f)).isSome ∨ One.oneF F.kind f ∈ F.specials then .error (l, 115)
  else .ok (One.oneF F.kind f)
theorem newFlag_eq (R : Rdr) (f : Bs) : newFlag R f = newFlagK R.file f R.line := rfl
theorem tells_newFlag (F : Fil) (f : Bs) : Tells (newFlagK F f) := by
  unfold newFlagK
  have := oneE_pos F.kind f
  exact tells_if (fun h => tells_no _ (by omega)) (fun _ => tells_ite (tells_no _) (tells_ok _))

/-! what hangs on the rows alone that were taken -/
abbrev RowL := List (Nat × List Bs)
def Rdr.on (R : Rdr) (T : RowL) (b : Nat) : Rdr := { R with rows := T, behind := b }
def lastL (d : Nat) : RowL → Nat
  | [] => d
  | p :: t => lastL p.1 t
theorem lastL_append : ∀ (A B : RowL) (d : Nat), lastL d (A ++ B) = lastL (lastL d A) B
  | [], _, _ => rfl
  | p :: t, B, _d => lastL_append t B p.1
def LocAt (d : Rdr → Nat) (f : Rdr → Except Er Rdr) : Prop := ∀ R,
  (∀ R', f R = .ok R' → ∃ A, R.rows = A ++ R'.rows ∧ R'.behind = R.behind ∧ R'.line = lastL (d R) A ∧ ∀ T b, f (R.on (A ++ T) b) = .ok (R'.on T b)) ∧
  (∀ e, f R = .error e → e.2 ≠ 0 ∧ (e = (R.behind, 116) ∨ ∃ A B, R.rows = A ++ B ∧ e.1 = lastL (d R) A ∧ ∀ T b, f (R.on (A ++ T) b) = .error e))
abbrev Loc (f : Rdr → Except Er Rdr) : Prop := LocAt Rdr.line f
def andThen (f g : Rdr → Except Er Rdr) (R : Rdr) : Except Er Rdr := match f R with
  | .error e => .error e
  | .ok R' => g R'
theorem LocAt.andThen {d : Rdr → Nat} {f g : Rdr → Except Er Rdr} (hf : LocAt d f) (hg : Loc g) : LocAt d (andThen f g) := by
  intro R
  refine ⟨fun R' h => ?_, fun e h => ?_⟩
  · unfold Af.andThen at h
    cases hq : f R with
    | error e => rw [hq] at h; cases h
    | ok R1 =>
      rw [hq] at h
      obtain ⟨A, a1, a2, a3, a4⟩ := (hf R).1 R1 hq
      obtain ⟨A', b1, b2, b3, b4⟩ := (hg R1).1 R' h
      refine ⟨A ++ A', by rw [a1, b1, List.append_assoc], b2.trans a2, by rw [lastL_append, ← a3, b3], fun T b => ?_⟩
      unfold Af.andThen
      rw [List.append_assoc, a4]
      exact b4 T b
  · unfold Af.andThen at h
    cases hq : f R with
    | error e' =>
      rw [hq] at h
      injection h with h
      subst h
      obtain ⟨h0, z | ⟨A, B, a1, a2, a3⟩⟩ := (hf R).2 _ hq
      · exact ⟨h0, .inl z⟩
      · exact ⟨h0, .inr ⟨A, B, a1, a2, fun T b => by unfold Af.andThen; rw [a3]⟩⟩
    | ok R1 =>
      rw [hq] at h
      obtain ⟨A, a1, a2, a3, a4⟩ := (hf R).1 R1 hq
      obtain ⟨h0, z | ⟨A', B, b1, b2, b3⟩⟩ := (hg R1).2 _ h
      · exact ⟨h0, .inl (by rw [z, a2])⟩
      · exact ⟨h0, .inr ⟨A ++ A', B, by rw [a1, b1, List.append_assoc], by rw [lastL_append, ← a3, b2], fun T b => by unfold Af.andThen; rw [List.append_assoc, a4]; exact b3 T b⟩⟩
/-- the file alone changes -/
theorem loc_file (q : Fil → Fil) : Loc (fun R => .ok { R with file := q R.file }) := by
  intro R
  refine ⟨fun R' h => ?_, fun e h => by cases h⟩
  injection h with h
  subst h
  exact ⟨[], rfl, rfl, rfl, fun T b => rfl⟩
theorem loc_ok : Loc (fun R => .ok R) := loc_file id
def taken (k : Nat → List Bs → Fil → Except Er Fil) (R : Rdr) : Except Er Rdr := match R.rows with
  | [] => .error (R.behind, 116)
  | (l, row) :: t => match k l row R.file with
    | .error e => .error e
    | .ok F => .ok { R with rows := t, line := l, file := F }
theorem loc_taken {k : Nat → List Bs → Fil → Except Er Fil} (hk : ∀ l row F e, k l row F = .error e → e.1 = l ∧ e.2 ≠ 0) : Loc (taken k) := by
  intro R
  cases hr : R.rows with
  | nil =>
    refine ⟨fun R' h => ?_, fun e h => ?_⟩
    · unfold taken at h; rw [hr] at h; cases h
    · unfold taken at h; rw [hr] at h; injection h with h; subst h; exact ⟨by simp, .inl rfl⟩
  | cons p t =>
    obtain ⟨l, row⟩ := p
    refine ⟨fun R' h => ?_, fun e h => ?_⟩
    · unfold taken at h
      rw [hr] at h
      simp only at h
      cases hq : k l row R.file with
      | error e => rw [hq] at h; cases h
      | ok F =>
        rw [hq] at h
        injection h with h
        subst h
        refine ⟨[(l, row)], rfl, rfl, rfl, fun T b => ?_⟩
        unfold taken
        show (match k l row R.file with
          | .error e => _
          | .ok F => _) = _
        rw [hq]
        rfl
    · unfold taken at h
      rw [hr] at h
      simp only at h
      cases hq : k l row R.file with
      | ok F => rw [hq] at h; cases h
      | error e' =>
        rw [hq] at h
        injection h with h
        subst h
        refine ⟨(hk _ _ _ _ hq).2, .inr ⟨[(l, row)], t, rfl, (hk _ _ _ _ hq).1, fun T b => ?_⟩⟩
        unfold taken
        show (match k l row R.file with
          | .error e => _
          | .ok F => _) = _
        rw [hq]
def cased {α : Type} (v : List Bs → Fil → Nat → Except Er α) (g : α → Rdr → Except Er Rdr) (R : Rdr) : Except Er Rdr := match v R.heads R.file R.line with
  | .error e => .error e
  | .ok x => g x R
theorem tells_line {α : Type} {X : Nat → Except Er α} (h : Tells X) {l : Nat} {e : Er} (k : X l = .error e) : e.1 = l ∧ e.2 ≠ 0 := by
  obtain ⟨Y, h0, hY⟩ := h
  rw [hY l] at k
  cases Y with
  | error c => injection k with k; subst k; exact ⟨rfl, h0 c rfl⟩
  | ok a => cases k
theorem loc_cased {α : Type} {v : List Bs → Fil → Nat → Except Er α} {g : α → Rdr → Except Er Rdr} (hv : ∀ hs F, Tells (v hs F)) (hg : ∀ x, Loc (g x)) : Loc (cased v g) := by
  intro R
  cases hq : v R.heads R.file R.line with
  | error e =>
    refine ⟨fun R' h => ?_, fun e' h => ?_⟩
    · unfold cased at h; rw [hq] at h; cases h
    · unfold cased at h
      rw [hq] at h
      injection h with h
      subst h
      refine ⟨(tells_line (hv _ _) hq).2, .inr ⟨[], R.rows, rfl, (tells_line (hv _ _) hq).1, fun T b => ?_⟩⟩
      unfold cased
      show (match v R.heads R.file R.line with
        | .error e => _
        | .ok F => _) = _
      rw [hq]
  | ok x =>
    have key : ∀ T b, cased v g (R.on T b) = g x (R.on T b) := fun T b => by
      unfold cased
      show (match v R.heads R.file R.line with
        | .error e => _
        | .ok F => _) = _
      rw [hq]
    have k0 : cased v g R = g x R := by unfold cased; rw [hq]
    rw [k0]
    refine ⟨fun R' h => ?_, fun e h => ?_⟩
    · obtain ⟨A, a1, a2, a3, a4⟩ := (hg x R).1 R' h
      exact ⟨A, a1, a2, a3, fun T b => by rw [key]; exact a4 T b⟩
    · obtain ⟨h0, z | ⟨A, B, a1, a2, a3⟩⟩ := (hg x R).2 _ h
      · exact ⟨h0, .inl z⟩
      · exact ⟨h0, .inr ⟨A, B, a1, a2, fun T b => by rw [key]; exact a3 T b⟩⟩
theorem times_succ (f : Rdr → Except Er Rdr) (n : Nat) : times f (n + 1) = andThen f (times f n) := by
  funext R
  rw [times, andThen]
  cases f R <;> rfl
theorem loc_times {f : Rdr → Except Er Rdr} (hf : Loc f) : ∀ n, Loc (times f n)
  | 0 => by
    rw [show times f 0 = fun R => .ok R from by funext R; rfl]
    exact loc_ok
  | n + 1 => by
    rw [times_succ]
    exact LocAt.andThen hf (loc_times hf n)

/-! lines that are called otherwise -/
variable (g : Nat → Nat)
def mapU {α : Type} : Except Er α → Except Er α
  | .error e => .error (g e.1, e.2)
  | .ok a => .ok a
def mapF (F : Fil) : Fil := { F with rules := F.rules.map fun r => { r with line := g r.line } }
def mapR (R : Rdr) : Rdr := { R with file := mapF g R.file, rows := R.rows.map fun p => (g p.1, p.2), line := g R.line, behind := g R.behind }
def mapX : Except Er Rdr → Except Er Rdr
  | .error e => .error (g e.1, e.2)
  | .ok R => .ok (mapR g R)
def mapY : Except Er Fil → Except Er Fil
  | .error e => .error (g e.1, e.2)
  | .ok F => .ok (mapF g F)
def Eqv (f f' : Rdr → Except Er Rdr) : Prop := ∀ R, f' (mapR g R) = mapX g (f R)
variable {g}
theorem tells_map {α : Type} {X : Nat → Except Er α} (h : Tells X) (l : Nat) : X (g l) = mapU g (X l) := by
  obtain ⟨Y, -, hY⟩ := h
  rw [hY, hY]
  cases Y <;> rfl
theorem eqv_andThen {f f' q q' : Rdr → Except Er Rdr} (hf : Eqv g f f') (hq : Eqv g q q') : Eqv g (andThen f q) (andThen f' q') := by
  intro R
  unfold andThen
  rw [hf R]
  cases f R with
  | error e => rfl
  | ok R1 => exact hq R1
theorem eqv_file {q : Fil → Fil} (hq : ∀ F, q (mapF g F) = mapF g (q F)) : Eqv g (fun R => .ok { R with file := q R.file }) (fun R => .ok { R with file := q R.file }) := by
  intro R
  show Except.ok ({ mapR g R with file := q (mapF g R.file) } : Rdr) = _
  rw [hq]
  rfl
theorem eqv_ok : Eqv g (fun R => .ok R) (fun R => .ok R) := fun _ => rfl
theorem eqv_taken {k : Nat → List Bs → Fil → Except Er Fil} (hk : ∀ l row F, k (g l) row (mapF g F) = mapY g (k l row F)) : Eqv g (taken k) (taken k) := by
  intro R
  unfold taken
  cases hr : R.rows with
  | nil =>
    rw [show (mapR g R).rows = [] by simp [mapR, hr]]
    rfl
  | cons p t =>
    obtain ⟨l, row⟩ := p
    rw [show (mapR g R).rows = (g l, row) :: t.map (fun p => (g p.1, p.2)) by simp [mapR, hr]]
    simp only
    rw [show (mapR g R).file = mapF g R.file from rfl, hk]
    cases k l row R.file <;> rfl
theorem eqv_cased {α : Type} {v : List Bs → Fil → Nat → Except Er α} {q : α → Rdr → Except Er Rdr} (hv : ∀ hs F, Tells (v hs F)) (hm : ∀ hs F l, v hs (mapF g F) l = v hs F l) (hq : ∀ x, Eqv g (q x) (q x)) : Eqv g (cased v q) (cased v q) := by
  intro R
  unfold cased
  rw [show v (mapR g R).heads (mapR g R).file (mapR g R).line = mapU g (v R.heads R.file R.line) from (hm _ _ _).trans (tells_map (hv _ _) _)]
  cases v R.heads R.file R.line with
  | error e => rfl
  | ok x => exact hq x R
theorem eqv_times {f : Rdr → Except Er Rdr} (hf : Eqv g f f) : ∀ n, Eqv g (times f n) (times f n)
  | 0 => by
    rw [show times f 0 = fun R => .ok R from by funext R; rfl]
    exact eqv_ok
  | n + 1 => by
    rw [times_succ]
    exact eqv_andThen hf (eqv_times hf n)
end Af
end Go.Proofs.YtlmahoogkogpdaaGreatDoor
/- Plain: the groups, the headings and the whole of an affix file hang on the rows that they took alone; lines that are called otherwise. -/
namespace Go.Proofs.YtlmahoogkogpdaaGreatDoor
namespace Af
/-! rows of groups -/
def repK (key : Bs) (l : Nat) (row : List Bs) (F : Fil) : Except Er Fil := if row.take [key].length = [key] then (match repRow l row with
  | .error e => .error e
  | .ok p => .ok { F with reps := F.reps ++ [p] }) else .error (l, 116)
def aliK (key : Bs) (l : Nat) (row : List Bs) (F : Fil) : Except Er Fil := if row.take [key].length = [key] then (match aliRow F l row with
  | .error e => .error e
  | .ok p => .ok { F with aliases := F.aliases ++ [p] }) else .error (l, 116)
def rulK (beg : List Bs) (c : Cls) (l : Nat) (row : List Bs) (F : Fil) : Except Er Fil := if row.take beg.length = beg then (match rule0 F c row l with
  | .error e => .error e
  | .ok p => .ok { F with rules := F.rules ++ [{ p with line := l }] }) else .error (l, 116)
theorem repStep_eq (key : Bs) : repStep key = taken (repK key) := by
  funext R
  unfold repStep grow taken repK
  cases R.rows with
  | nil => rfl
  | cons p t =>
    obtain ⟨l, row⟩ := p
    simp only
    by_cases h : row.take [key].length = [key]
    · rw [if_pos h, if_pos h]
      simp only
      cases repRow l row <;> rfl
    · rw [if_neg h, if_neg h]
theorem aliStep_eq (key : Bs) : aliStep key = taken (aliK key) := by
  funext R
  unfold aliStep grow taken aliK
  cases R.rows with
  | nil => rfl
  | cons p t =>
    obtain ⟨l, row⟩ := p
    simp only
    by_cases h : row.take [key].length = [key]
    · rw [if_pos h, if_pos h]
      simp only
      cases aliRow R.file l row <;> rfl
    · rw [if_neg h, if_neg h]
theorem rulStep_eq (beg : List Bs) (c : Cls) : rulStep beg c = taken (rulK beg c) := by
  funext R
  unfold rulStep grow taken rulK
  cases R.rows with
  | nil => rfl
  | cons p t =>
    obtain ⟨l, row⟩ := p
    simp only
    by_cases h : row.take beg.length = beg
    · rw [if_pos h, if_pos h]
      simp only
      rw [rule_eq]
      cases rule0 R.file c row l <;> rfl
    · rw [if_neg h, if_neg h]
theorem loc_repStep (key : Bs) : Loc (repStep key) := by
  rw [repStep_eq]
  refine loc_taken fun l row F e h => ?_
  unfold repK at h
  split at h
  · split at h
    · rename_i e' he
      injection h with h
      subst h
      exact tells_line (tells_repRow row) he
    · cases h
  · injection h with h; subst h; exact ⟨rfl, by simp⟩
theorem loc_aliStep (key : Bs) : Loc (aliStep key) := by
  rw [aliStep_eq]
  refine loc_taken fun l row F e h => ?_
  unfold aliK at h
  split at h
  · split at h
    · rename_i e' he
      injection h with h
      subst h
      exact tells_line (tells_aliRow F row) he
    · cases h
  · injection h with h; subst h; exact ⟨rfl, by simp⟩
theorem loc_rulStep (beg : List Bs) (c : Cls) : Loc (rulStep beg c) := by
  rw [rulStep_eq]
  refine loc_taken fun l row F e h => ?_
  unfold rulK at h
  split at h
  · split at h
    · rename_i e' he
      injection h with h
      subst h
      exact tells_line (tells_rule0 F c row) he
    · cases h
  · injection h with h; subst h; exact ⟨rfl, by simp⟩
variable {g : Nat → Nat}
theorem eqv_repStep (key : Bs) : Eqv g (repStep key) (repStep key) := by
  rw [repStep_eq]
  refine eqv_taken fun l row F => ?_
  unfold repK
  split
  · rw [tells_map (tells_repRow row)]
    cases repRow l row <;> rfl
  · rfl
theorem eqv_aliStep (key : Bs) : Eqv g (aliStep key) (aliStep key) := by
  rw [aliStep_eq]
  refine eqv_taken fun l row F => ?_
  unfold aliK
  split
  · rw [show aliRow (mapF g F) (g l) row = aliRow F (g l) row from rfl, tells_map (tells_aliRow F row)]
    cases aliRow F l row <;> rfl
  · rfl
theorem eqv_rulStep (beg : List Bs) (c : Cls) : Eqv g (rulStep beg c) (rulStep beg c) := by
  rw [rulStep_eq]
  refine eqv_taken fun l row F => ?_
  unfold rulK
  split
  · rw [show rule0 (mapF g F) c row (g l) = rule0 F c row (g l) from rfl, tells_map (tells_rule0 F c row)]
    cases rule0 F c row l with
    | error e => rfl
    | ok p => simp [mapU, mapY, mapF]
  · rfl

/-! keys -/
def kindK (f : Bs) (hs : List Bs) (F : Fil) (l : Nat) : Except Er Int :=
  if (∃ x ∈ F.specials, x ≠ 0) ∨ [65, 70] ∈ hs ∨ F.classes ≠ [] then .error (l, 113)
  else if f = [115, 104, 111, 114, 116] then .ok 1
  else if f = [108, 111, 110, 103] then .ok 2
  else if f = [110, 117, 109] then .ok 3
  else .error (l, 114)
theorem doKind_eq (f : Bs) : (fun R => doKind R f) = cased (kindK f) (fun x R => .ok { R with file := { R.file with kind := x } }) := by
  funext R
  unfold doKind cased kindK
  repeat' split
  all_goals first | rfl | (simp_all; done)
def letK (f : Bs) (_ : List Bs) (_ : Fil) (l : Nat) : Except Er Bs := if VlW.okB f = true then .ok f else .error (l, 21)
theorem doCharset_eq (f : Bs) : (fun R => doCharset R f) = cased (letK f) (fun x R => .ok { R with file := { R.file with charset := x } }) := by
  funext R
  unfold doCharset cased letK
  by_cases h : VlW.okB f = true
  · rw [if_pos h, if_pos h]
  · rw [if_neg h, if_neg h]
theorem doLetters_eq (f : Bs) : (fun R => doLetters R f) = cased (letK f) (fun x R => .ok { R with file := { R.file with letters := Wd.uq [] x } }) := by
  funext R
  unfold doLetters cased letK
  by_cases h : VlW.okB f = true
  · rw [if_pos h, if_pos h]
  · rw [if_neg h, if_neg h]
theorem doSpecial_eq (i : Nat) (f : Bs) : (fun R => doSpecial i R f) = cased (fun _ F => newFlagK F f) (fun x R => .ok { R with file := { R.file with specials := R.file.specials.set i x } }) := by
  funext R
  unfold doSpecial cased
  rw [newFlag_eq]
  simp only
  cases newFlagK R.file f R.line <;> rfl
def leastK (f : Bs) (_ : List Bs) (_ : Fil) (l : Nat) : Except Er Nat := match numb l f 64 with
  | .error e => .error e
  | .ok n => if n = 0 then .error (l, 13) else .ok n
theorem doLeast_eq (f : Bs) : (fun R => doLeast R f) = cased (leastK f) (fun x R => .ok { R with file := { R.file with least := x } }) := by
  funext R
  unfold doLeast cased leastK
  cases numb R.line f 64 with
  | error e => rfl
  | ok n =>
    simp only
    by_cases h : n = 0
    · rw [if_pos h, if_pos h]
    · rw [if_neg h, if_neg h]
theorem doReps_eq (h : List Bs) : (fun R => doReps R h) = cased (fun _ _ l => numb l (fld h 1) 256) (fun n => times (repStep (fld h 0)) n) := by
  funext R
  unfold doReps cased
  simp only
  cases numb R.line (fld h 1) 256 <;> rfl
def aliN (h : List Bs) (_ : List Bs) (F : Fil) (l : Nat) : Except Er Nat := if F.classes ≠ [] then .error (l, 113) else numb l (fld h 1) 1024
theorem doAliases_eq (h : List Bs) : (fun R => doAliases R h) = cased (aliN h) (fun n => times (aliStep (fld h 0)) n) := by
  funext R
  unfold doAliases cased aliN
  by_cases hc : R.file.classes ≠ []
  · rw [if_pos hc, if_pos hc]
  · rw [if_neg hc, if_neg hc]
    cases numb R.line (fld h 1) 1024 <;> rfl
def clsK (k : Int) (h : List Bs) (_ : List Bs) (F : Fil) (l : Nat) : Except Er Cls := match newFlagK F (fld h 1) l with
  | .error e => .error e
  | .ok x => if fld h 2 ≠ [89] ∧ fld h 2 ≠ [78] then .error (l, 114) else match numb l (fld h 3) 1024 with
    | .error e => .error e
    | .ok n => if 1024 < F.rules.length + n then .error (l, 117) else .ok ⟨x, k, fld h 2 == [89], F.rules.length, n⟩
def clsG (h : List Bs) (c : Cls) : Rdr → Except Er Rdr := andThen (fun R => .ok { R with file := { R.file with classes := R.file.classes ++ [c] } }) (times (rulStep [fld h 0, fld h 1] c) c.count)
theorem doClass_eq (k : Int) (h : List Bs) : (fun R => doClass k R h) = cased (clsK k h) (clsG h) := by
  funext R
  unfold doClass cased clsK
  rw [newFlag_eq]
  cases newFlagK R.file (fld h 1) R.line with
  | error e => rfl
  | ok x =>
    simp only
    by_cases h2 : fld h 2 ≠ [89] ∧ fld h 2 ≠ [78]
    · rw [if_pos h2, if_pos h2]
    · rw [if_neg h2, if_neg h2]
      cases numb R.line (fld h 3) 1024 with
      | error e => rfl
      | ok n =>
        simp only
        by_cases h3 : 1024 < R.file.rules.length + n
        · rw [if_pos h3, if_pos h3]
        · rw [if_neg h3, if_neg h3]
          rfl
theorem tells_kindK (f : Bs) (hs : List Bs) (F : Fil) : Tells (kindK f hs F) := by
  unfold kindK
  exact tells_ite (tells_no _) (tells_ite (tells_ok _) (tells_ite (tells_ok _) (tells_ite (tells_ok _) (tells_no _))))
theorem tells_letK (f : Bs) (hs : List Bs) (F : Fil) : Tells (letK f hs F) := by
  unfold letK
  exact tells_ite (tells_ok _) (tells_no _)
theorem tells_leastK (f : Bs) (hs : List Bs) (F : Fil) : Tells (leastK f hs F) := by
  unfold leastK
  exact tells_then (fun n l => if n = 0 then .error (l, 13) else .ok n) (tells_numb f 64) (fun n => tells_ite (tells_no _) (tells_ok _)) (fun l e h => by simp only [h]) (fun l x h => by simp only [h])
theorem tells_aliN (h : List Bs) (hs : List Bs) (F : Fil) : Tells (aliN h hs F) := by
  unfold aliN
  exact tells_ite (tells_no _) (tells_numb _ _)
theorem tells_clsK (k : Int) (h : List Bs) (hs : List Bs) (F : Fil) : Tells (clsK k h hs F) := by
  unfold clsK
  refine tells_then (fun x l => if fld h 2 ≠ [89] ∧ fld h 2 ≠ [78] then .error (l, 114) else match numb l (fld h 3) 1024 with
    | .error e => .error e
    | .ok n => if 1024 < F.rules.length + n then .error (l, 117) else .ok ⟨x, k, fld h 2 == [89], F.rules.length, n⟩) (tells_newFlag F (fld h 1)) (fun x => ?_) (fun l e h => by simp only [h]) (fun l x hx => by simp only [hx])
  refine tells_ite (tells_no _) ?_
  exact tells_then (fun n l => if 1024 < F.rules.length + n then .error (l, 117) else .ok ⟨x, k, fld h 2 == [89], F.rules.length, n⟩) (tells_numb (fld h 3) 1024) (fun n => tells_ite (tells_no _) (tells_ok _)) (fun l e h => by simp only [h]) (fun l x h => by simp only [h])
theorem loc_doKey (h : List Bs) (k : Key) : Loc (fun R => doKey R h k) := by
  cases k with
  | kind =>
    show Loc (fun R => doKind R (fld h 1))
    rw [doKind_eq]
    exact loc_cased (tells_kindK _) fun x => loc_file (fun F => { F with kind := x })
  | charset =>
    show Loc (fun R => doCharset R (fld h 1))
    rw [doCharset_eq]
    exact loc_cased (tells_letK _) fun x => loc_file (fun F => { F with charset := x })
  | letters =>
    show Loc (fun R => doLetters R (fld h 1))
    rw [doLetters_eq]
    exact loc_cased (tells_letK _) fun x => loc_file (fun F => { F with letters := Wd.uq [] x })
  | special i =>
    show Loc (fun R => doSpecial i R (fld h 1))
    rw [doSpecial_eq]
    exact loc_cased (fun _ F => tells_newFlag F _) fun x => loc_file (fun F => { F with specials := F.specials.set i x })
  | least =>
    show Loc (fun R => doLeast R (fld h 1))
    rw [doLeast_eq]
    exact loc_cased (tells_leastK _) fun x => loc_file (fun F => { F with least := x })
  | reps =>
    show Loc (fun R => doReps R h)
    rw [doReps_eq]
    exact loc_cased (fun _ _ => tells_numb _ _) fun n => loc_times (loc_repStep _) n
  | aliases =>
    show Loc (fun R => doAliases R h)
    rw [doAliases_eq]
    exact loc_cased (tells_aliN _) fun n => loc_times (loc_aliStep _) n
  | cls kk =>
    show Loc (fun R => doClass kk R h)
    rw [doClass_eq]
    exact loc_cased (tells_clsK _ _) fun c => LocAt.andThen (loc_file (fun F => { F with classes := F.classes ++ [c] })) (loc_times (loc_rulStep _ _) _)
theorem eqv_doKey (h : List Bs) (k : Key) : Eqv g (fun R => doKey R h k) (fun R => doKey R h k) := by
  cases k with
  | kind =>
    show Eqv g (fun R => doKind R (fld h 1)) (fun R => doKind R (fld h 1))
    rw [doKind_eq]
    exact eqv_cased (tells_kindK _) (fun _ _ _ => rfl) fun x => eqv_file (q := fun F => { F with kind := x }) fun _ => rfl
  | charset =>
    show Eqv g (fun R => doCharset R (fld h 1)) (fun R => doCharset R (fld h 1))
    rw [doCharset_eq]
    exact eqv_cased (tells_letK _) (fun _ _ _ => rfl) fun x => eqv_file (q := fun F => { F with charset := x }) fun _ => rfl
  | letters =>
    show Eqv g (fun R => doLetters R (fld h 1)) (fun R => doLetters R (fld h 1))
    rw [doLetters_eq]
    exact eqv_cased (tells_letK _) (fun _ _ _ => rfl) fun x => eqv_file (q := fun F => { F with letters := Wd.uq [] x }) fun _ => rfl
  | special i =>
    show Eqv g (fun R => doSpecial i R (fld h 1)) (fun R => doSpecial i R (fld h 1))
    rw [doSpecial_eq]
    exact eqv_cased (fun _ F => tells_newFlag F _) (fun _ _ _ => rfl) fun x => eqv_file (q := fun F => { F with specials := F.specials.set i x }) fun _ => rfl
  | least =>
    show Eqv g (fun R => doLeast R (fld h 1)) (fun R => doLeast R (fld h 1))
    rw [doLeast_eq]
    exact eqv_cased (tells_leastK _) (fun _ _ _ => rfl) fun x => eqv_file (q := fun F => { F with least := x }) fun _ => rfl
  | reps =>
    show Eqv g (fun R => doReps R h) (fun R => doReps R h)
    rw [doReps_eq]
    exact eqv_cased (fun _ _ => tells_numb _ _) (fun _ _ _ => rfl) fun n => eqv_times (eqv_repStep _) n
  | aliases =>
    show Eqv g (fun R => doAliases R h) (fun R => doAliases R h)
    rw [doAliases_eq]
    exact eqv_cased (tells_aliN _) (fun _ _ _ => rfl) fun n => eqv_times (eqv_aliStep _) n
  | cls kk =>
    show Eqv g (fun R => doClass kk R h) (fun R => doClass kk R h)
    rw [doClass_eq]
    refine eqv_cased (tells_clsK _ _) (fun hs F l => ?_) fun c => eqv_andThen (eqv_file (q := fun F => { F with classes := F.classes ++ [c] }) fun _ => rfl) (eqv_times (eqv_rulStep _ _) _)
    have e : (mapF g F).rules.length = F.rules.length := by simp [mapF]
    unfold clsK
    rw [e]
    rfl

/-! a heading -/
def headK (h : List Bs) (hs : List Bs) (_ : Fil) (l : Nat) : Except Er Key := match kwOf (fld h 0) with
  | none => .error (l, 110)
  | some k => if h.length ≠ k.fields then .error (l, 111) else if k.again = false ∧ fld h 0 ∈ hs then .error (l, 112) else .ok k.key
theorem tells_headK (h : List Bs) (hs : List Bs) (F : Fil) : Tells (headK h hs F) := by
  unfold headK
  cases kwOf (fld h 0) with
  | none => exact tells_no _
  | some k => exact tells_ite (tells_no _) (tells_ite (tells_no _) (tells_ok _))
def addHead (n : Bs) (R : Rdr) : Except Er Rdr := .ok { R with heads := R.heads ++ [n] }
theorem loc_addHead (n : Bs) : Loc (addHead n) := by
  intro R
  refine ⟨fun R' h => ?_, fun e h => by cases h⟩
  injection h with h
  subst h
  exact ⟨[], rfl, rfl, rfl, fun T b => rfl⟩
theorem eqv_addHead (n : Bs) : Eqv g (addHead n) (addHead n) := fun _ => rfl
def setLine (l : Nat) (R : Rdr) : Except Er Rdr := .ok { R with line := l }
theorem loc_setLine (l : Nat) : LocAt (fun _ => l) (setLine l) := by
  intro R
  refine ⟨fun R' h => ?_, fun e h => by cases h⟩
  injection h with h
  subst h
  exact ⟨[], rfl, rfl, rfl, fun T b => rfl⟩
theorem eqv_setLine (l : Nat) : Eqv g (setLine l) (setLine (g l)) := fun _ => rfl
theorem heading_eq (l : Nat) (h : List Bs) : (fun R => heading R l h) = andThen (setLine l) (cased (headK h) (fun k => andThen (fun R => doKey R h k) (addHead (fld h 0)))) := by
  funext R
  unfold heading andThen setLine cased headK
  simp only
  cases kwOf (fld h 0) with
  | none => rfl
  | some k =>
    simp only
    by_cases h1 : h.length ≠ k.fields
    · rw [if_pos h1, if_pos h1]
    · rw [if_neg h1, if_neg h1]
      by_cases h2 : k.again = false ∧ fld h 0 ∈ R.heads
      · rw [if_pos h2, if_pos h2]
      · rw [if_neg h2, if_neg h2]
        simp only
        cases doKey { R with line := l } h k.key <;> rfl
theorem loc_heading (l : Nat) (h : List Bs) : LocAt (fun _ => l) (fun R => heading R l h) := by
  rw [heading_eq]
  exact LocAt.andThen (loc_setLine l) (loc_cased (tells_headK h) fun k => LocAt.andThen (loc_doKey h k) (loc_addHead _))
theorem eqv_heading (l : Nat) (h : List Bs) : Eqv g (fun R => heading R l h) (fun R => heading R (g l) h) := by
  rw [heading_eq, heading_eq]
  exact eqv_andThen (eqv_setLine l) (eqv_cased (tells_headK h) (fun _ _ _ => rfl) fun k => eqv_andThen (eqv_doKey h k) (eqv_addHead _))

/-! all headings -/
theorem heads_loc : ∀ (n : Nat) (R : Rdr) (e : Er), heads n R = .error e → e.2 ≠ 0 ∧ (e = (R.behind, 116) ∨ ∃ A B, A ≠ [] ∧ R.rows = A ++ B ∧ e.1 = lastL R.line A ∧ ∀ T b m, (A ++ T).length ≤ m → heads m (R.on (A ++ T) b) = .error e)
  | 0, R, e, h => by cases h
  | n + 1, R, e, h => by
    unfold heads at h
    cases hr : R.rows with
    | nil => rw [hr] at h; cases h
    | cons p t =>
      obtain ⟨l, hd⟩ := p
      rw [hr] at h
      simp only at h
      have L := loc_heading l hd { R with rows := t }
      have go : ∀ (A T : RowL) b m, ((l, hd) :: A ++ T).length ≤ m → ∃ m', m = m' + 1 ∧ heads m (R.on ((l, hd) :: A ++ T) b) = (match heading (({ R with rows := t } : Rdr).on (A ++ T) b) l hd with
        | .error e => .error e
        | .ok R' => heads m' R') := by
        intro A T b m hm
        cases m with
        | zero => simp at hm
        | succ m' => exact ⟨m', rfl, rfl⟩
      cases hq : heading { R with rows := t } l hd with
      | error e' =>
        rw [hq] at h
        injection h with h
        subst h
        obtain ⟨h0, z | ⟨A, B, a1, a2, a3⟩⟩ := L.2 _ hq
        · exact ⟨h0, .inl z⟩
        · refine ⟨h0, .inr ⟨(l, hd) :: A, B, by simp, by rw [show t = A ++ B from a1]; rfl, a2, fun T b m hm => ?_⟩⟩
          obtain ⟨m', -, e⟩ := go A T b m hm
          have q := a3 T b
          simp only at q
          rw [e, q]
      | ok R1 =>
        rw [hq] at h
        simp only at h
        obtain ⟨A, a1, a2, a3, a4⟩ := L.1 R1 hq
        have a1 : t = A ++ R1.rows := a1
        have a2 : R1.behind = R.behind := a2
        obtain ⟨h0, z | ⟨A', B, b0, b1, b2, b3⟩⟩ := heads_loc n R1 e h
        · exact ⟨h0, .inl (by rw [z, a2])⟩
        · refine ⟨h0, .inr ⟨(l, hd) :: (A ++ A'), B, by simp, by rw [a1, b1, List.cons_append, List.append_assoc], ?_, fun T b m hm => ?_⟩⟩
          · show e.1 = lastL l (A ++ A')
            rw [lastL_append, ← a3, b2]
          · obtain ⟨m', e1, e2⟩ := go (A ++ A') T b m hm
            have q := a4 (A' ++ T) b
            simp only at q
            rw [e2, List.append_assoc, q]
            refine b3 T b m' ?_
            subst e1
            simp at hm ⊢
            omega
theorem eqv_heads : ∀ n, Eqv g (heads n) (heads n)
  | 0 => fun _ => rfl
  | n + 1 => by
    intro R
    unfold heads
    cases hr : R.rows with
    | nil =>
      rw [show (mapR g R).rows = [] by simp [mapR, hr]]
      rfl
    | cons p t =>
      obtain ⟨l, hd⟩ := p
      rw [show (mapR g R).rows = (g l, hd) :: t.map (fun p => (g p.1, p.2)) by simp [mapR, hr]]
      simp only
      have e := eqv_heading (g := g) l hd { R with rows := t }
      simp only at e
      rw [show ({ mapR g R with rows := t.map fun p => (g p.1, p.2) } : Rdr) = mapR g { R with rows := t } from rfl, e]
      cases heading { R with rows := t } l hd with
      | error e => rfl
      | ok R1 => exact eqv_heads n R1
theorem goesOn_map (F : Fil) (x : Int) : goesOn (mapF g F) x = goesOn F x := rfl
theorem nexts_map (F : Fil) : nexts (mapF g F) = (nexts F).map g := by
  unfold nexts
  show ((F.rules.map fun r => ({ r with line := g r.line } : Rul)).find? _).map _ = _
  rw [List.find?_map, Option.map_map, Option.map_map]
  rfl
end Af
end Go.Proofs.YtlmahoogkogpdaaGreatDoor
