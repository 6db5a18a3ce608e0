/- The reader's small calls: bytes, pieces, numbers, conditions, what a rule adds. -/
import Derived.Test.YtlmahoogkogpdaaGreatDoorGf16
import Derived.Maps.OwnSet
import Derived.Maps.Views
import Derived.Test.YtlmahoogkogpdaaGreatDoorShAll
namespace Go.Proofs.YtlmahoogkogpdaaGreatDoor
open Go.RowKit
namespace Af
theorem lineB {w w' : World} {rb l : Nat} (h : LineAt w rb l) (hb : rb < w.heap.size) (c : Below w.heap.size w w') : LineAt w' rb l := (c.cell (p := ⟨rb, 2, none⟩) hb).trans h
theorem bsz {a b : World} (h : Below a.heap.size a b) : a.heap.size ≤ b.heap.size := h.size
theorem btr {a b c : World} (h : Below a.heap.size a b) (k : Below b.heap.size b c) : Below a.heap.size a c := h.trans (k.mono h.size)
abbrev ptr (rb : Nat) : Value := .pointer (some ⟨rb, 0, none⟩)

set_option maxHeartbeats 1000000 in
theorem checkBytes_any (rb l : Nat) (s : ByteArray) (w : World) (hs : s.size ≤ 65536) (hb : rb < w.heap.size) (hl : LineAt w rb l) :
    Calls Tryz.prog 76 #[ptr rb, .string s] w fun e w' => e = endX unitV (ckB l s.data.toList) ∧ Below w.heap.size w w' := by
  unfold ckB
  cases ho : VlW.okB s.data.toList with
  | true =>
    have HT := hide (LtW.letters_ok s w (by omega) ho)
    have HV := hide (fun W => leave_ok (ptr rb) W)
    clear ho hl
    go_enter Tryz.func76, Tryz.ntmps76
    go_wp2_with (first | (go_at_call 78; refine (unhide HT).mono ?_; rintro e w2 ⟨rfl, b2⟩) | (go_at_call 50; refine (unhide HV _).mono ?_; rintro e w3 ⟨rfl, rfl⟩))
    go_end0
    exact ⟨rfl, b2⟩
  | false =>
    have HT := hide (LtR.letters_bad s w (by omega) ho)
    have HV := hide (leave_no rb l 21 w (by decide) (by decide) hl)
    clear ho hl
    go_enter Tryz.func76, Tryz.ntmps76
    go_wp2_with (first | (go_at_call 78; refine (unhide HT).mono ?_; rintro e w2 ⟨rfl, rfl⟩) | (go_at_call 50; refine (unhide HV).mono ?_; rintro e w3 ⟨rfl, rfl⟩))
    exact ⟨rfl, rfl, Below.refl _ _⟩
theorem ckB_ok {l : Nat} {t : Bs} (h : VlW.okB t = true) : ckB l t = .ok () := by unfold ckB; rw [if_pos h]
theorem ckB_no {l : Nat} {t : Bs} (h : VlW.okB t = false) : ckB l t = .error (l, 21) := by unfold ckB; rw [if_neg (by rw [h]; decide)]
theorem ckA_ok {l : Nat} {t : Bs} (h : VlW.okB t = true) (h2 : ¬ 32 < t.length) : ckA l t = .ok () := by unfold ckA; rw [if_pos h, if_neg h2]
theorem ckA_long {l : Nat} {t : Bs} (h : VlW.okB t = true) (h2 : 32 < t.length) : ckA l t = .error (l, 22) := by unfold ckA; rw [if_pos h, if_pos h2]
theorem ckA_no {l : Nat} {t : Bs} (h : VlW.okB t = false) : ckA l t = .error (l, 21) := by unfold ckA; rw [if_neg (by rw [h]; decide)]
set_option maxHeartbeats 1000000 in
theorem checkAffix_any (rb l : Nat) (s : ByteArray) (w : World) (hs : s.size ≤ 65536) (hb : rb < w.heap.size) (hl : LineAt w rb l) :
    Calls Tryz.prog 113 #[ptr rb, .string s] w fun e w' => e = endX unitV (ckA l s.data.toList) ∧ Below w.heap.size w w' := by
  have hB := checkBytes_any rb l s w hs hb hl
  have hz : s.data.toList.length = s.size := by simp
  cases ho : VlW.okB s.data.toList with
  | true =>
    have HB := hide (okOf hB (ckB_ok ho))
    clear hB
    by_cases hq : 32 < s.size
    · have hqi : (32 : Int) < (s.size : Int) := by omega
      have HV := hide (fun w2 (b2 : Below w.heap.size w w2) => leaveIf_no rb l 22 w2 (by decide) (by decide) (lineB hl hb b2))
      rw [ckA_long ho (by omega)]
      clear ho hl hz hq hs
      go_enter Tryz.func113, Tryz.ntmps113
      go_wp2_with (first | (go_at_call 76; refine (unhide HB).mono ?_; rintro e w2 ⟨rfl, b2⟩) | (go_at_call 61; refine (unhide HV _ b2).mono ?_; rintro e w3 ⟨rfl, rfl⟩))
      exact ⟨rfl, rfl, b2⟩
    · have hqi : ¬ (32 : Int) < (s.size : Int) := by omega
      rw [ckA_ok ho (by omega)]
      clear ho hl hz hq hs
      go_enter Tryz.func113, Tryz.ntmps113
      go_wp2_with (first | (go_at_call 76; refine (unhide HB).mono ?_; rintro e w2 ⟨rfl, b2⟩) | (go_at_call 61; refine (leaveIf_f _ _ _ _ (by simp; omega)).mono ?_; rintro e w3 ⟨rfl, rfl⟩))
      go_end0
      exact ⟨rfl, b2⟩
  | false =>
    have HB := hide (noOf hB (ckB_no ho))
    rw [ckA_no ho]
    clear ho hl hz hB
    go_enter Tryz.func113, Tryz.ntmps113
    go_wp2_with (first | (go_at_call 76; refine (unhide HB).mono ?_; rintro e w2 ⟨rfl, b2⟩))
    exact ⟨rfl, rfl, b2⟩
set_option maxHeartbeats 1000000 in
theorem number_any (rb l : Nat) (s : ByteArray) (m : Nat) (w : World) (hs : s.size ≤ 65536) (hm : m ≤ 65536) (hl : LineAt w rb l) :
    Calls Tryz.prog 80 #[ptr rb, .string s, .int .i64 (m : Nat)] w fun e w' => e = endX (fun n => .int .i64 ((n : Nat) : Int)) (numb l s.data.toList m) ∧ w' = w := by
  have HN := hide (fun W => NumW.number_any s (m : Int) W (by unfold maxLen; omega) (by omega) (by omega))
  unfold numb
  have hn0 : 0 ≤ Num.numN s.data.toList (m : Int) := by unfold Num.numN; split <;> omega
  by_cases ho : Num.numE s.data.toList (m : Int) = 0
  · rw [if_pos ho]
    rw [ho] at HN
    have HV := hide (fun W => leave_ok (ptr rb) W)
    have HE : Hid ((((Num.numN s.data.toList (m : Int)).toNat : Nat) : Int) = Num.numN s.data.toList (m : Int)) := Int.toNat_of_nonneg hn0
    show Calls _ _ _ _ fun e w' => e = .returned (.int .i64 (((Num.numN s.data.toList (m : Int)).toNat : Nat) : Int)) ∧ w' = w
    rw [unhide HE]
    clear ho hl hn0 HE
    go_enter Tryz.func80, Tryz.ntmps80
    go_wp2_with (first | (go_at_call 25; refine (unhide HN _).mono ?_; rintro e w2 ⟨rfl, rfl⟩) | (go_at_call 50; refine (unhide HV _).mono ?_; rintro e w3 ⟨rfl, rfl⟩))
    go_ret
    exact ⟨rfl, rfl⟩
  · rw [if_neg ho]
    have he : Num.numE s.data.toList (m : Int) = 13 := by
      unfold Num.numE at ho ⊢
      split at ho
      · exact absurd rfl ho
      · rename_i hg
        rw [if_neg hg]
    rw [he] at HN
    have HV := hide (leave_no rb l 13 w (by decide) (by decide) hl)
    clear ho hl hn0 he
    go_enter Tryz.func80, Tryz.ntmps80
    go_wp2_with (first | (go_at_call 25; refine (unhide HN _).mono ?_; rintro e w2 ⟨rfl, rfl⟩) | (go_at_call 50; refine (unhide HV).mono ?_; rintro e w3 ⟨rfl, rfl⟩))
    exact ⟨rfl, rfl, rfl⟩

end Af
end Go.Proofs.YtlmahoogkogpdaaGreatDoor
/- The reader: a piece, a piece or 0, a condition. -/
namespace Go.Proofs.YtlmahoogkogpdaaGreatDoor
open Go.RowKit
namespace Af

theorem rd_len : ∀ (acc l : Bs) {a r : Bs} {c : Bool}, Wd.rd acc l = some (a, r, c) → a.length ≤ acc.length + l.length ∧ r.length ≤ l.length
  | acc, [], a, r, c, h => by
    simp only [Wd.rd, Option.some.injEq, Prod.mk.injEq] at h
    obtain ⟨rfl, rfl, _⟩ := h
    simp
  | acc, [x], a, r, c, h => by
    simp only [Wd.rd] at h
    split at h
    · simp only [Option.some.injEq, Prod.mk.injEq] at h
      obtain ⟨rfl, rfl, _⟩ := h
      simp
    · split at h
      · cases h
      · simp only [Option.some.injEq, Prod.mk.injEq] at h
        obtain ⟨rfl, rfl, _⟩ := h
        simp
  | acc, x :: d :: u, a, r, c, h => by
    simp only [Wd.rd] at h
    split at h
    · simp only [Option.some.injEq, Prod.mk.injEq] at h
      obtain ⟨rfl, rfl, _⟩ := h
      simp
    · split at h
      · split at h
        · have := rd_len (acc ++ [d]) u h
          simp at this ⊢
          omega
        · cases h
      · have := rd_len (acc ++ [x]) (d :: u) h
        simp at this ⊢
        omega
theorem rd_len0 {s : ByteArray} {a r : Bs} {c : Bool} (h : Wd.rd [] s.data.toList = some (a, r, c)) : (Wd.str a).size ≤ s.size ∧ (Wd.str r).size ≤ s.size := by
  have := rd_len [] _ h
  simp at this
  rw [Wd.str_size, Wd.str_size]
  exact this
theorem piece_esc {l : Nat} {f : Bs} (h : Wd.rd [] f = none) : piece l f = .error (l, 20) := by unfold piece; rw [h]
theorem piece_cut {l : Nat} {f a r : Bs} (h : Wd.rd [] f = some (a, r, true)) : piece l f = .error (l, 114) := by unfold piece; rw [h]; rfl
theorem piece_no {l : Nat} {f a r : Bs} {e : Er} (h : Wd.rd [] f = some (a, r, false)) (hc : ckA l a = .error e) : piece l f = .error e := by
  unfold piece
  rw [h]
  simp [hc]
theorem piece_ok {l : Nat} {f a r : Bs} {u : Unit} (h : Wd.rd [] f = some (a, r, false)) (hc : ckA l a = .ok u) : piece l f = .ok a := by
  unfold piece
  rw [h]
  simp [hc]
set_option maxHeartbeats 1000000 in
theorem piece_any (rb l : Nat) (s : ByteArray) (w : World) (hs : s.size ≤ 65536) (hb : rb < w.heap.size) (hl : LineAt w rb l) :
    Calls Tryz.prog 82 #[ptr rb, .string s] w fun e w' => e = endX strV (piece l s.data.toList) ∧ Below w.heap.size w w' := by
  have hR := RdW.read_any s w (by omega)
  rcases hr : Wd.rd [] s.data.toList with _ | ⟨a, r, c⟩
  · rw [piece_esc hr]
    rw [hr] at hR
    have HR := hide hR
    have HV := hide (fun w2 (b2 : Below w.heap.size w w2) => leave_no rb l 20 w2 (by decide) (by decide) (lineB hl hb b2))
    clear hR hl hr hs
    unfold RdW.ans at HR
    go_enter Tryz.func82, Tryz.ntmps82
    go_wp2_with (first | (go_at_call 112; refine (unhide HR).mono ?_; rintro e w2 ⟨rfl, b2⟩) | (go_at_call 50; refine (unhide HV _ b2).mono ?_; rintro e w3 ⟨rfl, rfl⟩))
    exact ⟨rfl, rfl, b2⟩
  · rw [hr] at hR
    have HR := hide hR
    unfold RdW.ans at HR
    have hz := rd_len0 hr
    have HL := hide (fun W => leave_ok (ptr rb) W)
    cases c with
    | true =>
      rw [piece_cut hr]
      have HV := hide (fun w2 (b2 : Below w.heap.size w w2) => leaveIf_no rb l 114 w2 (by decide) (by decide) (lineB hl hb b2))
      clear hR hl hr hs hz
      go_enter Tryz.func82, Tryz.ntmps82
      go_wp2_with (first | (go_at_call 112; refine (unhide HR).mono ?_; rintro e w2 ⟨rfl, b2⟩) | (go_at_call 50; refine (unhide HL _).mono ?_; rintro e w3 ⟨rfl, rfl⟩) | (go_at_call 61; refine (unhide HV _ b2).mono ?_; rintro e w3 ⟨rfl, rfl⟩))
      exact ⟨rfl, rfl, b2⟩
    | false =>
      have HI := hide (fun W => leaveIf_ok (ptr rb) 114 W)
      have hA := fun w2 (b2 : Below w.heap.size w w2) => checkAffix_any rb l (Wd.str a) w2 (by omega) (Nat.lt_of_lt_of_le hb b2.size) (lineB hl hb b2)
      rw [Wd.str_list] at hA
      cases hc : ckA l a with
      | error er =>
        have HA := hide (fun w2 b2 => noOf (hA w2 b2) hc)
        rw [piece_no hr hc]
        clear hR hl hr hs hz hA hc
        go_enter Tryz.func82, Tryz.ntmps82
        go_wp2_with (first | (go_at_call 112; refine (unhide HR).mono ?_; rintro e w2 ⟨rfl, b2⟩) | (go_at_call 50; refine (unhide HL _).mono ?_; rintro e w3 ⟨rfl, rfl⟩) | (go_at_call 61; refine (unhide HI _).mono ?_; rintro e w3 ⟨rfl, rfl⟩) | (go_at_call 113; refine (unhide HA _ b2).mono ?_; rintro e w4 ⟨rfl, b4⟩))
        exact ⟨rfl, rfl, btr b2 b4⟩
      | ok u =>
        have HA := hide (fun w2 b2 => okOf (hA w2 b2) hc)
        rw [piece_ok hr hc]
        clear hR hl hr hs hz hA hc
        go_enter Tryz.func82, Tryz.ntmps82
        go_wp2_with (first | (go_at_call 112; refine (unhide HR).mono ?_; rintro e w2 ⟨rfl, b2⟩) | (go_at_call 50; refine (unhide HL _).mono ?_; rintro e w3 ⟨rfl, rfl⟩) | (go_at_call 61; refine (unhide HI _).mono ?_; rintro e w3 ⟨rfl, rfl⟩) | (go_at_call 113; refine (unhide HA _ b2).mono ?_; rintro e w4 ⟨rfl, b4⟩))
        go_ret
        exact ⟨rfl, btr b2 b4⟩
theorem eq48 (s : ByteArray) (h : s.data.toList = [48]) : s = ⟨#[48]⟩ := by
  have : s = Wd.str s.data.toList := (Wd.str_self s).symm
  rw [this, h]
  rfl
set_option maxHeartbeats 1000000 in
theorem piece0_any (rb l : Nat) (s : ByteArray) (w : World) (hs : s.size ≤ 65536) (hb : rb < w.heap.size) (hl : LineAt w rb l) :
    Calls Tryz.prog 83 #[ptr rb, .string s] w fun e w' => e = endX strV (piece0 l s.data.toList) ∧ Below w.heap.size w w' := by
  by_cases h : s.data.toList = [48]
  · rw [show piece0 l s.data.toList = .ok [] from if_pos h]
    rw [eq48 s h]
    clear h hl
    go_enter Tryz.func83, Tryz.ntmps83
    go_wp2
    go_ret
    exact ⟨rfl, Below.refl _ _⟩
  · rw [show piece0 l s.data.toList = piece l s.data.toList from if_neg h]
    have hne : (s.toList == [48]) = false := by
      rw [beq_eq_false_iff_ne, Lib.toList_data]
      exact h
    have hP := piece_any rb l s w hs hb hl
    cases hp : piece l s.data.toList with
    | error er =>
      have HP := hide (noOf hP hp)
      clear hP hp hl h hs
      go_enter Tryz.func83, Tryz.ntmps83
      go_wp2_with (go_at_call 82; refine (unhide HP).mono ?_; rintro e w2 ⟨rfl, b2⟩)
      exact ⟨rfl, rfl, b2⟩
    | ok x =>
      have HP := hide (okOf hP hp)
      clear hP hp hl h hs
      go_enter Tryz.func83, Tryz.ntmps83
      go_wp2_with (go_at_call 82; refine (unhide HP).mono ?_; rintro e w2 ⟨rfl, b2⟩)
      go_ret
      exact ⟨rfl, b2⟩
end Af
end Go.Proofs.YtlmahoogkogpdaaGreatDoor
/- The reader: a condition. -/
namespace Go.Proofs.YtlmahoogkogpdaaGreatDoor
open Go.RowKit
namespace Af
open Pt
theorem sws_eq (P : List (List UInt8)) : swsF (P.map Cd.adm) = Cd.sws P := by
  unfold swsF Cd.sws
  cases P with
  | nil => rfl
  | cons a t => simp; rfl
theorem condn_no {l : Nat} {f : Bs} {e : Er} (h : ckB l f = .error e) : condn l f = .error e := by unfold condn; rw [h]
theorem condn_bad {l : Nat} {f : Bs} {u : Unit} (h : ckB l f = .ok u) (h2 : (Cd.rd f).2 ≠ 0) : condn l f = .error (l, (Cd.rd f).2) := by unfold condn; rw [h]; simp [h2]
theorem condn_ok {l : Nat} {f : Bs} {u : Unit} (h : ckB l f = .ok u) (h2 : (Cd.rd f).2 = 0) : condn l f = .ok (Cd.sws (Cd.rd f).1) := by unfold condn; rw [h]; simp [h2]
attribute [local go_sem ↓] load_as
attribute [local go_sem] ldP_new ldP_drew
set_option maxHeartbeats 1000000 in
set_option maxRecDepth 100000 in
theorem condition_any (rb l : Nat) (s : ByteArray) (w : World) (hs : s.size ≤ 65536) (hb : rb < w.heap.size) (hl : LineAt w rb l) :
    Calls Tryz.prog 115 #[ptr rb, .string s] w fun e w' => e = endX strV (condn l s.data.toList) ∧ Below w.heap.size w w' := by
  have hB := checkBytes_any rb l s w hs hb hl
  cases hk : ckB l s.data.toList with
  | error er =>
    have HB := hide (noOf hB hk)
    rw [condn_no hk]
    clear hB hk hl hs
    go_enter Tryz.func115, Tryz.ntmps115
    go_wp2_with (go_at_call 76; refine (unhide HB).mono ?_; rintro e w2 ⟨rfl, b2⟩)
    exact ⟨rfl, rfl, b2⟩
  | ok u =>
    have HB := hide (okOf hB hk)
    have HR := hide (fun W => Pt.read_any s W)
    unfold rdV at HR
    have hX := sz_pat s.data.toList
    have hstn := fun W => store_new W _ hX (patC_one _)
    have hz := zero_pat
    have hS := fun W => patShow_any (rdP s.data.toList) W (rdP_len _)
    have hsw : swsF (rdP s.data.toList) = Cd.sws (Cd.rd s.data.toList).1 := sws_eq _
    rw [hsw] at hS
    have HS := hide hS
    have e1 : (Cd.rd s.data.toList).1.map Cd.adm = rdP s.data.toList := rfl
    rw [e1] at HR
    clear hB hS hsw e1
    by_cases h0 : (Cd.rd s.data.toList).2 = 0
    · rw [condn_ok hk h0]
      rw [h0] at HR
      have HL := hide (fun W => leave_ok (ptr rb) W)
      clear h0 hl hs hk
      generalize patC (rdP s.data.toList) = X at *
      generalize patC [] = Z at *
      go_enter Tryz.func115, Tryz.ntmps115
      go_wp2_with (first | (go_at_call 76; refine (unhide HB).mono ?_; rintro e w2 ⟨rfl, b2⟩; have HB2 := hide b2; clear b2) | (go_at_call 138; refine (unhide HR _).mono ?_; rintro e w3 ⟨rfl, b3⟩; have HB3 := hide b3; clear b3) | (go_at_call 50; refine (unhide HL _).mono ?_; rintro e w4 ⟨rfl, rfl⟩) | (go_at_call 139; refine (unhide HS _).mono ?_; rintro e w5 ⟨rfl, b5⟩; have HB5 := hide b5; clear b5))
      go_ret
      have b3 := btr (unhide HB2) (unhide HB3)
      have b4 := b3.alloc b3.size (.cells X 194)
      exact ⟨rfl, btr b4 (unhide HB5)⟩
    · rw [condn_bad hk h0]
      have HL := hide (fun w2 (b2 : Below w.heap.size w w2) => leave_no rb l ((Cd.rd s.data.toList).2 : Int) w2 (by omega) (by omega) (lineB hl hb b2))
      rw [Int.toNat_natCast] at HL
      generalize (Cd.rd s.data.toList).2 = cd at *
      clear h0 hl hs hk
      generalize patC (rdP s.data.toList) = X at *
      generalize patC [] = Z at *
      go_enter Tryz.func115, Tryz.ntmps115
      go_wp2_with (first | (go_at_call 76; refine (unhide HB).mono ?_; rintro e w2 ⟨rfl, b2⟩; have HB2 := hide b2; clear b2) | (go_at_call 138; refine (unhide HR _).mono ?_; rintro e w3 ⟨rfl, b3⟩; have HB3 := hide b3; clear b3))
      have b3 := btr (unhide HB2) (unhide HB3)
      have b4 := b3.alloc b3.size (.cells X 194)
      refine (unhide HL _ b4).mono ?_
      rintro e w4 ⟨rfl, rfl⟩
      exact ⟨rfl, rfl, b4⟩
end Af
end Go.Proofs.YtlmahoogkogpdaaGreatDoor
/- Maps that hold just what a function says; no walk. -/
namespace Go.Proofs.YtlmahoogkogpdaaGreatDoor
open Go.RowKit
namespace Af

abbrev DV := DataW Value
def Rh (v : Value) : Option (DV × List MemPlace) := some (.held v, [])
/-- block b is a map that holds just this -/
def MapF (w : World) (k : TypeId) (b n : Nat) (f : Lit → Option Value) : Prop :=
  ∃ D : DV, w.ownsMap Tryz.prog k Rh b n D ∧ Maps.IsMap D ∧ ∀ kl zd, D.atKey kl zd = (match f kl with | some v => .held v | none => zd)
theorem MapF.lt {w : World} {k : TypeId} {b n : Nat} {f : Lit → Option Value} (h : MapF w k b n f) : b < w.heap.size := by
  obtain ⟨D, ho, _⟩ := h
  exact ho.lt
theorem MapF.isMap {w : World} {k : TypeId} {b n : Nat} {f : Lit → Option Value} (h : MapF w k b n f) : ∃ es c, w.heap[b]? = some (.map es c) := by
  obtain ⟨D, ⟨es, c, h1, _⟩, _⟩ := h
  exact ⟨es, c, h1⟩
theorem MapF.kept {w w' : World} {k : TypeId} {b n : Nat} {f : Lit → Option Value} (h : MapF w k b n f) (hb : w'.heap[b]? = w.heap[b]?) : MapF w' k b n f := by
  obtain ⟨D, ⟨es, c, h1, h2⟩, r⟩ := h
  exact ⟨D, ⟨es, c, hb.trans h1, h2⟩, r⟩
theorem MapF.made (w : World) (k : TypeId) : MapF (w.alloc (.map #[] 0)) k w.heap.size 0 (fun _ => none) :=
  ⟨_, World.ownsMap_made w _ _ _, Maps.isMap_empty, fun _ _ => rfl⟩
theorem MapF.look {w : World} {k t e : TypeId} {b n : Nat} {f : Lit → Option Value} {z key : Value} {kl : Lit} (h : MapF w k b n f) (K : Maps.Keyed Tryz.prog k) (ht : Tryz.prog.underlying t = some (.map k e)) (hz : (zeroValue e).run Tryz.prog w = .ok z w) (hkey : keyOf Tryz.prog k key = some kl) :
    (Instr.lookup t (.map (some b)) key false).run Tryz.prog w = .ok ((f kl).getD z) w := by
  obtain ⟨D, ho, _, hf⟩ := h
  obtain ⟨v, ps, hr, hv⟩ := ho.lookup K ht hz (zd := .held z) (zp := []) rfl hkey
  rw [hf] at hv
  cases hk : f kl with
  | none =>
    rw [hk] at hv
    simp only [Rh, Option.some.injEq, Prod.mk.injEq, DataW.held.injEq] at hv
    rw [hv.1] at hr
    exact hr
  | some x =>
    rw [hk] at hv
    simp only [Rh, Option.some.injEq, Prod.mk.injEq, DataW.held.injEq] at hv
    rw [hv.1] at hr
    exact hr
theorem MapF.look2 {w : World} {k t e : TypeId} {b n : Nat} {f : Lit → Option Value} {z key : Value} {kl : Lit} (h : MapF w k b n f) (K : Maps.Keyed Tryz.prog k) (ht : Tryz.prog.underlying t = some (.map k e)) (hz : (zeroValue e).run Tryz.prog w = .ok z w) (hkey : keyOf Tryz.prog k key = some kl) :
    (Instr.lookup t (.map (some b)) key true).run Tryz.prog w = .ok (.tuple #[(f kl).getD z, .bool (f kl).isSome]) w := by
  obtain ⟨D, ho, _, hf⟩ := h
  obtain ⟨v, ps, hr, hv⟩ := ho.look_ok K ht hz (zd := .held z) (zp := []) rfl hkey
  rw [hf] at hv
  cases hk : f kl with
  | none =>
    rw [hk] at hv
    simp only [Rh, Option.some.injEq, Prod.mk.injEq, DataW.held.injEq] at hv
    rw [hv.1, Maps.has_false_of_atKey (fun zd => by rw [hf, hk])] at hr
    exact hr
  | some x =>
    rw [hk] at hv
    simp only [Rh, Option.some.injEq, Prod.mk.injEq, DataW.held.injEq] at hv
    rw [hv.1, Maps.has_true_of_atKey (y := .held x) (fun zd => by rw [hf, hk])] at hr
    exact hr
theorem MapF.put {w : World} {k t e : TypeId} {b n : Nat} {f : Lit → Option Value} {key : Value} {kl : Lit} (h : MapF w k b n f) (K : Maps.Keyed Tryz.prog k) (ht : Tryz.prog.underlying t = some (.map k e)) (hn : n < maxLen) (hkey : keyOf Tryz.prog k key = some kl) (hl : WideAt.IsKeyLit kl) (v : Value) :
    ∃ w', (Instr.mapUpdate t (.map (some b)) key v).run Tryz.prog w = .ok () w' ∧ (∀ f', f' kl = some v → (∀ x, x ≠ kl → f' x = f x) → MapF w' k b (n + 1) f') ∧ w.grownBy w' (some b) := by
  obtain ⟨D, ho, hm, hf⟩ := h
  obtain ⟨w', hr, ho', hg⟩ := ho.update (t := t) (e := e) (val := v) (d := .held v) (ps := []) K ht hn hkey rfl
  refine ⟨w', hr, fun f' f1 f2 => ⟨_, ho', hm.put _ _, fun x zd => ?_⟩, hg⟩
  by_cases e : x = kl
  · subst e
    rw [Maps.atKey_put_same hm hl, f1]
  · rw [Maps.atKey_put_other e, hf, f2 x e]
theorem law9 : Maps.Keyed Tryz.prog 9 := Maps.string_keyed Tryz.underlying9
theorem lawF : Maps.Keyed Tryz.prog 45 := Maps.int_keyed Tryz.underlying45
theorem key9 {s : ByteArray} (h : s.size ≤ maxLen) : keyOf Tryz.prog 9 (.string s) = some (.string s.data.toList) := WideMaps.keyOf_string_mk Tryz.underlying9 h
theorem keyF {x : Int} (h0 : 0 ≤ x) (h1 : x ≤ 65535) : keyOf Tryz.prog 45 (.int .u16 x) = some (.int .u16 x) := Maps.keyOf_int_mk Tryz.underlying45 (WalkArith.wf_u16 (by omega))
theorem zero3 (w : World) : (zeroValue 3).run Tryz.prog w = .ok (.int .i64 0) w := by kernel_rfl
end Af
end Go.Proofs.YtlmahoogkogpdaaGreatDoor
/- The shelf. -/
