/- The shelf. -/
import Derived.Test.YtlajdmjpobckhaaGreatDoorShAll
import Derived.Test.YtlajdmjpobckhaaGreatDoorChecked
import Derived.Test.YtlajdmjpobckhaaGreatDoorGd00
import Derived.WalkKit
import Derived.WalkSpells
import Derived.WalkLawsBesides
import Derived.Deep.QuietTactic
import Derived.BigQuiet
import Derived.Deep.DeepFit
import Derived.Lib.Strings
import Derived.Maps.AppendAt
import Derived.RangeFuncBox
import Derived.RangeFuncNested
import Derived.RangeFuncBound
import Derived.RangeFuncCalls
import Derived.RangeFuncLeaves
import Derived.Shelf.Abstract
import Derived.Shelf.RegionOpen
import Derived.OwnWalkIn
import Derived.TacticsInMore
import Derived.LoopNIn
import Derived.LoopIn
/- Contract: lines.Fields answers a new list that holds the fields of the line (of a line of at most 2^43 bytes), and turns nothing old in memory. -/
namespace Go.Proofs.YtlajdmjpobckhaaGreatDoor
open Go.RowKit
namespace FldW

theorem hide {p : Prop} (h : p) : Hid p := h
theorem unhide {p : Prop} (h : Hid p) : p := h
def vals (L : List (List UInt8)) : List Value := L.map (fun f => Value.string (Fld.str f))
theorem vals_snoc (L : List (List UInt8)) (f : List UInt8) : vals (L ++ [f]) = vals L ++ [.string (Fld.str f)] := by simp [vals]
theorem vals_length (L : List (List UInt8)) : (vals L).length = L.length := by simp [vals]
theorem info9 : (Tryz.prog.info? 9).map (fun i => (i.zero, i.size, i.bytes)) = some (some (.string ByteArray.empty), 1, 16) := by kernel_rfl

theorem below_push {w wr w1 : World} {e : TypeId} {v : Value} {n : Nat} {xs : List Value} {o : Obj} (hown : wr.ownsRow w.heap.size e 1 v n xs) (hB : Below w.heap.size w wr) (hg : (wr.alloc o).grownBy w1 v.ownBlock) : Below w.heap.size w w1 :=
  (hB.alloc hB.size o).grown hg (by have := hB.size; simp; omega) (fun k e => (hown.lt k e).1)

theorem blank_cases (c : UInt8) (h : Fld.blank c = true) : (((c.toNat : Int) != 32) = false) ∨ (((c.toNat : Int) != 32) = true ∧ ((c.toNat : Int) != 9) = false) := by
  simp only [Fld.blank, Bool.or_eq_true, beq_iff_eq] at h
  rcases h with h | h
  · left; rw [h]; rfl
  · right; rw [h]; exact ⟨rfl, rfl⟩
theorem plain_of (c : UInt8) (h : Fld.blank c = false) : ((c.toNat : Int) != 32) = true ∧ ((c.toNat : Int) != 9) = true := by
  simp only [Fld.blank, Bool.or_eq_false_iff, beq_eq_false_iff_ne] at h
  constructor <;> (rw [bne_iff_ne]; omega)

set_option maxHeartbeats 1000000 in
theorem fields_any (s : ByteArray) (w : World) (hs : s.size * 16 ≤ 140737488355328) :
    Calls Tryz.prog 85 #[.string s] w fun e w' => ∃ v, e = .returned v ∧ w'.ownsRow w.heap.size 9 1 v (Fld.fieldsOf s.data.toList).length (vals (Fld.fieldsOf s.data.toList)) ∧ Below w.heap.size w w' := by
  obtain ⟨i0, hi, hz0, hz1, hz2⟩ := info_parts info9
  go_enter Tryz.func85, Tryz.ntmps85
  go_wp2
  go_loopw [3, 4, 5] (fun v a i wr => ∃ k : Nat, k ≤ s.size ∧ i = .int .i64 k ∧ a = .int .i64 ((k - Fld.op (Fld.pre s k) : Nat) : Int) ∧ wr.ownsRow w.heap.size 9 1 v (Fld.closed (Fld.pre s k)).length (vals (Fld.closed (Fld.pre s k))) ∧ Below w.heap.size w wr) (fun _ _ i _ => s.size - (intOf i).toNat)
  case atStart => exact ⟨0, Nat.zero_le _, rfl, rfl, World.ownsRow_nil _ _ _ _, Below.refl _ _⟩
  case round =>
    obtain ⟨k, hk, rfl, rfl, hown, hB⟩ := hrel
    have hol := Fld.closed_le s k hk
    have HP := hide (Fld.piece s k hk)
    by_cases hlt : k < s.size
    · cases hb : Fld.blank s[k] with
      | false =>
        have HST := hide (Fld.step_plain s k hlt hb)
        obtain ⟨h32, h9⟩ := plain_of _ hb
        generalize hkk : k - Fld.op (Fld.pre s k) = a at *
        have hE : k + 1 - Fld.op (Fld.pre s (k + 1)) = a := by rw [(unhide HST).2, ← hkk]; omega
        have HE := hide hE
        clear hkk hb hE
        go_wp2
        go_roundw
        case rel => exact ⟨k + 1, by omega, by go_num, by rw [unhide HE], by rw [(unhide HST).1]; exact hown, hB⟩
        case measure => simp [intOf]; omega
      | true =>
        have HST := hide (Fld.step_blank s k hlt hb)
        have HZ := hide (Fld.fields_zero s k)
        have HQ := hide (Fld.fields_pos s k)
        have hop : Fld.op (Fld.pre s k) ≤ k := Fld.op_le s k hk
        generalize hoo : Fld.op (Fld.pre s k) = o at *
        have HOO := hide hoo
        clear hoo
        have hbc := blank_cases _ hb
        clear hb
        by_cases ho : o = 0
        · have HZ2 := hide (unhide HZ ho)
          clear HZ HQ
          subst ho
          have e0 : k - 0 = k := rfl
          rw [e0]
          clear e0
          rcases hbc with h32 | ⟨h32, h9⟩
          all_goals
            go_wp2
            go_roundw
            case rel => exact ⟨k + 1, by omega, by go_num, by rw [(unhide HST).2]; go_num, by rw [(unhide HST).1, unhide HZ2]; exact hown, hB⟩
            case measure => simp [intOf]; omega
        · generalize hkk : k - o = a at *
          have hak : (a : Int) < (k : Int) := by omega
          have hak2 : a ≤ k := by omega
          have hop2 : 0 < o := by omega
          have HC : Hid (Fld.closed (Fld.pre s (k + 1)) = Fld.closed (Fld.pre s k) ++ [(Fld.st (Fld.pre s k)).2]) := by
            show Fld.closed (Fld.pre s (k + 1)) = Fld.closed (Fld.pre s k) ++ [(Fld.st (Fld.pre s k)).2]
            rw [(unhide HST).1, unhide HQ hop2]
          clear hkk ho HQ HZ
          rcases hbc with h32 | ⟨h32, h9⟩
          all_goals
            go_wp2_with (at_builtin; refine wpList_append_own _ rfl _ _ 22 rfl w.heap.size 9 i0 (.string ByteArray.empty) 1 16 Tryz.underlying22 hi hz0 hz1 hz2 rfl (by decide) _ _ _ rfl (hown.alloc _) ⟨wr.heap.size, 0, none⟩ 1 1 [.string (s.extract a k)] rfl rfl (cell_one_new _ _ _) (fun x hx => by simp at hx; subst hx; rfl) (by unfold maxLen; omega) (by omega) (by have := hB.size; simp; omega) ?_; intro v' w1 hown' hgrow _)
            have HB1 := hide (below_push hown hB hgrow)
            have HO1 : Hid (w1.ownsRow w.heap.size 9 1 v' (Fld.closed (Fld.pre s (k + 1))).length (vals (Fld.closed (Fld.pre s (k + 1))))) := by
              show w1.ownsRow w.heap.size 9 1 v' (Fld.closed (Fld.pre s (k + 1))).length (vals (Fld.closed (Fld.pre s (k + 1))))
              rw [unhide HC, vals_snoc, List.length_append, ← unhide HP]
              exact hown'
            clear hown' hgrow hown hB
            go_wp2
            go_roundw
            case rel => exact ⟨k + 1, by omega, by go_num, by rw [(unhide HST).2]; go_num, unhide HO1, unhide HB1⟩
            case measure => simp [intOf]; omega
    · have hkz : k = s.size := by omega
      have HF := hide (Fld.fields_full s k (by omega))
      have HZ := hide (Fld.fields_zero s k)
      have HQ := hide (Fld.fields_pos s k)
      have hop : Fld.op (Fld.pre s k) ≤ k := Fld.op_le s k hk
      generalize hoo : Fld.op (Fld.pre s k) = o at *
      clear hoo
      by_cases ho : o = 0
      · have HZ2 := hide (unhide HZ ho)
        clear HZ HQ
        subst ho
        have e0 : k - 0 = k := rfl
        rw [e0]
        clear e0 hkz
        have hge : ¬ ((k : Int) < (s.size : Int)) := by omega
        go_wp2
        go_ret
        exact ⟨_, rfl, by rw [← unhide HF, unhide HZ2]; exact hown, hB⟩
      · generalize hkk : k - o = a at *
        have hak : (a : Int) < (s.size : Int) := by omega
        have hop2 : 0 < o := by omega
        have hak2 : a ≤ s.size := by omega
        subst hkz
        clear hkk ho HZ
        go_wp2_with (at_builtin; refine wpList_append_own _ rfl _ _ 22 rfl w.heap.size 9 i0 (.string ByteArray.empty) 1 16 Tryz.underlying22 hi hz0 hz1 hz2 rfl (by decide) _ _ _ rfl (hown.alloc _) ⟨wr.heap.size, 0, none⟩ 1 1 [.string (s.extract a s.size)] rfl rfl (cell_one_new _ _ _) (fun x hx => by simp at hx; subst hx; rfl) (by unfold maxLen; omega) (by omega) (by have := hB.size; simp; omega) ?_; intro v' w1 hown' hgrow _)
        have HB1 := hide (below_push hown hB hgrow)
        have HO1 : Hid (w1.ownsRow w.heap.size 9 1 v' (Fld.fieldsOf s.data.toList).length (vals (Fld.fieldsOf s.data.toList))) := by
          show w1.ownsRow w.heap.size 9 1 v' (Fld.fieldsOf s.data.toList).length (vals (Fld.fieldsOf s.data.toList))
          rw [← unhide HF, unhide HQ hop2, vals_snoc, List.length_append, ← unhide HP]
          exact hown'
        clear hown' hgrow hown hB
        go_wp2
        go_ret
        exact ⟨_, rfl, unhide HO1, unhide HB1⟩
end FldW
end Go.Proofs.YtlajdmjpobckhaaGreatDoor
/- Contract: lines.Each hands back an iterator that gives the numbered lines of the text (none where the text is too long), in their order, all of them or as many as are asked for. -/
namespace Go.Proofs.YtlajdmjpobckhaaGreatDoor
open Go.RowKit Go.Shelf
namespace EachW
open FldW
attribute [local go_sem] Oper.semAt_some

abbrev Item := { x : Nat × ByteArray // x.1 ≤ 65537 ∧ x.2.size ≤ 65536 }
def raw (p : List Item) : List (Nat × ByteArray) := p.map fun x => x.1
theorem raw_snoc (p : List Item) (x : Item) : raw (p ++ [x]) = raw p ++ [x.1] := by simp [raw]
theorem raw_length (p : List Item) : (raw p).length = p.length := by simp [raw]
theorem size_str (l : List UInt8) : (Fld.str l).size = l.length := by show l.toArray.size = l.length; simp
def strLen : Value → Nat
  | .string s => s.size
  | _ => 0
def MaxIs (w : World) : Prop := ∃ m : Int, w.cell? ⟨0, 0, none⟩ = some (.int .i64 m)
theorem MaxIs.below {w w' : World} {n : Nat} (h : MaxIs w) (hn : 0 < n) (hB : Below n w w') : MaxIs w' := by
  obtain ⟨m, hm⟩ := h
  exact ⟨m, (hB.cell (p := ⟨0, 0, none⟩) hn).trans hm⟩

theorem maxIs_of {W : World} (h : W.ShapedOpen Tryz.prog) : MaxIs W := Tryz.laysM145.s1_3 W h

theorem cut_call (R : List UInt8) (w : World) (hR : R.length ≤ 65536) (hm : MaxIs w) :
    Calls Tryz.prog 106 #[.string ⟨R.toArray⟩, .string ⟨#[10]⟩] w fun e w' => ∃ b, e = .returned (.tuple #[.string ⟨(Ln.bef R).toArray⟩, .string ⟨(Ln.aft R).toArray⟩, .bool b]) ∧ ∃ n, w' = w.drewN n := by
  obtain ⟨m, hm⟩ := hm
  have h := Tryz.strings_Cut ⟨R.toArray⟩ ⟨#[10]⟩ m w (by show R.toArray.size < _; simp; omega) hm
  refine h.mono ?_
  rintro e w' ⟨rfl, hn⟩
  have e1 : (ByteArray.mk R.toArray).data.toList = R := by simp
  have e2 : (ByteArray.mk #[10]).data.toList = [10] := rfl
  rw [e1, e2, (Ln.cut_eq R).1, (Ln.cut_eq R).2]
  exact ⟨_, rfl, hn⟩
theorem trim_call (l : List UInt8) (w : World) (hl : l.length ≤ 65536) :
    Calls Tryz.prog 107 #[.string ⟨l.toArray⟩, .string ⟨#[13]⟩] w fun e w' => e = .returned (.string (Fld.str (Ln.ended l))) ∧ w' = w := by
  have h := Tryz.strings_TrimSuffix ⟨l.toArray⟩ ⟨#[13]⟩ w (by show l.toArray.size ≤ _; simp; omega)
  have e1 : (ByteArray.mk l.toArray).data.toList = l := by simp
  have e2 : (ByteArray.mk #[13]).data.toList = [13] := rfl
  rw [e1, e2, Ln.ended_eq] at h
  exact h
theorem unmark_call (s : ByteArray) (w : World) :
    Calls Tryz.prog 105 #[.string s, .string ⟨#[239, 187, 191]⟩] w fun e w' => e = .returned (.string ⟨(Ln.unmark s.data.toList).toArray⟩) ∧ w' = w :=
  Tryz.strings_TrimPrefix s ⟨#[239, 187, 191]⟩ w

theorem abides_drewN {α : Type} {B : Nat} {J : α → World → Prop} (h : AbidesFrom B J) {s : α} {W : World} (hs : J s W) (n : Nat) : J s (W.drewN n) :=
  h s W (W.drewN n) none hs ⟨rfl, rfl, rfl, Nat.le_refl _, fun _ _ _ => rfl⟩ (fun r e => by cases e)

set_option maxRecDepth 100000 in
set_option maxHeartbeats 2000000 in
theorem each1_in (n : Nat) (hn : 1 ≤ n) (l Bn n₀ : Nat) (s : ByteArray) (hs : s.size ≤ 65536) (J Jx : List Item → World → Prop) (hn₀ : 0 < n₀) (B : Nat) (hJd : AbidesFrom B J)
    (hY : ∀ pre x W, J pre W → pre.length < (Ln.items s.data.toList).length → YieldAt Fence.wide (n - 1) Tryz.prog l #[.int .i64 (x.1.1 : Int), .string x.1.2] W fun e W' =>
      (e = .returned (.bool true) ∧ J (pre ++ [x]) W' ∧ Below n₀ W W') ∨ (e = .returned (.bool false) ∧ Jx (pre ++ [x]) W'))
    (W : World) (hBn : W.cell? ⟨Bn, 0, none⟩ = some (.string s)) (hM : MaxIs W) (h0 : J [] W) :
    CallsIn Fence.wide n Tryz.prog 104 #[.func (.yield l) #[] #[], .pointer (some ⟨Bn, 0, none⟩)] W fun e W' => (∃ v, e = .returned v) ∧
      ((∃ ys, raw ys = Ln.items s.data.toList ∧ J ys W') ∨ (∃ pre, raw pre <+: Ln.items s.data.toList ∧ Jx pre W')) := by
  have hs2 : ¬ (65536 : Int) < (s.size : Int) := by omega
  refine callsIn_of_wp Tryz.func104 rfl trivial ?_ rfl
  simp only [Tryz.ntmps104, List.size_toArray, List.length_cons, List.length_nil, Nat.reduceAdd, Nat.reduceSub, Array.replicate_succ, Array.replicate_zero, List.push_toArray, List.append_toArray, List.nil_append, List.cons_append]
  gi_wp2_with (refine ⟨trivial, ?_⟩; gi_at_call 105; refine (callsIn_wide.2 (unmark_call s _)).mono ?_; rintro e w' ⟨rfl, rfl⟩)
  gi_loopw [3, 4] (fun r q wr => ∃ (pre : List Item) (R : List UInt8), r = .string ⟨R.toArray⟩ ∧ q = .int .i64 ((pre.length : Int) + 1) ∧ pre.length + R.length ≤ 65536 ∧ J pre wr ∧ MaxIs wr ∧ Hid (Ln.items s.data.toList = raw pre ++ Ln.num (pre.length + 1) (Ln.ln R)))
    (fun r _ _ => strLen r)
  case atStart => exact ⟨[], Ln.unmark s.data.toList, rfl, rfl, by have := Ln.unmark_le s.data.toList; simp at this ⊢; omega, h0, hM, rfl⟩
  case round =>
    obtain ⟨pre, R, rfl, rfl, hlen, hJs, hMr, HI⟩ := hrel
    by_cases hR0 : R = []
    · subst hR0
      gi_wp2
      go_end0
      exact ⟨⟨_, rfl⟩, .inl ⟨pre, by rw [HI.out]; simp [Ln.ln_nil, Ln.num], hJs⟩⟩
    · have hE : R.isEmpty = false := by
        cases R with
        | nil => exact absurd rfl hR0
        | cons _ _ => rfl
      have hbl := Ln.bef_le R
      have hal := Ln.aft_lt R hR0
      have HI2 : Hid (Ln.items s.data.toList = raw pre ++ (pre.length + 1, Fld.str (Ln.ended (Ln.bef R))) :: Ln.num (pre.length + 1 + 1) (Ln.ln (Ln.aft R))) := by
        have := HI.out
        rw [Ln.ln_cons R hR0] at this
        exact this
      have hpl : pre.length < (Ln.items s.data.toList).length := by rw [HI2.out]; simp [raw_length]
      have hbx : (pre.length + 1, Fld.str (Ln.ended (Ln.bef R))).1 ≤ 65537 ∧ (pre.length + 1, Fld.str (Ln.ended (Ln.bef R))).2.size ≤ 65536 := by
        have h1 := Ln.ended_len (Ln.bef R)
        refine ⟨by show pre.length + 1 ≤ 65537; omega, ?_⟩
        show (Fld.str (Ln.ended (Ln.bef R))).size ≤ 65536
        rw [size_str]
        omega
      have hyc : ∀ Wq, J pre Wq → YieldAt Fence.wide (n - 1) Tryz.prog l #[.int .i64 ((pre.length : Int) + 1), .string (Fld.str (Ln.ended (Ln.bef R)))] Wq fun e W' =>
          (e = .returned (.bool true) ∧ J (pre ++ [⟨(pre.length + 1, Fld.str (Ln.ended (Ln.bef R))), hbx⟩]) W' ∧ Below n₀ Wq W') ∨ (e = .returned (.bool false) ∧ Jx (pre ++ [⟨(pre.length + 1, Fld.str (Ln.ended (Ln.bef R))), hbx⟩]) W') :=
        fun Wq hq => hY pre ⟨(pre.length + 1, Fld.str (Ln.ended (Ln.bef R))), hbx⟩ Wq hq hpl
      have HYC := hide hyc
      clear hR0 HI hpl hyc
      gi_wp2_with (first | (refine ⟨trivial, ?_⟩; gi_at_call 106; refine (callsIn_wide.2 (cut_call R _ (by omega) hMr)).mono ?_; rintro e w' ⟨bq, rfl, nq, rfl⟩; obtain ⟨fn, tmps, assign, body, hy, hR⟩ := unhide HYC (wr.drewN nq) (abides_drewN hJd hJs nq)) | (refine ⟨trivial, ?_⟩; gi_at_call 107; refine (callsIn_wide.2 (trim_call (Ln.bef R) _ (by omega))).mono ?_; rintro e w' ⟨rfl, rfl⟩))
      refine hR.mono ?_
      rintro e W3 (⟨rfl, hJ3, hk3⟩ | ⟨rfl, hJx3⟩)
      · have hM3 : MaxIs W3 := MaxIs.below (w := wr.drewN nq) hMr hn₀ hk3
        gi_wp2
        go_roundw
        case rel => exact ⟨pre ++ [⟨(pre.length + 1, Fld.str (Ln.ended (Ln.bef R))), hbx⟩], Ln.aft R, rfl, by rw [List.length_append, List.length_singleton]; go_num, by rw [List.length_append, List.length_singleton]; omega, hJ3, hM3, by
            have e := HI2.out
            show Ln.items s.data.toList = _
            rw [e, raw_snoc]
            simp⟩
        case measure => simp [strLen]; exact hal
      · gi_wp2
        refine bodyPost_ret (results_none rfl _ _ _) rfl ?_
        exact ⟨⟨_, rfl⟩, .inr ⟨_, ⟨Ln.num (pre.length + 1 + 1) (Ln.ln (Ln.aft R)), by rw [HI2.out, raw_snoc]; simp⟩, hJx3⟩⟩
/-- what Each gives of a text of whatever length -/
def gives (s : ByteArray) : List (Nat × ByteArray) := if s.size ≤ 65536 then Ln.items s.data.toList else []

set_option maxRecDepth 100000 in
set_option maxHeartbeats 1000000 in
theorem each1_long (n : Nat) (l Bn : Nat) (s : ByteArray) (hs : 65536 < (s.size : Int)) (W : World) (hBn : W.cell? ⟨Bn, 0, none⟩ = some (.string s)) :
    CallsIn Fence.wide n Tryz.prog 104 #[.func (.yield l) #[] #[], .pointer (some ⟨Bn, 0, none⟩)] W fun e W' => (∃ v, e = .returned v) ∧ W' = W := by
  refine callsIn_of_wp Tryz.func104 rfl trivial ?_ rfl
  simp only [Tryz.ntmps104, List.size_toArray, List.length_cons, List.length_nil, Nat.reduceAdd, Nat.reduceSub, Array.replicate_succ, Array.replicate_zero, List.push_toArray, List.append_toArray, List.nil_append, List.cons_append]
  gi_wp2
  refine bodyPost_ret (results_none rfl _ _ _) rfl ?_
  exact ⟨⟨_, rfl⟩, rfl⟩

/-- The iterator that Each hands back. -/
theorem each_stops (n : Nat) (hn : 1 ≤ n) (Bn n₀ : Nat) (s : ByteArray) (w : World) (hBn : Bn < w.heap.size) (hn₀ : 0 < n₀) (hle : n₀ ≤ w.heap.size) (hc : w.cell? ⟨Bn, 0, none⟩ = some (.string s)) (hM : MaxIs w) :
    SeqStopsK Fence.wide n Tryz.prog 104 #[.pointer (some ⟨Bn, 0, none⟩)] (fun x : Item => #[Value.int .i64 (x.1.1 : Int), Value.string x.1.2]) (Below n₀) (fun ys => raw ys = gives s) (fun pre => raw pre <+: gives s) (gives s).length w := by
  intro l J Jx W hW hJ hJx hY h0
  have hcW : W.cell? ⟨Bn, 0, none⟩ = some (.string s) := (hW.cell (p := ⟨Bn, 0, none⟩) hBn).trans hc
  by_cases hs : s.size ≤ 65536
  · have e : gives s = Ln.items s.data.toList := if_pos hs
    rw [e] at hY ⊢
    exact each1_in n hn l Bn n₀ s hs J Jx hn₀ W.heap.size hJ hY W hcW (hM.below (Nat.lt_of_lt_of_le hn₀ hle) hW) h0
  · have e : gives s = [] := if_neg hs
    rw [e]
    exact (each1_long n l Bn s (by omega) W hcW).mono fun e W' ⟨hv, hw⟩ => by
      subst hw
      exact ⟨hv, .inl ⟨[], rfl, h0⟩⟩

set_option maxHeartbeats 1000000 in
theorem each_in (n : Nat) (s : ByteArray) (w : World) :
    CallsIn Fence.wide n Tryz.prog 83 #[.string s] w fun e w' => e = .returned (.func (.func 104) #[] #[.pointer (some ⟨w.heap.size, 0, none⟩)]) ∧ w' = w.alloc (.cells #[.string s] 9) := by
  refine callsIn_of_wp Tryz.func83 rfl trivial ?_ rfl
  simp only [Tryz.ntmps83, List.size_toArray, List.length_cons, List.length_nil, Nat.reduceAdd, Nat.reduceSub, Array.replicate_succ, Array.replicate_zero, List.push_toArray, List.append_toArray, List.nil_append, List.cons_append]
  gi_wp2
  go_ret
  exact ⟨rfl, rfl⟩
end EachW
end Go.Proofs.YtlajdmjpobckhaaGreatDoor
/- Contract: the laws' comparison of two lists of texts answers true where both lists hold the same texts; nothing in memory turns. -/
namespace Go.Proofs.YtlajdmjpobckhaaGreatDoor
open Go.RowKit
namespace Same
open FldW

/-- The slice value v reads as the texts L. -/
def IsStrs (w : World) (v : Value) (L : List ByteArray) : Prop :=
  ∃ ao cap, v = .slice ao L.length cap ∧ L.length ≤ maxLen ∧ (L = [] ∨ ∃ g off, ao = some ⟨g, off, none⟩ ∧ ∀ j x, L[j]? = some x → w.cell? ⟨g, off + j, none⟩ = some (.string x))
theorem isStrs_of_owns {w : World} {B : Nat} {v : Value} {L : List (List UInt8)} (h : w.ownsRow B 9 1 v L.length (vals L)) : IsStrs w v (L.map Fld.str) := by
  have hc := h
  obtain ⟨hl, ⟨rfl, h0⟩ | ⟨g, cap, cur, rfl, hg, hh, hc1, hm, hsz, htk⟩⟩ := h
  · have : L = [] := List.eq_nil_of_length_eq_zero h0
    subst this
    exact ⟨none, 0, rfl, by simp, .inl rfl⟩
  · refine ⟨some ⟨g, 0, none⟩, cap, by simp, by simp; omega, ?_⟩
    right
    refine ⟨g, 0, rfl, fun j x hj => ?_⟩
    have := hc.cells (g := g) rfl j (.string x) (by
      simp only [List.getElem?_map, Option.map_eq_some_iff] at hj
      obtain ⟨f, hf, rfl⟩ := hj
      simp [vals, hf])
    have e : (⟨g, 0, none⟩ : Addr).add j = ⟨g, 0 + j, none⟩ := by
      unfold Addr.add
      split
      · rename_i h; subst h; rfl
      · rfl
    rw [e] at this
    exact this

theorem owns_below {w w' : World} {base : Nat} {e : TypeId} {size : Nat} {v : Value} {n : Nat} {xs : List Value} (h : w.ownsRow base e size v n xs) (hB : Below w.heap.size w w') : w'.ownsRow base e size v n xs := by
  obtain ⟨hl, h | ⟨g, cap, cur, rfl, hg, hh, hr⟩⟩ := h
  · exact ⟨hl, .inl h⟩
  · refine ⟨hl, .inr ⟨g, cap, cur, rfl, hg, ?_, hr⟩⟩
    rw [hB.block g (Array.getElem?_eq_some_iff.1 hh).1]
    exact hh

end Same
end Go.Proofs.YtlajdmjpobckhaaGreatDoor
/- What it is that a list of rows lies in memory, and that it stays so; no walk. -/
namespace Go.Proofs.YtlajdmjpobckhaaGreatDoor
open Go.RowKit
namespace RowB
open FldW

/-- v is a list of texts in a block of its own, from block n₀ on. -/
def StrRow (n₀ : Nat) (W : World) (v : Value) (L : List ByteArray) : Prop :=
  ∃ g cap cur, v = .slice (some ⟨g, 0, none⟩) L.length cap ∧ n₀ ≤ g ∧ W.heap[g]? = some (.cells cur 9 (0, 0)) ∧ L.length ≤ cap ∧ cap ≤ maxLen ∧ cap ≤ cur.size ∧ cur.toList.take L.length = L.map Value.string
def Keep9 (W W' : World) : Prop := ∀ (g : Nat) (cur : Array Value), W.heap[g]? = some (.cells cur 9 (0, 0)) → W'.heap[g]? = some (.cells cur 9 (0, 0))
theorem StrRow.kept {n₀ : Nat} {W W' : World} {v : Value} {L : List ByteArray} (h : StrRow n₀ W v L) (k : Keep9 W W') : StrRow n₀ W' v L := by
  obtain ⟨g, cap, cur, e, hg, hh, r⟩ := h
  exact ⟨g, cap, cur, e, hg, k g cur hh, r⟩
theorem StrRow.mono {n₀ n₁ : Nat} {W : World} {v : Value} {L : List ByteArray} (h : StrRow n₀ W v L) (k : n₁ ≤ n₀) : StrRow n₁ W v L := by
  obtain ⟨g, cap, cur, e, hg, r⟩ := h
  exact ⟨g, cap, cur, e, Nat.le_trans k hg, r⟩
theorem Keep9.refl (W : World) : Keep9 W W := fun _ _ h => h
theorem Keep9.trans {A B C : World} (h : Keep9 A B) (k : Keep9 B C) : Keep9 A C := fun g cur x => k g cur (h g cur x)
theorem Keep9.below {W W' : World} (h : Below W.heap.size W W') : Keep9 W W' := fun g _ x => (h.block g (Array.getElem?_eq_some_iff.1 x).1).trans x
theorem Keep9.alloc (W : World) (o : Obj) : Keep9 W (W.alloc o) := Keep9.below ((Below.refl _ _).alloc (Nat.le_refl _) _)
theorem Keep9.drewN (W : World) (n : Nat) : Keep9 W (W.drewN n) := fun _ _ h => h
theorem Keep9.grown {W W' : World} {row : Option Nat} (hg : W.grownBy W' row) (hr : ∀ r, row = some r → ∀ cur, W.heap[r]? ≠ some (.cells cur 9 (0, 0))) : Keep9 W W' := fun g cur x =>
  (hg.block g (Array.getElem?_eq_some_iff.1 x).1 (fun e => hr g e.symm cur x)).trans x
theorem Keep9.grown_own {W W' : World} {n₀ : Nat} {e : TypeId} {z : Nat} {v : Value} {n : Nat} {xs : List Value} (h : W.ownsRow n₀ e z v n xs) (he : e ≠ 9) (hg : W.grownBy W' v.ownBlock) : Keep9 W W' := by
  refine Keep9.grown hg ?_
  intro r hr cur hx
  obtain ⟨_, ⟨rfl, _⟩ | ⟨g, cap, c, rfl, _, hh, _⟩⟩ := h
  · cases hr
  · obtain rfl : g = r := by simpa [Value.ownBlock] using hr
    rw [hh] at hx
    have := Option.some.inj hx
    injection this with _ h2 _
    exact he h2
theorem Keep9.box {W : World} {B : Nat} {t : TypeId} {v : Value} (h : Boxed W B t v) (ht : t ≠ 9) (u : Value) : Keep9 W (W.setCell ⟨B, 0, none⟩ u) := by
  refine Keep9.grown (grownBy_setCell' W B u) ?_
  intro r hr cur hx
  obtain rfl : B = r := by simpa using hr
  rw [show W.heap[B]? = _ from h] at hx
  have := Option.some.inj hx
  injection this with _ h2 _
  exact ht h2
theorem strRow_of_owns {W : World} {n₀ : Nat} {v : Value} {L : List (List UInt8)} (h : W.ownsRow n₀ 9 1 v L.length (vals L)) (h0 : L ≠ []) : StrRow n₀ W v (L.map Fld.str) := by
  obtain ⟨hl, ⟨rfl, h1⟩ | ⟨g, cap, cur, rfl, hg, hh, hc1, hm, hsz, htk⟩⟩ := h
  · exact absurd (List.eq_nil_of_length_eq_zero h1) h0
  · refine ⟨g, cap, cur, by simp, hg, hh, by simpa using hc1, hm, by omega, ?_⟩
    rw [List.length_map, List.map_map]
    rw [Nat.mul_one] at htk
    exact htk
theorem isStrs_of_row {W : World} {n₀ : Nat} {v : Value} {L : List ByteArray} (h : StrRow n₀ W v L) : Same.IsStrs W v L := by
  obtain ⟨g, cap, cur, rfl, hg, hh, hc, hm, hz, ht⟩ := h
  refine ⟨_, cap, rfl, by omega, .inr ⟨g, 0, rfl, fun j x hj => ?_⟩⟩
  have h1 : (cur.toList.take L.length)[j]? = some (.string x) := by rw [ht]; simp [hj]
  have hjl : j < L.length := (List.getElem?_eq_some_iff.1 hj).1
  rw [List.getElem?_take, if_pos hjl] at h1
  simp only [World.cell?, hh, Nat.zero_add]
  simpa using h1

def Fits (n₀ : Nat) (W : World) : List (Nat × Value) → List (Nat × List (List UInt8)) → Prop
  | [], [] => True
  | e :: E, r :: R => (e.1 = r.1 ∧ StrRow n₀ W e.2 (r.2.map Fld.str)) ∧ Fits n₀ W E R
  | _, _ => False
theorem Fits.kept {n₀ : Nat} {W W' : World} (k : Keep9 W W') : ∀ {E : List (Nat × Value)} {R : List (Nat × List (List UInt8))}, Fits n₀ W E R → Fits n₀ W' E R
  | [], [], _ => trivial
  | _ :: _, _ :: _, ⟨⟨h1, h2⟩, h3⟩ => ⟨⟨h1, h2.kept k⟩, Fits.kept k h3⟩
theorem Fits.snoc {n₀ : Nat} {W : World} {e : Nat × Value} {r : Nat × List (List UInt8)} (h1 : e.1 = r.1) (h2 : StrRow n₀ W e.2 (r.2.map Fld.str)) : ∀ {E : List (Nat × Value)} {R : List (Nat × List (List UInt8))}, Fits n₀ W E R → Fits n₀ W (E ++ [e]) (R ++ [r])
  | [], [], _ => ⟨⟨h1, h2⟩, trivial⟩
  | _ :: _, _ :: _, ⟨h3, h4⟩ => ⟨h3, Fits.snoc h1 h2 h4⟩
theorem Fits.length {n₀ : Nat} {W : World} : ∀ {E : List (Nat × Value)} {R : List (Nat × List (List UInt8))}, Fits n₀ W E R → E.length = R.length
  | [], [], _ => rfl
  | _ :: _, _ :: _, ⟨_, h4⟩ => by simp [Fits.length h4]
theorem Fits.get {n₀ : Nat} {W : World} : ∀ {E : List (Nat × Value)} {R : List (Nat × List (List UInt8))}, Fits n₀ W E R → ∀ (j : Nat) e, E[j]? = some e → ∃ r, R[j]? = some r ∧ e.1 = r.1 ∧ StrRow n₀ W e.2 (r.2.map Fld.str)
  | [], [], _, j, e, h => by simp at h
  | _ :: _, r :: _, ⟨h3, h4⟩, j, e, h => by
    cases j with
    | zero => simp at h; subst h; exact ⟨r, by simp, h3⟩
    | succ j => simpa using Fits.get h4 j e (by simpa using h)
theorem Fits.blocks {n₀ : Nat} {W : World} {E : List (Nat × Value)} {R : List (Nat × List (List UInt8))} (h : Fits n₀ W E R) : ∀ b ∈ E.map (fun e => e.2.ownBlock), ∃ g, b = some g ∧ n₀ ≤ g ∧ g < W.heap.size := by
  intro b hb
  obtain ⟨e, he, rfl⟩ := List.mem_map.1 hb
  obtain ⟨j, hj, hje⟩ := List.getElem_of_mem he
  obtain ⟨r, _, _, g, cap, cur, e2, hg, hh, _⟩ := h.get j e (by rw [List.getElem?_eq_getElem hj, hje])
  rw [e2]
  exact ⟨g, rfl, hg, (Array.getElem?_eq_some_iff.1 hh).1⟩
theorem Fits.low {n₀ n₁ : Nat} {W : World} (k : n₁ ≤ n₀) : ∀ {E : List (Nat × Value)} {R : List (Nat × List (List UInt8))}, Fits n₀ W E R → Fits n₁ W E R
  | [], [], _ => trivial
  | _ :: _, _ :: _, ⟨⟨h1, h2⟩, h3⟩ => ⟨⟨h1, h2.mono k⟩, Fits.low k h3⟩
theorem owns_low {w : World} {n₀ n₁ : Nat} {e : TypeId} {size : Nat} {v : Value} {n : Nat} {xs : List Value} (h : w.ownsRow n₀ e size v n xs) (k : n₁ ≤ n₀) : w.ownsRow n₁ e size v n xs := by
  obtain ⟨hl, h | ⟨g, cap, cur, rfl, hg, r⟩⟩ := h
  · exact ⟨hl, .inl h⟩
  · exact ⟨hl, .inr ⟨g, cap, cur, rfl, Nat.le_trans k hg, r⟩⟩
def cellsE (E : List (Nat × Value)) : List Value := E.flatMap fun p => [.int .i64 (p.1 : Int), p.2]
theorem cellsE_snoc (E : List (Nat × Value)) (e : Nat × Value) : cellsE (E ++ [e]) = cellsE E ++ [.int .i64 (e.1 : Int), e.2] := by simp [cellsE]
theorem cellsE_length (E : List (Nat × Value)) : (cellsE E).length = E.length * 2 := by
  induction E with
  | nil => rfl
  | cons e E ih => simp [cellsE] at ih ⊢; omega
theorem cellsE_get (E : List (Nat × Value)) : ∀ (j : Nat) e, E[j]? = some e → (cellsE E)[2 * j]? = some (.int .i64 (e.1 : Int)) ∧ (cellsE E)[2 * j + 1]? = some e.2 := by
  induction E with
  | nil => intro j e h; simp at h
  | cons x E ih =>
    intro j e h
    have ec : cellsE (x :: E) = .int .i64 (x.1 : Int) :: x.2 :: cellsE E := rfl
    rw [ec]
    cases j with
    | zero => simp at h; subst h; exact ⟨rfl, rfl⟩
    | succ j =>
      have := ih j e (by simpa using h)
      rw [show 2 * (j + 1) = 2 * j + 1 + 1 from by omega]
      simpa using this

/-- the program's own rows have no room behind their fields -/
def Exact (eR : TypeId) (E : List (Nat × Value)) : Prop := eR = 131 → ∀ e ∈ E, ∃ g n, e.2 = .slice (some ⟨g, 0, none⟩) n n
theorem Exact.nil (eR : TypeId) : Exact eR [] := fun _ e h => by cases h
theorem Exact.snoc {eR : TypeId} {E : List (Nat × Value)} {e : Nat × Value} (h : Exact eR E) (k : eR = 131 → ∃ g n, e.2 = .slice (some ⟨g, 0, none⟩) n n) : Exact eR (E ++ [e]) := fun he x hx => by
  rcases List.mem_append.1 hx with hx | hx
  · exact h he x hx
  · simp at hx; subst hx; exact k he
/-- v is a list of the rows R, each with a list of its own. -/
def RowsAre (n₀ : Nat) (eR : TypeId) (W : World) (v : Value) (R : List (Nat × List (List UInt8))) : Prop :=
  ∃ E : List (Nat × Value), Fits n₀ W E R ∧ W.ownsRow n₀ eR 2 v E.length (cellsE E) ∧ (E.map fun e => e.2.ownBlock).Nodup ∧ Exact eR E
theorem RowsAre.below {n₀ : Nat} {eR : TypeId} {W W' : World} {v : Value} {R : List (Nat × List (List UInt8))} (h : RowsAre n₀ eR W v R) (hB : Below W.heap.size W W') : RowsAre n₀ eR W' v R := by
  obtain ⟨E, h1, h2, h3⟩ := h
  exact ⟨E, h1.kept (Keep9.below hB), Same.owns_below h2 hB, h3⟩
theorem nodup_snoc {α : Type} {l : List α} {a : α} (h : l.Nodup) (ha : a ∉ l) : (l ++ [a]).Nodup := by
  rw [List.nodup_append]
  exact ⟨h, by simp, fun x hx y hy e => by simp at hy; subst hy; subst e; exact ha hx⟩
end RowB
end Go.Proofs.YtlajdmjpobckhaaGreatDoor
/- Contracts: what of a line's fields is kept ahead of a remark; the rows of a text (lines.Rows). -/
namespace Go.Proofs.YtlajdmjpobckhaaGreatDoor
open Go.RowKit Go.Shelf
namespace RowW
open FldW EachW RowB
attribute [local go_sem] Oper.semAt_some

theorem begins_any (f : ByteArray) (w : World) : Calls Tryz.prog 108 #[.string f] w fun e w' => e = .returned (.bool (Rw.rem f.data.toList)) ∧ w' = w := by
  go_enter Tryz.func108, Tryz.ntmps108
  go_wp2_with fail
  refine (Tryz.strings_HasPrefix f ⟨#[35]⟩ w).mono ?_
  rintro e w' ⟨rfl, hw⟩
  obtain rfl := hw.symm
  go_wp2
  go_ret
  exact ⟨rfl, rfl⟩

set_option maxHeartbeats 1000000 in
theorem ahead_any (fs : List (List UInt8)) (n₀ : Nat) (v : Value) (w : World) (h : w.ownsRow n₀ 9 1 v fs.length (vals fs)) :
    Calls Tryz.prog 84 #[v] w fun e w' => (∃ r, e = .returned r ∧ ((Rw.keep fs = [] ∧ ∃ a, r = .slice a 0 0) ∨ (Rw.keep fs ≠ [] ∧ ∃ g, r = .slice (some ⟨g, 0, none⟩) (Rw.keep fs).length (Rw.keep fs).length ∧ v.ownBlock = some g ∧ StrRow n₀ w r ((Rw.keep fs).map Fld.str)))) ∧ w' = w := by
  by_cases h0 : fs = []
  · subst h0
    rw [List.length_nil] at h
    have hk : Rw.keep [] = [] := rfl
    rw [hk]
    clear hk
    obtain ⟨_, ⟨rfl, _⟩ | ⟨g', cap', cur, rfl, _, hh, hc1, hc2⟩⟩ := h
    · go_enter Tryz.func84, Tryz.ntmps84
      go_wp2
      go_loop [3] (fun i => i = .int .i64 0) (fun _ => 0)
      case atStart => rfl
      case round =>
        subst hrel
        go_wp2
        go_ret
        exact ⟨⟨_, rfl, _, rfl⟩, rfl⟩
    · clear hh hc2
      go_enter Tryz.func84, Tryz.ntmps84
      go_wp2
      go_loop [3] (fun i => i = .int .i64 0) (fun _ => 0)
      case atStart => rfl
      case round =>
        subst hrel
        go_wp2
        go_ret
        exact ⟨⟨_, rfl, _, rfl⟩, rfl⟩
  · have hRow := strRow_of_owns h h0
    have hIs := isStrs_of_row hRow
    obtain ⟨g, cap, cur, rfl, hg, hh, hc, hm, hz, ht⟩ := hRow
    rw [List.length_map] at hc ht ⊢
    have hcell : ∀ j f, fs[j]? = some f → w.cell? ⟨g, j, none⟩ = some (.string (Fld.str f)) := by
      obtain ⟨ao, c2, e, _, h1 | ⟨g2, o2, e2, hx⟩⟩ := hIs
      · simp at h1; exact absurd h1 h0
      · intro j f hf
        injection e with e3
        rw [e2] at e3
        injection e3 with e4
        injection e4 with e5 e6
        subst e5; subst e6
        have := hx j (Fld.str f) (by simp [hf])
        simpa using this
    have HC := hide hcell
    clear hcell hIs h
    have hkl := Rw.keep_le fs
    have HT : Hid (Rw.keep fs ≠ [] → StrRow n₀ w (.slice (some ⟨g, 0, none⟩) (Rw.keep fs).length (Rw.keep fs).length) ((Rw.keep fs).map Fld.str)) := fun _ =>
      ⟨g, (Rw.keep fs).length, cur, by simp, hg, hh, by simp, by omega, by omega, by
        rw [List.length_map]
        have hk := Rw.keep_take fs
        have e1 : cur.toList.take (Rw.keep fs).length = (cur.toList.take fs.length).take (Rw.keep fs).length := by rw [List.take_take]; congr 1; omega
        rw [e1, ht, ← List.map_take, ← List.map_take, ← hk]⟩
    have HLT := hide (Rw.keep_lt_of fs)
    have HEND := hide (Rw.keep_end fs)
    generalize hL : fs.length = z at *
    have HL := hide hL
    generalize hK : (Rw.keep fs).length = kk at *
    have HK := hide hK
    clear hL hK ht hh h0
    unfold maxLen at hm
    go_enter Tryz.func84, Tryz.ntmps84
    go_wp2
    go_loop [3] (fun i => ∃ k : Nat, k ≤ kk ∧ i = .int .i64 k) (fun i => kk - (intOf i).toNat)
    case atStart => exact ⟨0, Nat.zero_le _, rfl⟩
    case round =>
      obtain ⟨k, hk, rfl⟩ := hrel
      have hfin : k = kk → ∃ r, Ending.returned (.slice (some ⟨g, 0, none⟩) k k) = .returned r ∧ ((Rw.keep fs = [] ∧ ∃ a, r = .slice a 0 0) ∨ (Rw.keep fs ≠ [] ∧ ∃ g', r = .slice (some ⟨g', 0, none⟩) kk kk ∧ (Value.slice (some ⟨g, 0, none⟩) z cap).ownBlock = some g' ∧ StrRow n₀ w r ((Rw.keep fs).map Fld.str))) := by
        intro e
        subst e
        refine ⟨_, rfl, ?_⟩
        by_cases hke : Rw.keep fs = []
        · left
          have : k = 0 := by rw [← unhide HK, hke]; rfl
          subst this
          exact ⟨hke, _, rfl⟩
        · right
          exact ⟨hke, g, rfl, rfl, unhide HT hke⟩
      have HFIN := hide hfin
      clear hfin
      by_cases hlt : k < z
      · obtain ⟨f, hf⟩ : ∃ f, fs[k]? = some f := ⟨_, List.getElem?_eq_getElem (by rw [unhide HL]; exact hlt)⟩
        have hck := unhide HC k f hf
        have hb := fun wq => begins_any (Fld.str f) wq
        rw [Rw.str_data] at hb
        cases hr : Rw.rem f with
        | false =>
          rw [hr] at hb
          have hk2 := unhide HLT k hk f hf hr
          have HBG := hide hb
          clear hb hr hf
          go_wp2_with (go_at_call 108; refine (unhide HBG _).mono ?_; rintro e w' ⟨rfl, hw⟩; obtain rfl := hw.symm)
          go_round
          case rel => exact ⟨k + 1, by omega, by go_num⟩
          case measure => simp [intOf]; omega
        | true =>
          rw [hr] at hb
          have hk2 := unhide HEND k hk f hf hr
          have HFE := hide (unhide HFIN hk2)
          have HBG := hide hb
          clear hb hr hf hk2
          go_wp2_with (go_at_call 108; refine (unhide HBG _).mono ?_; rintro e w' ⟨rfl, hw⟩; obtain rfl := hw.symm)
          go_ret
          exact ⟨unhide HFE, rfl⟩
      · have hnl : ¬ ((k : Int) < (z : Int)) := by omega
        have HFE := hide (unhide HFIN (by omega))
        go_wp2
        go_ret
        exact ⟨unhide HFE, rfl⟩

theorem ahead_none (fs : List (List UInt8)) (hk : Rw.keep fs = []) (n₀ : Nat) (v : Value) (w : World) (h : w.ownsRow n₀ 9 1 v fs.length (vals fs)) :
    Calls Tryz.prog 84 #[v] w fun e w' => ∃ a, e = .returned (.slice a 0 0) ∧ w' = w := by
  refine (ahead_any fs n₀ v w h).mono ?_
  rintro e w' ⟨⟨r, rfl, ⟨_, a, rfl⟩ | ⟨h2, _⟩⟩, hw⟩
  · exact ⟨a, rfl, hw⟩
  · exact absurd hk h2
theorem ahead_some (fs : List (List UInt8)) (hk : Rw.keep fs ≠ []) (n₀ : Nat) (v : Value) (w : World) (h : w.ownsRow n₀ 9 1 v fs.length (vals fs)) :
    Calls Tryz.prog 84 #[v] w fun e w' => ∃ g, e = .returned (.slice (some ⟨g, 0, none⟩) (Rw.keep fs).length (Rw.keep fs).length) ∧ StrRow n₀ w (.slice (some ⟨g, 0, none⟩) (Rw.keep fs).length (Rw.keep fs).length) ((Rw.keep fs).map Fld.str) ∧ w' = w := by
  refine (ahead_any fs n₀ v w h).mono ?_
  rintro e w' ⟨⟨r, rfl, ⟨h2, _⟩ | ⟨_, g, rfl, _, hs⟩⟩, hw⟩
  · exact absurd h2 hk
  · exact ⟨g, rfl, hs, hw⟩
theorem keepsOthers_below {W W' : World} (h : Below W.heap.size W W') : KeepsOthers W W' := ⟨h.size, fun k _ hk _ => (h.block k (Array.getElem?_eq_some_iff.1 hk).1).trans hk⟩
theorem infoRow : (Tryz.prog.info? 131).map (fun i => (i.zero, i.size, i.bytes)) = some (some (.agg #[.int .i64 0, .slice none 0 0]), 2, 32) := by kernel_rfl
theorem Boxed_below {W W' : World} {B : Nat} {t : TypeId} {v : Value} (h : Boxed W B t v) (hB : Below W.heap.size W W') : Boxed W' B t v := (hB.block B h.lt).trans h

/-- the box of the rows, as it stands between two rounds -/
def Held (n₀ : Nat) (pre : List EachW.Item) (W : World) : Prop := ∃ v, Boxed W n₀ 92 v ∧ RowsAre n₀ 131 W v (Rw.rowsP (raw pre))
theorem held_own (n₀ : Nat) : Own (Held n₀) := by
  rintro s X Y row ⟨v, hv, E, h1, h2, h3⟩ hg hrow
  refine ⟨v, hv.kept hg (fun e' => ?_), E, h1.kept (Keep9.grown hg ?_), h2.kept hg ?_, h3⟩
  · obtain ⟨o, ho, hc⟩ := hrow n₀ e'.symm
    rw [show X.heap[n₀]? = _ from hv] at ho; cases ho; cases hc
  · intro r hr cur hx
    obtain ⟨o, ho, hc⟩ := hrow r hr
    rw [hx] at ho; cases ho; cases hc
  · obtain ⟨_, ⟨rfl, _⟩ | ⟨g, cap, cur, rfl, _, hgb, _⟩⟩ := h2
    · exact .inl rfl
    · refine .inr fun e' => ?_
      obtain ⟨o, ho, hc⟩ := hrow g (by simpa [Value.ownBlock] using e'.symm)
      rw [hgb] at ho; cases ho; cases hc

/-- a row more -/
theorem rows_push {n₀ : Nat} {W W1 w1 : World} {v v' r : Value} {R : List (Nat × List (List UInt8))} {E : List (Nat × Value)} {k : Nat} {ks : List (List UInt8)} {o : Obj} {g : Nat}
    (hv : Boxed W1 n₀ 92 v) (hW : Below W.heap.size W W1) (hF : Fits n₀ W E R) (hO : W1.ownsRow n₀ 131 2 v E.length (cellsE E)) (hN : (E.map fun e => e.2.ownBlock).Nodup ∧ Exact 131 E) (hre : ∃ g n, r = .slice (some ⟨g, 0, none⟩) n n)
    (hr : StrRow W.heap.size W1 r (ks.map Fld.str)) (hrb : r.ownBlock = some g) (hn : n₀ ≤ W.heap.size)
    (hown' : w1.ownsRow n₀ 131 2 v' (E.length + 1) (cellsE E ++ [.int .i64 (k : Int), r])) (hgrow : (W1.alloc o).grownBy w1 v.ownBlock) :
    Boxed w1 n₀ 92 v ∧ KeepsOthers W (w1.setCell ⟨n₀, 0, none⟩ v') ∧ Below n₀ W (w1.setCell ⟨n₀, 0, none⟩ v') ∧ ∃ v2, Boxed (w1.setCell ⟨n₀, 0, none⟩ v') n₀ 92 v2 ∧ RowsAre n₀ 131 (w1.setCell ⟨n₀, 0, none⟩ v') v2 (R ++ [(k, ks)]) := by
  obtain ⟨hv1, hv2, hr2, hk2, hb2⟩ := hv.appended (by decide) hO (Nat.le_trans hn hW.size) (Nat.le_refl _) hown' hgrow
  have k9 : Keep9 W1 (w1.setCell ⟨n₀, 0, none⟩ v') := ((Keep9.alloc W1 o).trans (Keep9.grown_own (hO.alloc o) (by decide) hgrow)).trans (Keep9.box hv1 (by decide) v')
  refine ⟨hv1, (keepsOthers_below hW).trans hk2, (hW.mono hn).trans hb2, v', hv2, E ++ [(k, r)], ?_, ?_, ?_⟩
  · exact Fits.snoc rfl ((hr.mono hn).kept k9) (hF.kept ((Keep9.below hW).trans k9))
  · rw [cellsE_snoc, List.length_append]
    exact hr2
  · refine ⟨?_, hN.2.snoc fun _ => hre⟩
    rw [List.map_append]
    refine nodup_snoc hN.1 ?_
    intro hm
    obtain ⟨g2, e2, _, h2⟩ := hF.blocks _ hm
    obtain ⟨g3, cap3, cur3, e3, h3, _⟩ := hr
    rw [e3] at hrb e2
    simp [Value.ownBlock] at hrb e2
    omega

set_option maxHeartbeats 400000 in
theorem rows_long (s : ByteArray) (w : World) (hs : 65536 < (s.size : Int)) :
    Calls Tryz.prog 57 #[.string s] w fun e w' => e = .returned (.tuple #[.slice none 0 0, .int .i64 10]) ∧ w' = w := by
  go_enter Tryz.func57, Tryz.ntmps57
  go_wp2
  go_ret2
  exact ⟨rfl, rfl⟩

set_option maxRecDepth 100000 in
set_option maxHeartbeats 4000000 in
theorem rows_short (s : ByteArray) (w : World) (hs : s.size ≤ 65536) (hM : MaxIs w) :
    Calls Tryz.prog 57 #[.string s] w fun e w' => ∃ v, e = .returned (.tuple #[v, .int .i64 0]) ∧ RowsAre w.heap.size 131 w' v (Rw.rowsOf s.data.toList) ∧ Below w.heap.size w w' := by
  have hs2 : ¬ (65536 : Int) < (s.size : Int) := by omega
  obtain ⟨i0, hi, hz0, hz1, hz2⟩ := info_parts infoRow
  refine (callsIn_wide (n := 3)).1 ?_
  refine callsIn_of_wp_marks Tryz.func57 rfl trivial ?_ rfl
  simp only [Tryz.ntmps57, List.size_toArray, List.length_cons, List.length_nil, Nat.reduceAdd, Nat.reduceSub, Array.replicate_succ, Array.replicate_zero, List.push_toArray, List.append_toArray, List.nil_append, List.cons_append]
  gi_wp2_with (refine ⟨trivial, ?_⟩; gi_at_call 83; refine (each_in _ s _).mono ?_; rintro e w' ⟨rfl, rfl⟩)
  have bO := Boxed.new w 92 (.slice none 0 0)
  have bN := Boxed.new (w.alloc (.cells #[.slice none 0 0] 92)) 9 (.string s)
  rw [World.size_alloc] at bN
  have hB0 : Below w.heap.size w ((w.alloc (.cells #[.slice none 0 0] 92)).alloc (.cells #[.string s] 9)) := ((Below.refl _ w).alloc (Nat.le_refl _) _).alloc (by simp) _
  have hg0 : 0 < w.heap.size := by
    obtain ⟨m, hm⟩ := hM
    exact World.block_lt_of_cell? w ⟨0, 0, none⟩ hm
  have hN : (gives s).length ≤ 65536 := by
    rw [show gives s = Ln.items s.data.toList from if_pos hs, Ln.items_length]
    have := Ln.linesOf_len s.data.toList
    simp at this
    omega
  refine wpIn_rangeFunc_ownG rfl (by omega) (gf := 104) (lb := #[.pointer (some ⟨w.heap.size + 1, 0, none⟩)]) rfl trivial (enters_of Tryz.func104 (by kernel_rfl) rfl)
    (each_stops _ (by omega) (w.heap.size + 1) w.heap.size s _ (by simp) hg0 (by simp; omega) bN.cell (hM.below hg0 hB0)) belowK_t (belowK_b (by simp; omega)) (Below.refl _ _) (fun _ => rfl)
    (fun pre W => Held w.heap.size pre W ∧ Below w.heap.size w W)
    (fun _ _ _ => False)
    (OwnFrom.and (Own.from (held_own w.heap.size) _) (ownFrom_below (Nat.le_refl _) (by simp; omega)))
    (fun _ _ _ _ _ hs _ _ => hs)
    ⟨⟨_, bO.alloc _, [], trivial, World.ownsRow_nil _ _ _ _, by simp, Exact.nil _⟩, hB0⟩
    (fun x => { tmps := #[.string s, undef, .slice none 0 0, .int .i64 0, .pointer (some ⟨w.heap.size, 0, none⟩), .int .i64 (x.1.1 : Int), .string x.1.2, undef, .string s, .int .i64 s.size, .bool false, .string s, .func (.func 104) #[] #[.pointer (some ⟨w.heap.size + 1, 0, none⟩)], .int .i64 (x.1.1 : Int), .string x.1.2, undef, undef, undef, undef, undef, undef, undef, undef, undef, undef, undef, undef, undef], defers := [] }) ?assign ?body ?done ?stop
  case assign =>
    intro l x W K hK
    gi_wp2
    exact hK
  case body =>
    rintro l pre x W ⟨⟨v, hv, E, hF, hO, hND⟩, hB⟩ hlt
    have hx := x.2
    have hfl := fun wq => fields_any x.1.2 wq (by omega)
    have HFL := hide hfl
    have hEl : E.length ≤ 65536 := by
      rw [hF.length]
      have := Rw.rowsP_len (raw pre)
      rw [raw_length] at this
      omega
    clear hfl
    have hsn : Rw.rowsP (raw (pre ++ [x])) = Rw.rowsP (raw pre) ++ Rw.rowOf x.1.1 x.1.2.data.toList := by rw [raw_snoc, Rw.rowsP_snoc]
    by_cases hkne : Rw.keep (Fld.fieldsOf x.1.2.data.toList) = []
    · have HSN : Hid (Rw.rowsP (raw (pre ++ [x])) = Rw.rowsP (raw pre)) := by
        show Rw.rowsP (raw (pre ++ [x])) = Rw.rowsP (raw pre)
        rw [hsn]
        unfold Rw.rowOf
        rw [hkne]
        simp
      have HAH := hide (fun n₁ v w => ahead_none _ hkne n₁ v w)
      clear hsn hkne
      gi_wp2_with (first | (refine ⟨trivial, ?_⟩; gi_at_call 85; refine (CallsIn.inRound l (callsIn_wide.2 (unhide HFL _))).mono ?_; rintro e W1 ⟨vf, rfl, hOf, hBf⟩) | (refine ⟨trivial, ?_⟩; gi_at_call 84; refine (CallsIn.inRound l (callsIn_wide.2 (unhide HAH _ _ _ hOf))).mono ?_; rintro e W2 ⟨a, rfl, hw⟩; obtain rfl := hw.symm))
      exact ⟨(keepsOthers_below hBf).from _, hBf.mono hB.size, ⟨v, Boxed_below hv hBf, E, by rw [unhide HSN]; exact hF.kept (Keep9.below hBf), Same.owns_below hO hBf, hND⟩, hB.trans (hBf.mono hB.size)⟩
    · have HSN : Hid (Rw.rowsP (raw (pre ++ [x])) = Rw.rowsP (raw pre) ++ [(x.1.1, Rw.keep (Fld.fieldsOf x.1.2.data.toList))]) := by
        show Rw.rowsP (raw (pre ++ [x])) = Rw.rowsP (raw pre) ++ [(x.1.1, Rw.keep (Fld.fieldsOf x.1.2.data.toList))]
        rw [hsn]
        unfold Rw.rowOf
        rw [if_neg (by simpa using hkne)]
      have hkp : 0 < (Rw.keep (Fld.fieldsOf x.1.2.data.toList)).length := List.length_pos_iff.2 hkne
      have hkl : (Rw.keep (Fld.fieldsOf x.1.2.data.toList)).length ≤ 65536 := by
        have h1 := Rw.keep_le (Fld.fieldsOf x.1.2.data.toList)
        have h2 := Fld.fieldsOf_len x.1.2.data.toList
        have h3 := hx.2
        simp at h2
        omega
      have HAH := hide (fun n₁ v w => ahead_some _ hkne n₁ v w)
      clear hsn hkne
      generalize Rw.keep (Fld.fieldsOf x.1.2.data.toList) = ks at *
      generalize hkz : ks.length = kz at *
      clear hkz
      gi_wp2_with (first | (refine ⟨trivial, ?_⟩; gi_at_call 85; refine (CallsIn.inRound l (callsIn_wide.2 (unhide HFL _))).mono ?_; rintro e W1 ⟨vf, rfl, hOf, hBf⟩; have hv1 := Boxed_below hv hBf; have hO1 := Same.owns_below hO hBf; have hc := hv1.cell) | (refine ⟨trivial, ?_⟩; gi_at_call 84; refine (CallsIn.inRound l (callsIn_wide.2 (unhide HAH _ _ _ hOf))).mono ?_; rintro e W2 ⟨g, rfl, hSR, hw⟩; obtain rfl := hw.symm) | (gi_at_builtin; refine wpListIn_append_own _ rfl _ _ 92 rfl w.heap.size 131 i0 (.agg #[.int .i64 0, .slice none 0 0]) 2 32 Tryz.underlying92 hi hz0 hz1 hz2 rfl (by decide) _ _ _ rfl (hO1.alloc _) ⟨W1.heap.size, 0, none⟩ 1 1 [.int .i64 (x.1.1 : Int), .slice (some ⟨g, 0, none⟩) kz kz] rfl rfl (cell_two_new _ _ _ _) (by simp [Value.oneCell']) (by unfold maxLen; omega) (by omega) (by have := hB.size; have := hBf.size; simp; omega) ?_; intro v' w1 hown' hgrow _; obtain ⟨g', cap', rfl⟩ := ownsRow_succ hown'; obtain ⟨hb1, hko, hbl, hres⟩ := rows_push hv1 hBf hF hO1 hND ⟨_, _, rfl⟩ hSR rfl hB.size hown' hgrow; have hc1 := hb1.cell; have hf1 := hb1.frozen))
      exact ⟨hko.from _, hbl, by unfold Held; rw [unhide HSN]; exact hres, hB.trans hbl⟩
  case done =>
    rintro D ys W hD hys ⟨⟨v, hv, E, hF, hO, hND⟩, hB⟩ hK
    have hc := hv.cell
    gi_wp2
    refine ⟨by simp, .inl ⟨_, _, rfl, run_takeDeferred hK, ?_⟩⟩
    refine ⟨_, results_tmp2 rfl _ _ _, v, rfl, ⟨E, ?_, ownsRow_putObj hO (.deferred none) hK rfl, hND⟩, hB.trans (belowK_b (w := w) (Nat.le_refl _) W D _ _ (by simp at hD; omega) hK rfl rfl)⟩
    have e : gives s = Ln.items s.data.toList := if_pos hs
    rw [hys, e] at hF
    exact hF.kept (Keep9.grown (grownBy_putObj' W D (.deferred none)) (fun r hr cur hx => by
      obtain rfl : D = r := by simpa using hr
      rw [hK] at hx
      cases hx))
  case stop =>
    rintro D c pre W _ _ h _
    exact h.elim
end RowW
end Go.Proofs.YtlajdmjpobckhaaGreatDoor
