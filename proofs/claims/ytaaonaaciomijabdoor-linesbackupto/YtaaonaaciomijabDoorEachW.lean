/- Contract: lines.Each hands back an iterator that gives the numbered lines of the text (none where the text is too long), in their order, all of them or as many as are asked for. -/
import Derived.RangeFuncBox
import Derived.RangeFuncNested
import Derived.RangeFuncBound
import Derived.RangeFuncCalls
import Derived.RangeFuncLeaves
import Derived.Shelf.Abstract
import Derived.Shelf.RegionOpen
import Derived.WalkKit
import Derived.OwnWalkIn
import Derived.TacticsInMore
import Derived.LoopNIn
import Derived.LoopIn
import Derived.Maps.AppendAt
import Derived.Test.YtaaonaaciomijabDoorChecked
import Derived.Test.YtaaonaaciomijabDoorLnM
import Derived.Test.YtaaonaaciomijabDoorShS
import Derived.Test.YtaaonaaciomijabDoorFldW
namespace Go.Proofs.YtaaonaaciomijabDoor
open Go.RowKit Go.Shelf
namespace EachW
open FldW
attribute [local go_sem] Oper.semAt_some

abbrev Item := { x : Nat × ByteArray // x.1 ≤ 65537 ∧ x.2.size ≤ 65536 }
def raw (p : List Item) : List (Nat × ByteArray) := p.map fun x => x.1
theorem raw_snoc (p : List Item) (x : Item) : raw (p ++ [x]) = raw p ++ [x.1] := by simp [raw]
theorem raw_length (p : List Item) : (raw p).length = p.length := by simp [raw]
theorem size_str (l : List UInt8) : (Fld.str l).size = l.length := by show l.toArray.size = l.length; simp
def strLen : Value → Nat
  | .string s => s.size
  | _ => 0
def MaxIs (w : World) : Prop := ∃ m : Int, w.cell? ⟨0, 0, none⟩ = some (.int .i64 m)
theorem MaxIs.below {w w' : World} {n : Nat} (h : MaxIs w) (hn : 0 < n) (hB : Below n w w') : MaxIs w' := by
  obtain ⟨m, hm⟩ := h
  exact ⟨m, (hB.cell (p := ⟨0, 0, none⟩) hn).trans hm⟩

theorem maxIs_of {W : World} (h : W.ShapedOpen Tryd.prog) : MaxIs W := Tryd.laysM145.s1_3 W h

theorem cut_call (R : List UInt8) (w : World) (hR : R.length ≤ 65536) (hm : MaxIs w) :
    Calls Tryd.prog 60 #[.string ⟨R.toArray⟩, .string ⟨#[10]⟩] w fun e w' => ∃ b, e = .returned (.tuple #[.string ⟨(Ln.bef R).toArray⟩, .string ⟨(Ln.aft R).toArray⟩, .bool b]) ∧ ∃ n, w' = w.drewN n := by
  obtain ⟨m, hm⟩ := hm
  have h := Tryd.strings_Cut ⟨R.toArray⟩ ⟨#[10]⟩ m w (by show R.toArray.size < _; simp; omega) hm
  refine h.mono ?_
  rintro e w' ⟨rfl, hn⟩
  have e1 : (ByteArray.mk R.toArray).data.toList = R := by simp
  have e2 : (ByteArray.mk #[10]).data.toList = [10] := rfl
  rw [e1, e2, (Ln.cut_eq R).1, (Ln.cut_eq R).2]
  exact ⟨_, rfl, hn⟩
theorem trim_call (l : List UInt8) (w : World) (hl : l.length ≤ 65536) :
    Calls Tryd.prog 61 #[.string ⟨l.toArray⟩, .string ⟨#[13]⟩] w fun e w' => e = .returned (.string (Fld.str (Ln.ended l))) ∧ w' = w := by
  have h := Tryd.strings_TrimSuffix ⟨l.toArray⟩ ⟨#[13]⟩ w (by show l.toArray.size ≤ _; simp; omega)
  have e1 : (ByteArray.mk l.toArray).data.toList = l := by simp
  have e2 : (ByteArray.mk #[13]).data.toList = [13] := rfl
  rw [e1, e2, Ln.ended_eq] at h
  exact h
theorem unmark_call (s : ByteArray) (w : World) :
    Calls Tryd.prog 59 #[.string s, .string ⟨#[239, 187, 191]⟩] w fun e w' => e = .returned (.string ⟨(Ln.unmark s.data.toList).toArray⟩) ∧ w' = w :=
  Tryd.strings_TrimPrefix s ⟨#[239, 187, 191]⟩ w

theorem abides_drewN {α : Type} {B : Nat} {J : α → World → Prop} (h : AbidesFrom B J) {s : α} {W : World} (hs : J s W) (n : Nat) : J s (W.drewN n) :=
  h s W (W.drewN n) none hs ⟨rfl, rfl, rfl, Nat.le_refl _, fun _ _ _ => rfl⟩ (fun r e => by cases e)

set_option maxRecDepth 100000 in
set_option maxHeartbeats 2000000 in
theorem each1_in (n : Nat) (hn : 1 ≤ n) (l Bn n₀ : Nat) (s : ByteArray) (hs : s.size ≤ 65536) (J Jx : List Item → World → Prop) (hn₀ : 0 < n₀) (B : Nat) (hJd : AbidesFrom B J)
    (hY : ∀ pre x W, J pre W → pre.length < (Ln.items s.data.toList).length → YieldAt Fence.wide (n - 1) Tryd.prog l #[.int .i64 (x.1.1 : Int), .string x.1.2] W fun e W' =>
      (e = .returned (.bool true) ∧ J (pre ++ [x]) W' ∧ Below n₀ W W') ∨ (e = .returned (.bool false) ∧ Jx (pre ++ [x]) W'))
    (W : World) (hBn : W.cell? ⟨Bn, 0, none⟩ = some (.string s)) (hM : MaxIs W) (h0 : J [] W) :
    CallsIn Fence.wide n Tryd.prog 58 #[.func (.yield l) #[] #[], .pointer (some ⟨Bn, 0, none⟩)] W fun e W' => (∃ v, e = .returned v) ∧
      ((∃ ys, raw ys = Ln.items s.data.toList ∧ J ys W') ∨ (∃ pre, raw pre <+: Ln.items s.data.toList ∧ Jx pre W')) := by
  have hs2 : ¬ (65536 : Int) < (s.size : Int) := by omega
  refine callsIn_of_wp Tryd.func58 rfl trivial ?_ rfl
  simp only [Tryd.ntmps58, List.size_toArray, List.length_cons, List.length_nil, Nat.reduceAdd, Nat.reduceSub, Array.replicate_succ, Array.replicate_zero, List.push_toArray, List.append_toArray, List.nil_append, List.cons_append]
  gi_wp2_with (refine ⟨trivial, ?_⟩; gi_at_call 59; refine (callsIn_wide.2 (unmark_call s _)).mono ?_; rintro e w' ⟨rfl, rfl⟩)
  gi_loopw [3, 4] (fun r q wr => ∃ (pre : List Item) (R : List UInt8), r = .string ⟨R.toArray⟩ ∧ q = .int .i64 ((pre.length : Int) + 1) ∧ pre.length + R.length ≤ 65536 ∧ J pre wr ∧ MaxIs wr ∧ Hid (Ln.items s.data.toList = raw pre ++ Ln.num (pre.length + 1) (Ln.ln R)))
    (fun r _ _ => strLen r)
  case atStart => exact ⟨[], Ln.unmark s.data.toList, rfl, rfl, by have := Ln.unmark_le s.data.toList; simp at this ⊢; omega, h0, hM, rfl⟩
  case round =>
    obtain ⟨pre, R, rfl, rfl, hlen, hJs, hMr, HI⟩ := hrel
    by_cases hR0 : R = []
    · subst hR0
      gi_wp2
      go_end0
      exact ⟨⟨_, rfl⟩, .inl ⟨pre, by rw [HI.out]; simp [Ln.ln_nil, Ln.num], hJs⟩⟩
    · have hE : R.isEmpty = false := by
        cases R with
        | nil => exact absurd rfl hR0
        | cons _ _ => rfl
      have hbl := Ln.bef_le R
      have hal := Ln.aft_lt R hR0
      have HI2 : Hid (Ln.items s.data.toList = raw pre ++ (pre.length + 1, Fld.str (Ln.ended (Ln.bef R))) :: Ln.num (pre.length + 1 + 1) (Ln.ln (Ln.aft R))) := by
        have := HI.out
        rw [Ln.ln_cons R hR0] at this
        exact this
      have hpl : pre.length < (Ln.items s.data.toList).length := by rw [HI2.out]; simp [raw_length]
      have hbx : (pre.length + 1, Fld.str (Ln.ended (Ln.bef R))).1 ≤ 65537 ∧ (pre.length + 1, Fld.str (Ln.ended (Ln.bef R))).2.size ≤ 65536 := by
        have h1 := Ln.ended_len (Ln.bef R)
        refine ⟨by show pre.length + 1 ≤ 65537; omega, ?_⟩
        show (Fld.str (Ln.ended (Ln.bef R))).size ≤ 65536
        rw [size_str]
        omega
      have hyc : ∀ Wq, J pre Wq → YieldAt Fence.wide (n - 1) Tryd.prog l #[.int .i64 ((pre.length : Int) + 1), .string (Fld.str (Ln.ended (Ln.bef R)))] Wq fun e W' =>
          (e = .returned (.bool true) ∧ J (pre ++ [⟨(pre.length + 1, Fld.str (Ln.ended (Ln.bef R))), hbx⟩]) W' ∧ Below n₀ Wq W') ∨ (e = .returned (.bool false) ∧ Jx (pre ++ [⟨(pre.length + 1, Fld.str (Ln.ended (Ln.bef R))), hbx⟩]) W') :=
        fun Wq hq => hY pre ⟨(pre.length + 1, Fld.str (Ln.ended (Ln.bef R))), hbx⟩ Wq hq hpl
      have HYC := hide hyc
      clear hR0 HI hpl hyc
      gi_wp2_with (first | (refine ⟨trivial, ?_⟩; gi_at_call 60; refine (callsIn_wide.2 (cut_call R _ (by omega) hMr)).mono ?_; rintro e w' ⟨bq, rfl, nq, rfl⟩; obtain ⟨fn, tmps, assign, body, hy, hR⟩ := unhide HYC (wr.drewN nq) (abides_drewN hJd hJs nq)) | (refine ⟨trivial, ?_⟩; gi_at_call 61; refine (callsIn_wide.2 (trim_call (Ln.bef R) _ (by omega))).mono ?_; rintro e w' ⟨rfl, rfl⟩))
      refine hR.mono ?_
      rintro e W3 (⟨rfl, hJ3, hk3⟩ | ⟨rfl, hJx3⟩)
      · have hM3 : MaxIs W3 := MaxIs.below (w := wr.drewN nq) hMr hn₀ hk3
        gi_wp2
        go_roundw
        case rel => exact ⟨pre ++ [⟨(pre.length + 1, Fld.str (Ln.ended (Ln.bef R))), hbx⟩], Ln.aft R, rfl, by rw [List.length_append, List.length_singleton]; go_num, by rw [List.length_append, List.length_singleton]; omega, hJ3, hM3, by
            have e := HI2.out
            show Ln.items s.data.toList = _
            rw [e, raw_snoc]
            simp⟩
        case measure => simp [strLen]; exact hal
      · gi_wp2
        refine bodyPost_ret (results_none rfl _ _ _) rfl ?_
        exact ⟨⟨_, rfl⟩, .inr ⟨_, ⟨Ln.num (pre.length + 1 + 1) (Ln.ln (Ln.aft R)), by rw [HI2.out, raw_snoc]; simp⟩, hJx3⟩⟩
/-- what Each gives of a text of whatever length -/
def gives (s : ByteArray) : List (Nat × ByteArray) := if s.size ≤ 65536 then Ln.items s.data.toList else []

set_option maxRecDepth 100000 in
set_option maxHeartbeats 1000000 in
theorem each1_long (n : Nat) (l Bn : Nat) (s : ByteArray) (hs : 65536 < (s.size : Int)) (W : World) (hBn : W.cell? ⟨Bn, 0, none⟩ = some (.string s)) :
    CallsIn Fence.wide n Tryd.prog 58 #[.func (.yield l) #[] #[], .pointer (some ⟨Bn, 0, none⟩)] W fun e W' => (∃ v, e = .returned v) ∧ W' = W := by
  refine callsIn_of_wp Tryd.func58 rfl trivial ?_ rfl
  simp only [Tryd.ntmps58, List.size_toArray, List.length_cons, List.length_nil, Nat.reduceAdd, Nat.reduceSub, Array.replicate_succ, Array.replicate_zero, List.push_toArray, List.append_toArray, List.nil_append, List.cons_append]
  gi_wp2
  refine bodyPost_ret (results_none rfl _ _ _) rfl ?_
  exact ⟨⟨_, rfl⟩, rfl⟩

/-- The iterator that Each hands back. -/
theorem each_stops (n : Nat) (hn : 1 ≤ n) (Bn n₀ : Nat) (s : ByteArray) (w : World) (hBn : Bn < w.heap.size) (hn₀ : 0 < n₀) (hle : n₀ ≤ w.heap.size) (hc : w.cell? ⟨Bn, 0, none⟩ = some (.string s)) (hM : MaxIs w) :
    SeqStopsK Fence.wide n Tryd.prog 58 #[.pointer (some ⟨Bn, 0, none⟩)] (fun x : Item => #[Value.int .i64 (x.1.1 : Int), Value.string x.1.2]) (Below n₀) (fun ys => raw ys = gives s) (fun pre => raw pre <+: gives s) (gives s).length w := by
  intro l J Jx W hW hJ hJx hY h0
  have hcW : W.cell? ⟨Bn, 0, none⟩ = some (.string s) := (hW.cell (p := ⟨Bn, 0, none⟩) hBn).trans hc
  by_cases hs : s.size ≤ 65536
  · have e : gives s = Ln.items s.data.toList := if_pos hs
    rw [e] at hY ⊢
    exact each1_in n hn l Bn n₀ s hs J Jx hn₀ W.heap.size hJ hY W hcW (hM.below (Nat.lt_of_lt_of_le hn₀ hle) hW) h0
  · have e : gives s = [] := if_neg hs
    rw [e]
    exact (each1_long n l Bn s (by omega) W hcW).mono fun e W' ⟨hv, hw⟩ => by
      subst hw
      exact ⟨hv, .inl ⟨[], rfl, h0⟩⟩

set_option maxHeartbeats 1000000 in
theorem each_in (n : Nat) (s : ByteArray) (w : World) :
    CallsIn Fence.wide n Tryd.prog 43 #[.string s] w fun e w' => e = .returned (.func (.func 58) #[] #[.pointer (some ⟨w.heap.size, 0, none⟩)]) ∧ w' = w.alloc (.cells #[.string s] 9) := by
  refine callsIn_of_wp Tryd.func43 rfl trivial ?_ rfl
  simp only [Tryd.ntmps43, List.size_toArray, List.length_cons, List.length_nil, Nat.reduceAdd, Nat.reduceSub, Array.replicate_succ, Array.replicate_zero, List.push_toArray, List.append_toArray, List.nil_append, List.cons_append]
  gi_wp2
  go_ret
  exact ⟨rfl, rfl⟩
end EachW
end Go.Proofs.YtaaonaaciomijabDoor
