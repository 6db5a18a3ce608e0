import Derived.RangeFuncNested
import Derived.RangeFuncBound
import Derived.Shelf.RegionOpen
import Derived.OwnWalkIn
import Derived.LoopNIn
import Derived.LoopIn
import Derived.Test.YtidhbhdcoanfcaaGreatDoorGq21
import Derived.Lib.OwnKind
set_option maxHeartbeats 8000000
set_option maxRecDepth 100000

namespace Go.Proofs.YtidhbhdcoanfcaaGreatDoor
open Go.RowKit Go.Shelf
namespace EachW
open FldW
attribute [local go_sem] Oper.semAt_some

abbrev Item := { x : Nat × ByteArray // x.1 ≤ 65537 ∧ x.2.size ≤ 65536 }
def raw (p : List Item) : List (Nat × ByteArray) := p.map fun x => x.1
theorem raw_snoc (p : List Item) (x : Item) : raw (p ++ [x]) = raw p ++ [x.1] := by simp [raw]
theorem raw_length (p : List Item) : (raw p).length = p.length := by simp [raw]
theorem size_str (l : List UInt8) : (Fld.str l).size = l.length := by show l.toArray.size = l.length; simp
def strLen : Value → Nat
 | .string s => s.size
 | _ => 0
def MaxIs (w : World) : Prop := ∃ m : Int, w.cell? ⟨0, 0, none⟩ = some (.int .i64 m)
theorem MaxIs.below {w w' : World} {n : Nat} (h : MaxIs w) (hn : 0 < n) (hB : Below n w w') : MaxIs w' := by
 obtain ⟨m, hm⟩ := h
 exact ⟨m, (hB.cell (p := ⟨0, 0, none⟩) hn).trans hm⟩

theorem cut_call (R : List UInt8) (w : World) (hR : R.length ≤ 65536) (hm : MaxIs w) :
  Calls Tryz.prog 110 #[.string ⟨R.toArray⟩, .string ⟨#[10]⟩] w fun e w' => ∃ b, e = .returned (.tuple #[.string ⟨(Ln.bef R).toArray⟩, .string ⟨(Ln.aft R).toArray⟩, .bool b]) ∧ ∃ n, w' = w.drewN n := by
 obtain ⟨m, hm⟩ := hm
 have h := Tryz.strings_Cut ⟨R.toArray⟩ ⟨#[10]⟩ m w (by show R.toArray.size < _; simp; omega) hm
 refine h.mono ?_
 rintro e w' ⟨rfl, hn⟩
 have e1 : (ByteArray.mk R.toArray).data.toList = R := by simp
 have e2 : (ByteArray.mk #[10]).data.toList = [10] := rfl
 rw [e1, e2, (Ln.cut_eq R).1, (Ln.cut_eq R).2]
 exact ⟨_, rfl, hn⟩
theorem trim_call (l : List UInt8) (w : World) (hl : l.length ≤ 65536) :
  Calls Tryz.prog 111 #[.string ⟨l.toArray⟩, .string ⟨#[13]⟩] w fun e w' => e = .returned (.string (Fld.str (Ln.ended l))) ∧ w' = w := by
 have h := Tryz.strings_TrimSuffix ⟨l.toArray⟩ ⟨#[13]⟩ w (by show l.toArray.size ≤ _; simp; omega)
 have e1 : (ByteArray.mk l.toArray).data.toList = l := by simp
 have e2 : (ByteArray.mk #[13]).data.toList = [13] := rfl
 rw [e1, e2, Ln.ended_eq] at h
 exact h
theorem unmark_call (s : ByteArray) (w : World) :
  Calls Tryz.prog 109 #[.string s, .string ⟨#[239, 187, 191]⟩] w fun e w' => e = .returned (.string ⟨(Ln.unmark s.data.toList).toArray⟩) ∧ w' = w :=
 Tryz.strings_TrimPrefix s ⟨#[239, 187, 191]⟩ w

theorem abides_drewN {α : Type} {B : Nat} {J : α → World → Prop} (h : AbidesFrom B J) {s : α} {W : World} (hs : J s W) (n : Nat) : J s (W.drewN n) :=
 h s W (W.drewN n) none hs ⟨rfl, rfl, rfl, Nat.le_refl _, fun _ _ _ => rfl⟩ (fun r e => by cases e)

theorem each1_in (n : Nat) (hn : 1 ≤ n) (l Bn n₀ : Nat) (s : ByteArray) (hs : s.size ≤ 65536) (J Jx : List Item → World → Prop) (hn₀ : 0 < n₀) (B : Nat) (hJd : AbidesFrom B J)
  (hY : ∀ pre x W, J pre W → pre.length < (Ln.items s.data.toList).length → YieldAt Fence.wide (n - 1) Tryz.prog l #[.int .i64 (x.1.1 : Int), .string x.1.2] W fun e W' =>
   (e = .returned (.bool true) ∧ J (pre ++ [x]) W' ∧ Below n₀ W W') ∨ (e = .returned (.bool false) ∧ Jx (pre ++ [x]) W'))
  (W : World) (hBn : W.cell? ⟨Bn, 0, none⟩ = some (.string s)) (hM : MaxIs W) (h0 : J [] W) :
  CallsIn Fence.wide n Tryz.prog 108 #[.func (.yield l) #[] #[], .pointer (some ⟨Bn, 0, none⟩)] W fun e W' => (∃ v, e = .returned v) ∧
   ((∃ ys, raw ys = Ln.items s.data.toList ∧ J ys W') ∨ (∃ pre, raw pre <+: Ln.items s.data.toList ∧ Jx pre W')) := by
 have hs2 : ¬ (65536 : Int) < (s.size : Int) := by omega
 refine callsIn_of_wp Tryz.func108 rfl trivial ?_ rfl
 simp only [Tryz.ntmps108, List.size_toArray, List.length_cons, List.length_nil, Nat.reduceAdd, Nat.reduceSub, Array.replicate_succ, Array.replicate_zero, List.push_toArray, List.append_toArray, List.nil_append, List.cons_append]
 gi_wp2_with (refine ⟨trivial, ?_⟩; gi_at_call 109; refine (callsIn_wide.2 (unmark_call s _)).mono ?_; rintro e w' ⟨rfl, rfl⟩)
 gi_loopw [3, 4] (fun r q wr => ∃ (pre : List Item) (R : List UInt8), r = .string ⟨R.toArray⟩ ∧ q = .int .i64 ((pre.length : Int) + 1) ∧ pre.length + R.length ≤ 65536 ∧ J pre wr ∧ MaxIs wr ∧ Hid (Ln.items s.data.toList = raw pre ++ Ln.num (pre.length + 1) (Ln.ln R)))
  (fun r _ _ => strLen r)
 case atStart => exact ⟨[], Ln.unmark s.data.toList, rfl, rfl, by have := Ln.unmark_le s.data.toList; simp at this ⊢; omega, h0, hM, rfl⟩
 case round =>
  obtain ⟨pre, R, rfl, rfl, hlen, hJs, hMr, HI⟩ := hrel
  by_cases hR0 : R = []
  ·subst hR0
   gi_wp2
   go_end0
   exact ⟨⟨_, rfl⟩, .inl ⟨pre, by rw [HI.out]; simp [Ln.ln_nil, Ln.num], hJs⟩⟩
  ·have hE : R.isEmpty = false := by
    cases R with
    | nil => exact absurd rfl hR0
    | cons _ _ => rfl
   have hbl := Ln.bef_le R
   have hal := Ln.aft_lt R hR0
   have HI2 : Hid (Ln.items s.data.toList = raw pre ++ (pre.length + 1, Fld.str (Ln.ended (Ln.bef R))) :: Ln.num (pre.length + 1 + 1) (Ln.ln (Ln.aft R))) := by
    have := HI.out
    rw [Ln.ln_cons R hR0] at this
    exact this
   have hpl : pre.length < (Ln.items s.data.toList).length := by rw [HI2.out]; simp [raw_length]
   have hbx : (pre.length + 1, Fld.str (Ln.ended (Ln.bef R))).1 ≤ 65537 ∧ (pre.length + 1, Fld.str (Ln.ended (Ln.bef R))).2.size ≤ 65536 := by
    have h1 := Ln.ended_len (Ln.bef R)
    refine ⟨by show pre.length + 1 ≤ 65537; omega, ?_⟩
    show (Fld.str (Ln.ended (Ln.bef R))).size ≤ 65536
    rw [size_str]
    omega
   have hyc : ∀ Wq, J pre Wq → YieldAt Fence.wide (n - 1) Tryz.prog l #[.int .i64 ((pre.length : Int) + 1), .string (Fld.str (Ln.ended (Ln.bef R)))] Wq fun e W' =>
     (e = .returned (.bool true) ∧ J (pre ++ [⟨(pre.length + 1, Fld.str (Ln.ended (Ln.bef R))), hbx⟩]) W' ∧ Below n₀ Wq W') ∨ (e = .returned (.bool false) ∧ Jx (pre ++ [⟨(pre.length + 1, Fld.str (Ln.ended (Ln.bef R))), hbx⟩]) W') :=
    fun Wq hq => hY pre ⟨(pre.length + 1, Fld.str (Ln.ended (Ln.bef R))), hbx⟩ Wq hq hpl
   have HYC := hide hyc
   clear hR0 HI hpl hyc
   gi_wp2_with (first | (refine ⟨trivial, ?_⟩; gi_at_call 110; refine (callsIn_wide.2 (cut_call R _ (by omega) hMr)).mono ?_; rintro e w' ⟨bq, rfl, nq, rfl⟩; obtain ⟨fn, tmps, assign, body, hy, hR⟩ := unhide HYC (wr.drewN nq) (abides_drewN hJd hJs nq)) | (refine ⟨trivial, ?_⟩; gi_at_call 111; refine (callsIn_wide.2 (trim_call (Ln.bef R) _ (by omega))).mono ?_; rintro e w' ⟨rfl, rfl⟩))
   refine hR.mono ?_
   rintro e W3 (⟨rfl, hJ3, hk3⟩ | ⟨rfl, hJx3⟩)
   ·have hM3 : MaxIs W3 := MaxIs.below (w := wr.drewN nq) hMr hn₀ hk3
    gi_wp2
    go_roundw
    case rel => exact ⟨pre ++ [⟨(pre.length + 1, Fld.str (Ln.ended (Ln.bef R))), hbx⟩], Ln.aft R, rfl, by rw [List.length_append, List.length_singleton]; go_num, by rw [List.length_append, List.length_singleton]; omega, hJ3, hM3, by
      have e := HI2.out
      show Ln.items s.data.toList = _
      rw [e, raw_snoc]
      simp⟩
    case measure => simp [strLen]; exact hal
   ·gi_wp2
    refine bodyPost_ret (results_none rfl _ _ _) rfl ?_
    exact ⟨⟨_, rfl⟩, .inr ⟨_, ⟨Ln.num (pre.length + 1 + 1) (Ln.ln (Ln.aft R)), by rw [HI2.out, raw_snoc]; simp⟩, hJx3⟩⟩
def gives (s : ByteArray) : List (Nat × ByteArray) := if s.size ≤ 65536 then Ln.items s.data.toList else []

theorem each1_long (n : Nat) (l Bn : Nat) (s : ByteArray) (hs : 65536 < (s.size : Int)) (W : World) (hBn : W.cell? ⟨Bn, 0, none⟩ = some (.string s)) :
  CallsIn Fence.wide n Tryz.prog 108 #[.func (.yield l) #[] #[], .pointer (some ⟨Bn, 0, none⟩)] W fun e W' => (∃ v, e = .returned v) ∧ W' = W := by
 refine callsIn_of_wp Tryz.func108 rfl trivial ?_ rfl
 simp only [Tryz.ntmps108, List.size_toArray, List.length_cons, List.length_nil, Nat.reduceAdd, Nat.reduceSub, Array.replicate_succ, Array.replicate_zero, List.push_toArray, List.append_toArray, List.nil_append, List.cons_append]
 gi_wp2
 refine bodyPost_ret (results_none rfl _ _ _) rfl ?_
 exact ⟨⟨_, rfl⟩, rfl⟩

theorem each_stops (n : Nat) (hn : 1 ≤ n) (Bn n₀ : Nat) (s : ByteArray) (w : World) (hBn : Bn < w.heap.size) (hn₀ : 0 < n₀) (hle : n₀ ≤ w.heap.size) (hc : w.cell? ⟨Bn, 0, none⟩ = some (.string s)) (hM : MaxIs w) :
  SeqStopsK Fence.wide n Tryz.prog 108 #[.pointer (some ⟨Bn, 0, none⟩)] (fun x : Item => #[Value.int .i64 (x.1.1 : Int), Value.string x.1.2]) (Below n₀) (fun ys => raw ys = gives s) (fun pre => raw pre <+: gives s) (gives s).length w := by
 intro l J Jx W hW hJ hJx hY h0
 have hcW : W.cell? ⟨Bn, 0, none⟩ = some (.string s) := (hW.cell (p := ⟨Bn, 0, none⟩) hBn).trans hc
 by_cases hs : s.size ≤ 65536
 ·have e : gives s = Ln.items s.data.toList := if_pos hs
  rw [e] at hY ⊢
  exact each1_in n hn l Bn n₀ s hs J Jx hn₀ W.heap.size hJ hY W hcW (hM.below (Nat.lt_of_lt_of_le hn₀ hle) hW) h0
 ·have e : gives s = [] := if_neg hs
  rw [e]
  exact (each1_long n l Bn s (by omega) W hcW).mono fun e W' ⟨hv, hw⟩ => by
   subst hw
   exact ⟨hv, .inl ⟨[], rfl, h0⟩⟩

theorem each_in (n : Nat) (s : ByteArray) (w : World) :
  CallsIn Fence.wide n Tryz.prog 87 #[.string s] w fun e w' => e = .returned (.func (.func 108) #[] #[.pointer (some ⟨w.heap.size, 0, none⟩)]) ∧ w' = w.alloc (.cells #[.string s] 9) := by
 refine callsIn_of_wp Tryz.func87 rfl trivial ?_ rfl
 simp only [Tryz.ntmps87, List.size_toArray, List.length_cons, List.length_nil, Nat.reduceAdd, Nat.reduceSub, Array.replicate_succ, Array.replicate_zero, List.push_toArray, List.append_toArray, List.nil_append, List.cons_append]
 gi_wp2
 go_ret
 exact ⟨rfl, rfl⟩
end EachW
namespace RowW
open FldW EachW RowB
attribute [local go_sem] Oper.semAt_some

theorem begins_any (f : ByteArray) (w : World) : Calls Tryz.prog 112 #[.string f] w fun e w' => e = .returned (.bool (Rw.rem f.data.toList)) ∧ w' = w := by
 go_enter Tryz.func112, Tryz.ntmps112
 go_wp2_with fail
 refine (Tryz.strings_HasPrefix f ⟨#[35]⟩ w).mono ?_
 rintro e w' ⟨rfl, hw⟩
 obtain rfl := hw.symm
 go_wp2
 go_ret
 exact ⟨rfl, rfl⟩

theorem ahead_any (fs : List (List UInt8)) (n₀ : Nat) (v : Value) (w : World) (h : w.ownsRow n₀ 9 1 v fs.length (vals fs)) :
  Calls Tryz.prog 88 #[v] w fun e w' => (∃ r, e = .returned r ∧ ((Rw.keep fs = [] ∧ ∃ a, r = .slice a 0 0) ∨ (Rw.keep fs ≠ [] ∧ ∃ g, r = .slice (some ⟨g, 0, none⟩) (Rw.keep fs).length (Rw.keep fs).length ∧ v.ownBlock = some g ∧ StrRow n₀ w r ((Rw.keep fs).map Fld.str)))) ∧ w' = w := by
 by_cases h0 : fs = []
 ·subst h0
  rw [List.length_nil] at h
  have hk : Rw.keep [] = [] := rfl
  rw [hk]
  clear hk
  obtain ⟨_, ⟨rfl, _⟩ | ⟨g', cap', cur, rfl, _, hh, hc1, hc2⟩⟩ := h
  ·go_enter Tryz.func88, Tryz.ntmps88
   go_wp2
   go_loop [3] (fun i => i = .int .i64 0) (fun _ => 0)
   case atStart => rfl
   case round =>
    subst hrel
    go_wp2
    go_ret
    exact ⟨⟨_, rfl, _, rfl⟩, rfl⟩
  ·clear hh hc2
   go_enter Tryz.func88, Tryz.ntmps88
   go_wp2
   go_loop [3] (fun i => i = .int .i64 0) (fun _ => 0)
   case atStart => rfl
   case round =>
    subst hrel
    go_wp2
    go_ret
    exact ⟨⟨_, rfl, _, rfl⟩, rfl⟩
 ·have hRow := strRow_of_owns h h0
  have hIs := isStrs_of_row hRow
  obtain ⟨g, cap, cur, rfl, hg, hh, hc, hm, hz, ht⟩ := hRow
  rw [List.length_map] at hc ht ⊢
  have hcell : ∀ j f, fs[j]? = some f → w.cell? ⟨g, j, none⟩ = some (.string (Fld.str f)) := by
   obtain ⟨ao, c2, e, _, h1 | ⟨g2, o2, e2, hx⟩⟩ := hIs
   ·simp at h1; exact absurd h1 h0
   ·intro j f hf
    injection e with e3
    rw [e2] at e3
    injection e3 with e4
    injection e4 with e5 e6
    subst e5; subst e6
    have := hx j (Fld.str f) (by simp [hf])
    simpa using this
  have HC := hide hcell
  clear hcell hIs h
  have hkl := Rw.keep_le fs
  have HT : Hid (Rw.keep fs ≠ [] → StrRow n₀ w (.slice (some ⟨g, 0, none⟩) (Rw.keep fs).length (Rw.keep fs).length) ((Rw.keep fs).map Fld.str)) := fun _ =>
   ⟨g, (Rw.keep fs).length, cur, by simp, hg, hh, by simp, by omega, by omega, by
    rw [List.length_map]
    have hk := Rw.keep_take fs
    have e1 : cur.toList.take (Rw.keep fs).length = (cur.toList.take fs.length).take (Rw.keep fs).length := by rw [List.take_take]; congr 1; omega
    rw [e1, ht, ← List.map_take, ← List.map_take, ← hk]⟩
  have HLT := hide (Rw.keep_lt_of fs)
  have HEND := hide (Rw.keep_end fs)
  generalize hL : fs.length = z at *
  have HL := hide hL
  generalize hK : (Rw.keep fs).length = kk at *
  have HK := hide hK
  clear hL hK ht hh h0
  unfold maxLen at hm
  go_enter Tryz.func88, Tryz.ntmps88
  go_wp2
  go_loop [3] (fun i => ∃ k : Nat, k ≤ kk ∧ i = .int .i64 k) (fun i => kk - (intOf i).toNat)
  case atStart => exact ⟨0, Nat.zero_le _, rfl⟩
  case round =>
   obtain ⟨k, hk, rfl⟩ := hrel
   have hfin : k = kk → ∃ r, Ending.returned (.slice (some ⟨g, 0, none⟩) k k) = .returned r ∧ ((Rw.keep fs = [] ∧ ∃ a, r = .slice a 0 0) ∨ (Rw.keep fs ≠ [] ∧ ∃ g', r = .slice (some ⟨g', 0, none⟩) kk kk ∧ (Value.slice (some ⟨g, 0, none⟩) z cap).ownBlock = some g' ∧ StrRow n₀ w r ((Rw.keep fs).map Fld.str))) := by
    intro e
    subst e
    refine ⟨_, rfl, ?_⟩
    by_cases hke : Rw.keep fs = []
    ·left
     have : k = 0 := by rw [← unhide HK, hke]; rfl
     subst this
     exact ⟨hke, _, rfl⟩
    ·right
     exact ⟨hke, g, rfl, rfl, unhide HT hke⟩
   have HFIN := hide hfin
   clear hfin
   by_cases hlt : k < z
   ·obtain ⟨f, hf⟩ : ∃ f, fs[k]? = some f := ⟨_, List.getElem?_eq_getElem (by rw [unhide HL]; exact hlt)⟩
    have hck := unhide HC k f hf
    have hb := fun wq => begins_any (Fld.str f) wq
    rw [Rw.str_data] at hb
    cases hr : Rw.rem f with
    | false =>
     rw [hr] at hb
     have hk2 := unhide HLT k hk f hf hr
     have HBG := hide hb
     clear hb hr hf
     go_wp2_with (go_at_call 112; refine (unhide HBG _).mono ?_; rintro e w' ⟨rfl, hw⟩; obtain rfl := hw.symm)
     go_round
     case rel => exact ⟨k + 1, by omega, by go_num⟩
     case measure => simp [intOf]; omega
    | true =>
     rw [hr] at hb
     have hk2 := unhide HEND k hk f hf hr
     have HFE := hide (unhide HFIN hk2)
     have HBG := hide hb
     clear hb hr hf hk2
     go_wp2_with (go_at_call 112; refine (unhide HBG _).mono ?_; rintro e w' ⟨rfl, hw⟩; obtain rfl := hw.symm)
     go_ret
     exact ⟨unhide HFE, rfl⟩
   ·have hnl : ¬ ((k : Int) < (z : Int)) := by omega
    have HFE := hide (unhide HFIN (by omega))
    go_wp2
    go_ret
    exact ⟨unhide HFE, rfl⟩

theorem ahead_none (fs : List (List UInt8)) (hk : Rw.keep fs = []) (n₀ : Nat) (v : Value) (w : World) (h : w.ownsRow n₀ 9 1 v fs.length (vals fs)) :
  Calls Tryz.prog 88 #[v] w fun e w' => ∃ a, e = .returned (.slice a 0 0) ∧ w' = w := by
 refine (ahead_any fs n₀ v w h).mono ?_
 rintro e w' ⟨⟨r, rfl, ⟨_, a, rfl⟩ | ⟨h2, _⟩⟩, hw⟩
 ·exact ⟨a, rfl, hw⟩
 ·exact absurd hk h2
theorem ahead_some (fs : List (List UInt8)) (hk : Rw.keep fs ≠ []) (n₀ : Nat) (v : Value) (w : World) (h : w.ownsRow n₀ 9 1 v fs.length (vals fs)) :
  Calls Tryz.prog 88 #[v] w fun e w' => ∃ g, e = .returned (.slice (some ⟨g, 0, none⟩) (Rw.keep fs).length (Rw.keep fs).length) ∧ StrRow n₀ w (.slice (some ⟨g, 0, none⟩) (Rw.keep fs).length (Rw.keep fs).length) ((Rw.keep fs).map Fld.str) ∧ w' = w := by
 refine (ahead_any fs n₀ v w h).mono ?_
 rintro e w' ⟨⟨r, rfl, ⟨h2, _⟩ | ⟨_, g, rfl, _, hs⟩⟩, hw⟩
 ·exact absurd h2 hk
 ·exact ⟨g, rfl, hs, hw⟩
theorem keepsOthers_below {W W' : World} (h : Below W.heap.size W W') : KeepsOthers W W' := ⟨h.size, fun k _ hk _ => (h.block k (Array.getElem?_eq_some_iff.1 hk).1).trans hk⟩
theorem infoRow : (Tryz.prog.info? 135).map (fun i => (i.zero, i.size, i.bytes)) = some (some (.agg #[.int .i64 0, .slice none 0 0]), 2, 32) := by kernel_rfl
theorem Boxed_below {W W' : World} {B : Nat} {t : TypeId} {v : Value} (h : Boxed W B t v) (hB : Below W.heap.size W W') : Boxed W' B t v := (hB.block B h.lt).trans h

def Held (n₀ : Nat) (pre : List EachW.Item) (W : World) : Prop := ∃ v, Boxed W n₀ 85 v ∧ RowsAre n₀ 135 W v (Rw.rowsP (raw pre))
theorem held_own (n₀ : Nat) : Own (Held n₀) := by
 rintro s X Y row ⟨v, hv, E, h1, h2, h3⟩ hg hrow
 refine ⟨v, hv.kept hg (fun e' => ?_), E, h1.kept (Keep9.grown hg ?_), h2.kept hg ?_, h3⟩
 ·obtain ⟨o, ho, hc⟩ := hrow n₀ e'.symm
  rw [show X.heap[n₀]? = _ from hv] at ho; cases ho; cases hc
 ·intro r hr cur hx
  obtain ⟨o, ho, hc⟩ := hrow r hr
  rw [hx] at ho; cases ho; cases hc
 ·obtain ⟨_, ⟨rfl, _⟩ | ⟨g, cap, cur, rfl, _, hgb, _⟩⟩ := h2
  ·exact .inl rfl
  ·refine .inr fun e' => ?_
   obtain ⟨o, ho, hc⟩ := hrow g (by simpa [Value.ownBlock] using e'.symm)
   rw [hgb] at ho; cases ho; cases hc

theorem rows_push {n₀ : Nat} {W W1 w1 : World} {v v' r : Value} {R : List (Nat × List (List UInt8))} {E : List (Nat × Value)} {k : Nat} {ks : List (List UInt8)} {o : Obj} {g : Nat}
  (hv : Boxed W1 n₀ 85 v) (hW : Below W.heap.size W W1) (hF : Fits n₀ W E R) (hO : W1.ownsRow n₀ 135 2 v E.length (cellsE E)) (hN : (E.map fun e => e.2.ownBlock).Nodup ∧ Exact 135 E) (hre : ∃ g n, r = .slice (some ⟨g, 0, none⟩) n n)
  (hr : StrRow W.heap.size W1 r (ks.map Fld.str)) (hrb : r.ownBlock = some g) (hn : n₀ ≤ W.heap.size)
  (hown' : w1.ownsRow n₀ 135 2 v' (E.length + 1) (cellsE E ++ [.int .i64 (k : Int), r])) (hgrow : (W1.alloc o).grownBy w1 v.ownBlock) :
  Boxed w1 n₀ 85 v ∧ KeepsOthers W (w1.setCell ⟨n₀, 0, none⟩ v') ∧ Below n₀ W (w1.setCell ⟨n₀, 0, none⟩ v') ∧ ∃ v2, Boxed (w1.setCell ⟨n₀, 0, none⟩ v') n₀ 85 v2 ∧ RowsAre n₀ 135 (w1.setCell ⟨n₀, 0, none⟩ v') v2 (R ++ [(k, ks)]) := by
 obtain ⟨hv1, hv2, hr2, hk2, hb2⟩ := hv.appended (by decide) hO (Nat.le_trans hn hW.size) (Nat.le_refl _) hown' hgrow
 have k9 : Keep9 W1 (w1.setCell ⟨n₀, 0, none⟩ v') := ((Keep9.alloc W1 o).trans (Keep9.grown_own (hO.alloc o) (by decide) hgrow)).trans (Keep9.box hv1 (by decide) v')
 refine ⟨hv1, (keepsOthers_below hW).trans hk2, (hW.mono hn).trans hb2, v', hv2, E ++ [(k, r)], ?_, ?_, ?_⟩
 ·exact Fits.snoc rfl ((hr.mono hn).kept k9) (hF.kept ((Keep9.below hW).trans k9))
 ·rw [cellsE_snoc, List.length_append]
  exact hr2
 ·refine ⟨?_, hN.2.snoc fun _ => hre⟩
  rw [List.map_append]
  refine nodup_snoc hN.1 ?_
  intro hm
  obtain ⟨g2, e2, _, h2⟩ := hF.blocks _ hm
  obtain ⟨g3, cap3, cur3, e3, h3, _⟩ := hr
  rw [e3] at hrb e2
  simp [Value.ownBlock] at hrb e2
  omega

theorem rows_long (s : ByteArray) (w : World) (hs : 65536 < (s.size : Int)) :
  Calls Tryz.prog 62 #[.string s] w fun e w' => e = .returned (.tuple #[.slice none 0 0, .int .i64 10]) ∧ w' = w := by
 go_enter Tryz.func62, Tryz.ntmps62
 go_wp2
 go_ret2
 exact ⟨rfl, rfl⟩

theorem rows_short (s : ByteArray) (w : World) (hs : s.size ≤ 65536) (hM : MaxIs w) :
  Calls Tryz.prog 62 #[.string s] w fun e w' => ∃ v, e = .returned (.tuple #[v, .int .i64 0]) ∧ RowsAre w.heap.size 135 w' v (Rw.rowsOf s.data.toList) ∧ Below w.heap.size w w' := by
 have hs2 : ¬ (65536 : Int) < (s.size : Int) := by omega
 obtain ⟨i0, hi, hz0, hz1, hz2⟩ := info_parts infoRow
 refine (callsIn_wide (n := 3)).1 ?_
 refine callsIn_of_wp_marks Tryz.func62 rfl trivial ?_ rfl
 simp only [Tryz.ntmps62, List.size_toArray, List.length_cons, List.length_nil, Nat.reduceAdd, Nat.reduceSub, Array.replicate_succ, Array.replicate_zero, List.push_toArray, List.append_toArray, List.nil_append, List.cons_append]
 gi_wp2_with (refine ⟨trivial, ?_⟩; gi_at_call 87; refine (each_in _ s _).mono ?_; rintro e w' ⟨rfl, rfl⟩)
 have bO := Boxed.new w 85 (.slice none 0 0)
 have bN := Boxed.new (w.alloc (.cells #[.slice none 0 0] 85)) 9 (.string s)
 rw [World.size_alloc] at bN
 have hB0 : Below w.heap.size w ((w.alloc (.cells #[.slice none 0 0] 85)).alloc (.cells #[.string s] 9)) := ((Below.refl _ w).alloc (Nat.le_refl _) _).alloc (by simp) _
 have hg0 : 0 < w.heap.size := by
  obtain ⟨m, hm⟩ := hM
  exact World.block_lt_of_cell? w ⟨0, 0, none⟩ hm
 have hN : (gives s).length ≤ 65536 := by
  rw [show gives s = Ln.items s.data.toList from if_pos hs, Ln.items_length]
  have := Ln.linesOf_len s.data.toList
  simp at this
  omega
 refine wpIn_rangeFunc_ownG rfl (by omega) (gf := 108) (lb := #[.pointer (some ⟨w.heap.size + 1, 0, none⟩)]) rfl trivial (enters_of Tryz.func108 (by kernel_rfl) rfl)
  (each_stops _ (by omega) (w.heap.size + 1) w.heap.size s _ (by simp) hg0 (by simp; omega) bN.cell (hM.below hg0 hB0)) belowK_t (belowK_b (by simp; omega)) (Below.refl _ _) (fun _ => rfl)
  (fun pre W => Held w.heap.size pre W ∧ Below w.heap.size w W)
  (fun _ _ _ => False)
  (OwnFrom.and (Own.from (held_own w.heap.size) _) (ownFrom_below (Nat.le_refl _) (by simp; omega)))
  (fun _ _ _ _ _ hs _ _ => hs)
  ⟨⟨_, bO.alloc _, [], trivial, World.ownsRow_nil _ _ _ _, by simp, Exact.nil _⟩, hB0⟩
  (fun x => { tmps := #[.string s, undef, .slice none 0 0, .int .i64 0, .pointer (some ⟨w.heap.size, 0, none⟩), .int .i64 (x.1.1 : Int), .string x.1.2, undef, .string s, .int .i64 s.size, .bool false, .string s, .func (.func 108) #[] #[.pointer (some ⟨w.heap.size + 1, 0, none⟩)], .int .i64 (x.1.1 : Int), .string x.1.2, undef, undef, undef, undef, undef, undef, undef, undef, undef, undef, undef, undef, undef], defers := [] }) ?assign ?body ?done ?stop
 case assign =>
  intro l x W K hK
  gi_wp2
  exact hK
 case body =>
  rintro l pre x W ⟨⟨v, hv, E, hF, hO, hND⟩, hB⟩ hlt
  have hx := x.2
  have hfl := fun wq => fields_any x.1.2 wq (by omega)
  have HFL := hide hfl
  have hEl : E.length ≤ 65536 := by
   rw [hF.length]
   have := Rw.rowsP_len (raw pre)
   rw [raw_length] at this
   omega
  clear hfl
  have hsn : Rw.rowsP (raw (pre ++ [x])) = Rw.rowsP (raw pre) ++ Rw.rowOf x.1.1 x.1.2.data.toList := by rw [raw_snoc, Rw.rowsP_snoc]
  by_cases hkne : Rw.keep (Fld.fieldsOf x.1.2.data.toList) = []
  ·have HSN : Hid (Rw.rowsP (raw (pre ++ [x])) = Rw.rowsP (raw pre)) := by
    show Rw.rowsP (raw (pre ++ [x])) = Rw.rowsP (raw pre)
    rw [hsn]
    unfold Rw.rowOf
    rw [hkne]
    simp
   have HAH := hide (fun n₁ v w => ahead_none _ hkne n₁ v w)
   clear hsn hkne
   gi_wp2_with (first | (refine ⟨trivial, ?_⟩; gi_at_call 89; refine (CallsIn.inRound l (callsIn_wide.2 (unhide HFL _))).mono ?_; rintro e W1 ⟨vf, rfl, hOf, hBf⟩) | (refine ⟨trivial, ?_⟩; gi_at_call 88; refine (CallsIn.inRound l (callsIn_wide.2 (unhide HAH _ _ _ hOf))).mono ?_; rintro e W2 ⟨a, rfl, hw⟩; obtain rfl := hw.symm))
   exact ⟨(keepsOthers_below hBf).from _, hBf.mono hB.size, ⟨v, Boxed_below hv hBf, E, by rw [unhide HSN]; exact hF.kept (Keep9.below hBf), Same.owns_below hO hBf, hND⟩, hB.trans (hBf.mono hB.size)⟩
  ·have HSN : Hid (Rw.rowsP (raw (pre ++ [x])) = Rw.rowsP (raw pre) ++ [(x.1.1, Rw.keep (Fld.fieldsOf x.1.2.data.toList))]) := by
    show Rw.rowsP (raw (pre ++ [x])) = Rw.rowsP (raw pre) ++ [(x.1.1, Rw.keep (Fld.fieldsOf x.1.2.data.toList))]
    rw [hsn]
    unfold Rw.rowOf
    rw [if_neg (by simpa using hkne)]
   have hkp : 0 < (Rw.keep (Fld.fieldsOf x.1.2.data.toList)).length := List.length_pos_iff.2 hkne
   have hkl : (Rw.keep (Fld.fieldsOf x.1.2.data.toList)).length ≤ 65536 := by
    have h1 := Rw.keep_le (Fld.fieldsOf x.1.2.data.toList)
    have h2 := Fld.fieldsOf_len x.1.2.data.toList
    have h3 := hx.2
    simp at h2
    omega
   have HAH := hide (fun n₁ v w => ahead_some _ hkne n₁ v w)
   clear hsn hkne
   generalize Rw.keep (Fld.fieldsOf x.1.2.data.toList) = ks at *
   generalize hkz : ks.length = kz at *
   clear hkz
   gi_wp2_with (first | (refine ⟨trivial, ?_⟩; gi_at_call 89; refine (CallsIn.inRound l (callsIn_wide.2 (unhide HFL _))).mono ?_; rintro e W1 ⟨vf, rfl, hOf, hBf⟩; have hv1 := Boxed_below hv hBf; have hO1 := Same.owns_below hO hBf; have hc := hv1.cell) | (refine ⟨trivial, ?_⟩; gi_at_call 88; refine (CallsIn.inRound l (callsIn_wide.2 (unhide HAH _ _ _ hOf))).mono ?_; rintro e W2 ⟨g, rfl, hSR, hw⟩; obtain rfl := hw.symm) | (gi_at_builtin; refine wpListIn_append_own _ rfl _ _ 85 rfl w.heap.size 135 i0 (.agg #[.int .i64 0, .slice none 0 0]) 2 32 Tryz.underlying85 hi hz0 hz1 hz2 rfl (by decide) _ _ _ rfl (hO1.alloc _) ⟨W1.heap.size, 0, none⟩ 1 1 [.int .i64 (x.1.1 : Int), .slice (some ⟨g, 0, none⟩) kz kz] rfl rfl (cell_two_new _ _ _ _) (by simp [Value.oneCell']) (by unfold maxLen; omega) (by omega) (by have := hB.size; have := hBf.size; simp; omega) ?_; intro v' w1 hown' hgrow _; obtain ⟨g', cap', rfl⟩ := ownsRow_succ hown'; obtain ⟨hb1, hko, hbl, hres⟩ := rows_push hv1 hBf hF hO1 hND ⟨_, _, rfl⟩ hSR rfl hB.size hown' hgrow; have hc1 := hb1.cell; have hf1 := hb1.frozen))
   exact ⟨hko.from _, hbl, by unfold Held; rw [unhide HSN]; exact hres, hB.trans hbl⟩
 case done =>
  rintro D ys W hD hys ⟨⟨v, hv, E, hF, hO, hND⟩, hB⟩ hK
  have hc := hv.cell
  gi_wp2
  refine ⟨by simp, .inl ⟨_, _, rfl, run_takeDeferred hK, ?_⟩⟩
  refine ⟨_, results_tmp2 rfl _ _ _, v, rfl, ⟨E, ?_, ownsRow_putObj hO (.deferred none) hK rfl, hND⟩, hB.trans (belowK_b (w := w) (Nat.le_refl _) W D _ _ (by simp at hD; omega) hK rfl rfl)⟩
  have e : gives s = Ln.items s.data.toList := if_pos hs
  rw [hys, e] at hF
  exact hF.kept (Keep9.grown (grownBy_putObj' W D (.deferred none)) (fun r hr cur hx => by
   obtain rfl : D = r := by simpa using hr
   rw [hK] at hx
   cases hx))
 case stop =>
  rintro D c pre W _ _ h _
  exact h.elim
end RowW
end Go.Proofs.YtidhbhdcoanfcaaGreatDoor
namespace Go.Proofs.YtidhbhdcoanfcaaGreatDoor
open Go.RowKit
namespace Af
open RowB

def RowsAt (B : Nat) (w : World) (v : Value) (R : List (Nat × List Bs)) : Prop :=
 ∃ ao cap, v = .slice ao R.length cap ∧ R.length ≤ cap ∧ cap ≤ maxLen ∧ (ao = none → cap = 0) ∧
  (R ≠ [] → ∃ g off cur, ao = some ⟨g, off, none⟩ ∧ B ≤ g ∧ w.heap[g]? = some (.cells cur 135 (0, 0)) ∧
   ∀ (j : Nat) (l : Nat) (fs : List Bs), R[j]? = some (l, fs) → ∃ fv, cur[off + 2 * j]? = some (.int .i64 (l : Nat)) ∧ cur[off + 2 * j + 1]? = some fv ∧ StrRow B w fv (fs.map Fld.str) ∧ fs ≠ [])
def FNx (B : Nat) (w : World) (v : Value) (l : List Int) : Prop := (v = .slice none 0 0 ∧ l = []) ∨ So.FRow B w v l
def repC (p : Bs × Bs) : List Value := [.string (Wd.str p.1), .string (Wd.str p.2)]
def clsC (c : Cls) : List Value := [.int .u16 c.flag, .int .i64 c.kind, .bool c.cross, .int .i64 (c.first : Nat), .int .i64 (c.count : Nat)]
def rulC (r : Rul) (v : Value) : List Value := [.int .i64 r.kind, .int .u16 r.flag, .bool r.cross, .string (Wd.str r.strip), .string (Wd.str r.add), .string (Wd.str r.cond), v]
def linC (r : Rul) : Value := .int .i64 (r.line : Nat)
structure Pts where
 fb : Nat
 pm : Nat
 hm : Nat
 rv : Value
 vr : Value
 va : Value
 vc : Value
 vu : Value
 vl : Value
 av : List Value
 nv : List Value
def filC (F : Fil) (P : Pts) : Array Value :=
 #[.int .i64 F.kind, .string (Wd.str F.charset), .string (Wd.str F.letters), .int .u16 (F.specials.getD 0 0), .int .u16 (F.specials.getD 1 0), .int .u16 (F.specials.getD 2 0), .int .u16 (F.specials.getD 3 0), .int .u16 (F.specials.getD 4 0), .int .i64 (F.least : Nat), P.vr, P.va, P.vc, P.vu, .map (some P.pm)]
def rdrC (R : Rdr) (P : Pts) : Array Value := #[.pointer (some ⟨P.fb, 0, none⟩), P.rv, .int .i64 (R.line : Nat), .int .i64 (R.behind : Nat), .map (some P.hm), P.vl]
def plc (C : List Cls) : Lit → Option Value
 | .int .u16 x => (findC C x).map fun i => .int .i64 (i : Nat)
 | _ => none
def cnt (H : List Bs) : Lit → Option Value
 | .string s => if s ∈ H then some (.int .i64 (H.count s : Nat)) else none
 | _ => none
structure FilOk (F : Fil) : Prop where
 kind : F.kind = 1 ∨ F.kind = 2 ∨ F.kind = 3
 spec : F.specials.length = 5
 specB : ∀ x ∈ F.specials, 0 ≤ x ∧ x ≤ 65535
 cls : ∀ c ∈ F.classes, 1 ≤ c.flag ∧ c.flag ≤ 65535
 reps : F.reps.length ≤ 256
 ali : F.aliases.length ≤ 1024
 aliS : ∀ a ∈ F.aliases, So.setOf a = a ∧ a.length ≤ 1048577
 rul : F.rules.length ≤ 1024
 len : F.charset.length ≤ 65536
structure FAt (B : Nat) (w : World) (F : Fil) (P : Pts) : Prop where
 fbB : B ≤ P.fb
 pmB : B ≤ P.pm
 fil : w.heap[P.fb]? = some (.cells (filC F P) 97 (0, 0))
 plc : ∃ n, n ≤ F.classes.length ∧ MapF w 36 P.pm n (plc F.classes)
 reps : w.ownsRow B 90 2 P.vr F.reps.length (F.reps.flatMap repC)
 alis : w.ownsRow B 54 1 P.va F.aliases.length P.av
 aliF : P.av.length = F.aliases.length ∧ ∀ (i : Nat) v a, P.av[i]? = some v → F.aliases[i]? = some a → FNx B w v a
 clss : w.ownsRow B 94 5 P.vc F.classes.length (F.classes.flatMap clsC)
 ruls : w.ownsRow B 79 7 P.vu F.rules.length ((F.rules.zip P.nv).flatMap fun p => rulC p.1 p.2)
 rulF : P.nv.length = F.rules.length ∧ ∀ (i : Nat) v r, P.nv[i]? = some v → F.rules[i]? = some r → FNx B w v r.next
 ok : FilOk F
def RowsOk (R : List (Nat × List Bs)) : Prop := ∀ p ∈ R, p.1 ≤ 65536 ∧ p.2 ≠ [] ∧ ∀ f ∈ p.2, f.length ≤ 65536
structure RAt (B : Nat) (w : World) (rb : Nat) (R : Rdr) (P : Pts) : Prop where
 rbB : B ≤ rb
 hmB : B ≤ P.hm
 rdr : w.heap[rb]? = some (.cells (rdrC R P) 88 (0, 0))
 rows : RowsAt B w P.rv R.rows
 hds : ∃ n, n ≤ R.heads.length ∧ MapF w 9 P.hm n (cnt R.heads)
 hne : P.hm ≠ P.pm
 lns : w.ownsRow B 3 1 P.vl R.file.rules.length (R.file.rules.map linC)
 file : FAt B w R.file P
 few : R.heads.length ≤ 65536 ∧ R.behind ≤ 65537 ∧ R.line ≤ 65537
 rok : RowsOk R.rows

theorem own_kept {W W' : World} {B : Nat} {e : TypeId} {size n : Nat} {v : Value} {xs : List Value} (h : W.ownsRow B e size v n xs) (hb : ∀ (g : Nat) (cur : Array Value), W.heap[g]? = some (.cells cur e (0, 0)) → W'.heap[g]? = W.heap[g]?) : W'.ownsRow B e size v n xs := by
 obtain ⟨hl, ⟨e1, e2⟩ | ⟨g, cap, cur, e1, h1, hg, r⟩⟩ := h
 ·exact ⟨hl, .inl ⟨e1, e2⟩⟩
 ·exact ⟨hl, .inr ⟨g, cap, cur, e1, h1, (hb g cur hg).trans hg, r⟩⟩
theorem str_kept {W W' : World} {B : Nat} {v : Value} {L : List ByteArray} (h : StrRow B W v L) (hb : ∀ (g : Nat) (cur : Array Value), W.heap[g]? = some (.cells cur 9 (0, 0)) → W'.heap[g]? = W.heap[g]?) : StrRow B W' v L := by
 obtain ⟨g, cap, cur, e, hg, hh, r⟩ := h
 exact ⟨g, cap, cur, e, hg, (hb g cur hh).trans hh, r⟩
theorem fnx_kept {W W' : World} {B : Nat} {v : Value} {l : List Int} (h : FNx B W v l) (hb : ∀ (g : Nat) (cur : Array Value), W.heap[g]? = some (.cells cur 36 (0, 0)) → W'.heap[g]? = W.heap[g]?) : FNx B W' v l := by
 rcases h with h | ⟨g, cap, cur, e, hg, hh, r⟩
 ·exact .inl h
 ·exact .inr ⟨g, cap, cur, e, hg, (hb g cur hh).trans hh, r⟩
theorem rows_kept {W W' : World} {B : Nat} {v : Value} {R : List (Nat × List Bs)} (h : RowsAt B W v R) (h1 : ∀ (g : Nat) (cur : Array Value), W.heap[g]? = some (.cells cur 135 (0, 0)) → W'.heap[g]? = W.heap[g]?) (h9 : ∀ (g : Nat) (cur : Array Value), W.heap[g]? = some (.cells cur 9 (0, 0)) → W'.heap[g]? = W.heap[g]?) : RowsAt B W' v R := by
 obtain ⟨ao, cap, e, a1, a2, a3, h⟩ := h
 refine ⟨ao, cap, e, a1, a2, a3, fun hn => ?_⟩
 obtain ⟨g, off, cur, e2, hg, hh, hc⟩ := h hn
 refine ⟨g, off, cur, e2, hg, (h1 g cur hh).trans hh, fun j l fs hj => ?_⟩
 obtain ⟨fv, c1, c2, c3, c4⟩ := hc j l fs hj
 exact ⟨fv, c1, c2, str_kept c3 h9, c4⟩
theorem below_kept {W W' : World} {t : TypeId} (hb : Below W.heap.size W W') (g : Nat) (cur : Array Value) (h : W.heap[g]? = some (.cells cur t (0, 0))) : W'.heap[g]? = W.heap[g]? := hb.block g (Array.getElem?_eq_some_iff.1 h).1
theorem FAt.below {B : Nat} {w w' : World} {F : Fil} {P : Pts} (h : FAt B w F P) (hb : Below w.heap.size w w') : FAt B w' F P := by
 obtain ⟨n, hn, hm⟩ := h.plc
 exact ⟨h.fbB, h.pmB, (below_kept hb _ _ h.fil).trans h.fil, ⟨n, hn, hm.kept (hb.block _ hm.lt)⟩, own_kept h.reps (below_kept hb), own_kept h.alis (below_kept hb), ⟨h.aliF.1, fun i v a h1 h2 => fnx_kept (h.aliF.2 i v a h1 h2) (below_kept hb)⟩, own_kept h.clss (below_kept hb), own_kept h.ruls (below_kept hb), ⟨h.rulF.1, fun i v a h1 h2 => fnx_kept (h.rulF.2 i v a h1 h2) (below_kept hb)⟩, h.ok⟩
theorem RAt.below {B : Nat} {w w' : World} {rb : Nat} {R : Rdr} {P : Pts} (h : RAt B w rb R P) (hb : Below w.heap.size w w') : RAt B w' rb R P := by
 obtain ⟨n, hn, hm⟩ := h.hds
 exact ⟨h.rbB, h.hmB, (below_kept hb _ _ h.rdr).trans h.rdr, rows_kept h.rows (below_kept hb) (below_kept hb), ⟨n, hn, hm.kept (hb.block _ hm.lt)⟩, h.hne, own_kept h.lns (below_kept hb), h.file.below hb, h.few, h.rok⟩
end Af
namespace Af
theorem addW_zero {l : Nat} : addW l [48] = .ok [] := by unfold addW; rw [if_pos rfl]
theorem addW_no {l : Nat} {a : Bs} {e : Er} (h : a ≠ [48]) (hc : ckA l a = .error e) : addW l a = .error e := by unfold addW; rw [if_neg h, hc]
theorem addW_ok {l : Nat} {a : Bs} {u : Unit} (h : a ≠ [48]) (hc : ckA l a = .ok u) : addW l a = .ok a := by unfold addW; rw [if_neg h, hc]
theorem added_esc {F : Fil} {l : Nat} {k : Int} {f : Bs} (h : Wd.rd [] f = none) : added F l k f = .error (l, 20) := by unfold added; rw [h]
theorem added_no {F : Fil} {l : Nat} {k : Int} {f a r : Bs} {c : Bool} {e : Er} (h : Wd.rd [] f = some (a, r, c)) (ha : addW l a = .error e) : added F l k f = .error e := by unfold added; rw [h]; simp [ha]
theorem added_plain {F : Fil} {l : Nat} {k : Int} {f a r d : Bs} (h : Wd.rd [] f = some (a, r, false)) (ha : addW l a = .ok d) : added F l k f = .ok (d, []) := by unfold added; rw [h]; simp [ha]
def addV (p : Bs × List Int) : Value := .tuple #[.string (Wd.str p.1), .slice none 0 0]
theorem added_any (rb l : Nat) (F : Fil) (k : Int) (s : ByteArray) (w : World) (hs : s.size ≤ 65536) (hb : rb < w.heap.size) (hl : LineAt w rb l) (hn : ∀ a r, Wd.rd [] s.data.toList ≠ some (a, r, true)) :
  Calls Tryz.prog 136 #[ptr rb, .int .i64 k, .string s] w fun e w' => e = endX addV (added F l k s.data.toList) ∧ Below w.heap.size w w' := by
 have hR := RdW.read_any s w (by omega)
 rcases hr : Wd.rd [] s.data.toList with _ | ⟨a, r, c⟩
 ·rw [added_esc hr]
  rw [hr] at hR
  have HR := hide hR
  have HV := hide (fun w2 (b2 : Below w.heap.size w w2) => leave_no rb l 20 w2 (by decide) (by decide) (lineB hl hb b2))
  clear hR hl hr hs hn
  unfold RdW.ans at HR
  go_enter Tryz.func136, Tryz.ntmps136
  go_wp2_with (first | (go_at_call 113; refine (unhide HR).mono ?_; rintro e w2 ⟨rfl, b2⟩) | (go_at_call 72; refine (unhide HV _ b2).mono ?_; rintro e w3 ⟨rfl, rfl⟩))
  exact ⟨rfl, rfl, b2⟩
 ·rw [hr] at hR
  have HR := hide hR
  unfold RdW.ans at HR
  have hz := rd_len0 hr
  have HL := hide (fun W => leave_ok (ptr rb) W)
  cases c with
  | true => exact absurd hr (hn a r)
  | false =>
   by_cases h48 : a = [48]
   ·rw [added_plain hr (by rw [h48]; exact addW_zero)]
    have hq : ((Wd.str a).toList == [48]) = true := by rw [h48, Lib.toList_data]; rfl
    clear h48
    clear hR hl hr hs hz hn
    show Calls _ _ _ _ fun e w' => e = .returned (.tuple #[.string ⟨#[]⟩, .slice none 0 0]) ∧ _
    go_enter Tryz.func136, Tryz.ntmps136
    go_wp2_with (first | (go_at_call 113; refine (unhide HR).mono ?_; rintro e w2 ⟨rfl, b2⟩) | (go_at_call 72; refine (unhide HL _).mono ?_; rintro e w3 ⟨rfl, rfl⟩))
    go_ret2
    exact ⟨rfl, b2⟩
   have hne : ((Wd.str a).toList == [48]) = false := by
    rw [beq_eq_false_iff_ne, Lib.toList_data, Wd.str_list]
    exact h48
   have hA := fun w2 (b2 : Below w.heap.size w w2) => checkAffix_any rb l (Wd.str a) w2 (by omega) (Nat.lt_of_lt_of_le hb b2.size) (lineB hl hb b2)
   rw [Wd.str_list] at hA
   cases hc : ckA l a with
   | error er =>
    have HA := hide (fun w2 b2 => noOf (hA w2 b2) hc)
    rw [added_no hr (addW_no h48 hc)]
    clear hR hl hr hs hz hA hc hn h48
    go_enter Tryz.func136, Tryz.ntmps136
    go_wp2_with (first | (go_at_call 113; refine (unhide HR).mono ?_; rintro e w2 ⟨rfl, b2⟩) | (go_at_call 72; refine (unhide HL _).mono ?_; rintro e w3 ⟨rfl, rfl⟩) | (go_at_call 132; refine (unhide HA _ b2).mono ?_; rintro e w4 ⟨rfl, b4⟩))
    exact ⟨rfl, rfl, btr b2 b4⟩
   | ok u =>
    have HA := hide (fun w2 b2 => okOf (hA w2 b2) hc)
    rw [added_plain hr (addW_ok h48 hc)]
    clear hR hl hr hs hz hA hc hn h48
    go_enter Tryz.func136, Tryz.ntmps136
    go_wp2_with (first | (go_at_call 113; refine (unhide HR).mono ?_; rintro e w2 ⟨rfl, b2⟩) | (go_at_call 72; refine (unhide HL _).mono ?_; rintro e w3 ⟨rfl, rfl⟩) | (go_at_call 132; refine (unhide HA _ b2).mono ?_; rintro e w4 ⟨rfl, b4⟩))
    go_ret2
    exact ⟨rfl, btr b2 b4⟩
open RowB
def Kp (g0 : Nat) (w w' : World) : Prop := w.heap.size ≤ w'.heap.size ∧ ∀ b, b < w.heap.size → b ≠ g0 → w'.heap[b]? = w.heap[b]?
theorem Kp.of_grown {g0 : Nat} {w w' : World} (h : w.grownBy w' (some g0)) : Kp g0 w w' := ⟨h.size, fun b hb hn => h.block b hb (fun e => hn (by injection e))⟩
theorem Kp.kept {w w' : World} {g0 : Nat} {o0 : Obj} {t : TypeId} (hk : Kp g0 w w') (h0 : w.heap[g0]? = some o0) (hne : ∀ cur, o0 ≠ .cells cur t (0, 0)) (g : Nat) (cur : Array Value) (h : w.heap[g]? = some (.cells cur t (0, 0))) : w'.heap[g]? = w.heap[g]? := by
 refine hk.2 g (Array.getElem?_eq_some_iff.1 h).1 ?_
 rintro rfl
 rw [h0] at h
 exact hne cur (Option.some.inj h)
theorem Kp.keptM {w w' : World} {g0 : Nat} {cs : Array Value} {t k : TypeId} {fz : Nat × Nat} {b n : Nat} {f : Lit → Option Value} (hk : Kp g0 w w') (h0 : w.heap[g0]? = some (.cells cs t fz)) (h : MapF w k b n f) : MapF w' k b n f := by
 refine h.kept (hk.2 b h.lt ?_)
 rintro rfl
 obtain ⟨es, c, e⟩ := h.isMap
 rw [h0] at e
 cases e
theorem ne_cells {cs : Array Value} {t u : TypeId} {fz : Nat × Nat} (h : t ≠ u) : ∀ cur, Obj.cells cs t fz ≠ .cells cur u (0, 0) := by
 intro cur e
 injection e with _ e _
 exact h e
theorem FAt.kp {B : Nat} {w w' : World} {F : Fil} {P : Pts} {g0 : Nat} {cs : Array Value} {t : TypeId} {fz : Nat × Nat} (h : FAt B w F P) (hk : Kp g0 w w') (h0 : w.heap[g0]? = some (.cells cs t fz))
  (t1 : t ≠ 97) (t2 : t ≠ 90) (t3 : t ≠ 54) (t4 : t ≠ 94) (t5 : t ≠ 79) (t6 : t ≠ 36) : FAt B w' F P := by
 obtain ⟨n, hn, hm⟩ := h.plc
 exact ⟨h.fbB, h.pmB, (hk.kept h0 (ne_cells t1) _ _ h.fil).trans h.fil, ⟨n, hn, hk.keptM h0 hm⟩, own_kept h.reps (hk.kept h0 (ne_cells t2)), own_kept h.alis (hk.kept h0 (ne_cells t3)), ⟨h.aliF.1, fun i v a h1 h2 => fnx_kept (h.aliF.2 i v a h1 h2) (hk.kept h0 (ne_cells t6))⟩, own_kept h.clss (hk.kept h0 (ne_cells t4)), own_kept h.ruls (hk.kept h0 (ne_cells t5)), ⟨h.rulF.1, fun i v a h1 h2 => fnx_kept (h.rulF.2 i v a h1 h2) (hk.kept h0 (ne_cells t6))⟩, h.ok⟩
theorem FAt.pts {B : Nat} {w : World} {F : Fil} {P P' : Pts} (h : FAt B w F P) (e : P' = { P with rv := P'.rv, vl := P'.vl }) : FAt B w F P' := by
 rw [e]
 exact ⟨h.fbB, h.pmB, h.fil, h.plc, h.reps, h.alis, h.aliF, h.clss, h.ruls, h.rulF, h.ok⟩
theorem RAt.turn {B : Nat} {w w' : World} {rb : Nat} {R R' : Rdr} {P P' : Pts} (h : RAt B w rb R P) (hk : Kp rb w w') (hrd : w'.heap[rb]? = some (.cells (rdrC R' P') 88 (0, 0))) (hrows : RowsAt B w' P'.rv R'.rows) (hl : w'.ownsRow B 3 1 P'.vl R'.file.rules.length (R'.file.rules.map linC))
  (hf : R'.file = R.file) (hh : R'.heads = R.heads) (e : P' = { P with rv := P'.rv, vl := P'.vl }) (few : R'.behind ≤ 65537 ∧ R'.line ≤ 65537) (rok : RowsOk R'.rows) : RAt B w' rb R' P' := by
 obtain ⟨n, hn, hm⟩ := h.hds
 have e1 : P'.hm = P.hm := by rw [e]
 have e2 : P'.pm = P.pm := by rw [e]
 refine ⟨h.rbB, by rw [e1]; exact h.hmB, hrd, hrows, ⟨n, by rw [hh]; exact hn, by rw [hh, e1]; exact hk.keptM h.rdr hm⟩, by rw [e1, e2]; exact h.hne, hl, ?_, ⟨by rw [hh]; exact h.few.1, few.1, few.2⟩, rok⟩
 rw [hf]
 exact (h.file.kp hk h.rdr (by decide) (by decide) (by decide) (by decide) (by decide) (by decide)).pts e
theorem RAt.cells {B : Nat} {w : World} {rb : Nat} {R : Rdr} {P : Pts} (h : RAt B w rb R P) : w.cell? ⟨rb, 0, none⟩ = some (.pointer (some ⟨P.fb, 0, none⟩)) ∧ w.cell? ⟨rb, 1, none⟩ = some P.rv ∧ LineAt w rb R.line ∧ w.cell? ⟨rb, 3, none⟩ = some (.int .i64 (R.behind : Nat)) ∧ w.cell? ⟨rb, 4, none⟩ = some (.map (some P.hm)) ∧ w.cell? ⟨rb, 5, none⟩ = some P.vl ∧ ∀ k, w.frozen? ⟨rb, k, none⟩ = false := by
 have h := h.rdr
 refine ⟨?_, ?_, ?_, ?_, ?_, ?_, fun k => ?_⟩ <;> simp [LineAt, World.cell?, World.frozen?, h, rdrC]
theorem RAt.lt {B : Nat} {w : World} {rb : Nat} {R : Rdr} {P : Pts} (h : RAt B w rb R P) : rb < w.heap.size := (Array.getElem?_eq_some_iff.1 h.rdr).1
theorem kp_set (w : World) (g i : Nat) (v : Value) : Kp g w (w.setCell ⟨g, i, none⟩ v) := ⟨by simp [World.setCell], fun b _ hn => Below.heap_setCell w _ v b hn⟩
theorem kp_alloc {g : Nat} {w w' : World} (h : Kp g w w') (o : Obj) : Kp g w (w'.alloc o) := ⟨Nat.le_trans h.1 (by simp), fun b hb hn => (Below.heap_alloc w' o b (Nat.lt_of_lt_of_le hb h.1)).trans (h.2 b hb hn)⟩
theorem kp_trans {g : Nat} {a b c : World} (h : Kp g a b) (k : Kp g b c) : Kp g a c := ⟨Nat.le_trans h.1 k.1, fun i hi hn => (k.2 i (Nat.lt_of_lt_of_le hi h.1) hn).trans (h.2 i hi hn)⟩
theorem kp_below {g : Nat} {a b : World} (h : Below a.heap.size a b) : Kp g a b := ⟨h.size, fun i hi _ => h.block i hi⟩
theorem rows_tail {B : Nat} {w : World} {v : Value} {l : Nat} {fs : List Bs} {t : List (Nat × List Bs)} (h : RowsAt B w v ((l, fs) :: t)) :
  ∃ g off cap fv, v = .slice (some ⟨g, off, none⟩) (t.length + 1) cap ∧ t.length + 1 ≤ cap ∧ cap ≤ maxLen ∧ w.cell? ⟨g, off, none⟩ = some (.int .i64 (l : Nat)) ∧ w.cell? ⟨g, off + 1, none⟩ = some fv ∧ StrRow B w fv (fs.map Fld.str) ∧ fs ≠ [] ∧ g < w.heap.size ∧ (∃ cur, w.heap[g]? = some (.cells cur 135 (0, 0))) ∧
   (∀ ao c, (0 < t.length → ao = some ⟨g, off + 2, none⟩) → t.length ≤ c → c ≤ maxLen → (ao = none → c = 0) → RowsAt B w (.slice ao t.length c) t) := by
 obtain ⟨ao, cap, e, a1, a2, a3, h⟩ := h
 obtain ⟨g, off, cur, e2, hg, hh, hc⟩ := h (by simp)
 subst e2
 obtain ⟨fv, c1, c2, c3, c4⟩ := hc 0 l fs rfl
 refine ⟨g, off, cap, fv, by rw [e]; simp, by simpa using a1, a2, by simpa [World.cell?, hh] using c1, by simpa [World.cell?, hh] using c2, c3, c4, (Array.getElem?_eq_some_iff.1 hh).1, ⟨cur, hh⟩, fun ao c h1 h2 h3 h4 => ?_⟩
 refine ⟨ao, c, rfl, h2, h3, h4, fun hn => ?_⟩
 have hp : 0 < t.length := by cases t with | nil => exact absurd rfl hn | cons _ _ => simp
 refine ⟨g, off + 2, cur, h1 hp, hg, hh, fun j l' fs' hj => ?_⟩
 obtain ⟨fv', d1, d2, d3⟩ := hc (j + 1) l' fs' (by simpa using hj)
 refine ⟨fv', ?_, ?_, d3⟩
 ·rw [show off + 2 + 2 * j = off + 2 * (j + 1) by omega]; exact d1
 ·rw [show off + 2 + 2 * j + 1 = off + 2 * (j + 1) + 1 by omega]; exact d2
theorem set_heap1 {W : World} {g k : Nat} {cur : Array Value} {t : TypeId} {fz : Nat × Nat} (h : W.heap[g]? = some (.cells cur t fz)) (v : Value) : (W.setCell ⟨g, k, none⟩ v).heap[g]? = some (.cells (cur.setIfInBounds k v) t fz) := by
 simp only [World.setCell, Array.getElem?_modify, if_true, h, Option.map_some]
 rfl
theorem alloc_heap1 {W : World} {g : Nat} {o : Obj} (h : W.heap[g]? = some o) (x : Obj) : (W.alloc x).heap[g]? = some o := (Below.heap_alloc W x g (Array.getElem?_eq_some_iff.1 h).1).trans h
theorem str_kp {W W' : World} {B g0 : Nat} {cs : Array Value} {t : TypeId} {fz : Nat × Nat} {v : Value} {L : List ByteArray} (h : StrRow B W v L) (hk : Kp g0 W W') (h0 : W.heap[g0]? = some (.cells cs t fz)) (ht : t ≠ 9) : StrRow B W' v L := str_kept h (hk.kept h0 (ne_cells ht))
theorem next_res {B rb l : Nat} {t : List (Nat × List Bs)} {R : Rdr} {P : Pts} {w : World} {rv fv : Value} {L : List ByteArray} {o : Obj} (h : RAt B w rb R P) (hl : l ≤ 65536) (hok : RowsOk t) (hrow : RowsAt B w rv t) (hs : StrRow B w fv L) :
  ∀ W, W = ((w.setCell ⟨rb, 1, none⟩ rv).setCell ⟨rb, 2, none⟩ (.int .i64 (l : Nat))).alloc o → StrRow B W fv L ∧ RAt B W rb { R with rows := t, line := l } { P with rv := rv } ∧ Below B w W ∧ Kp rb w W := by
 rintro W rfl
 have k1 : Kp rb w (((w.setCell ⟨rb, 1, none⟩ rv).setCell ⟨rb, 2, none⟩ (.int .i64 (l : Nat))).alloc o) := kp_alloc (kp_trans (kp_set w rb 1 _) (kp_set _ rb 2 _)) _
 refine ⟨str_kp hs k1 h.rdr (by decide), h.turn k1 ?_ (rows_kept hrow (k1.kept h.rdr (ne_cells (by decide))) (k1.kept h.rdr (ne_cells (by decide)))) (own_kept h.lns (k1.kept h.rdr (ne_cells (by decide)))) rfl rfl rfl ⟨h.few.2.1, by show l ≤ 65537; omega⟩ hok, ?_, k1⟩
 ·exact alloc_heap1 (set_heap1 (set_heap1 h.rdr _) _) _
 ·have := h.lt
  have := h.rbB
  exact (((Below.refl B w).setCell (p := ⟨rb, 1, none⟩) h.rbB _).setCell (p := ⟨rb, 2, none⟩) h.rbB _).alloc (by simp; omega) _
theorem nextRow_any {B rb l : Nat} {fs : List Bs} {t : List (Nat × List Bs)} {R : Rdr} {P : Pts} {w : World} (h : RAt B w rb R P) (hr : R.rows = (l, fs) :: t) :
  Calls Tryz.prog 81 #[ptr rb] w fun e w' => ∃ fv rv, e = .returned fv ∧ StrRow B w' fv (fs.map Fld.str) ∧ RAt B w' rb { R with rows := t, line := l } { P with rv := rv } ∧ Below B w w' ∧ Kp rb w w' := by
 have hrk := h.rok
 rw [hr] at hrk
 have hl : l ≤ 65536 := (hrk (l, fs) (by simp)).1
 have HOK : Hid (RowsOk t) := fun p hp => hrk p (by simp [hp])
 clear hrk
 have hR := h.rows
 rw [hr] at hR
 obtain ⟨g, off, cap, fv, e1, c1, c2, c3, c4, c5, c6, c7, c8, c9⟩ := rows_tail hR
 obtain ⟨d0, d1, d2, d3, d4, d5, d6⟩ := h.cells
 rw [e1] at d1
 have hlt := h.lt
 have HH := hide h
 have H9 := hide c9
 have H5 := hide c5
 obtain ⟨gf, cf, curf, ef, -⟩ := c5
 rw [List.length_map] at ef
 subst ef
 clear hR hr h c9 d3 d4 d5
 unfold LineAt at d2
 unfold maxLen at c2
 have hne : ¬ g = rb := by
  rintro rfl
  obtain ⟨cur, e⟩ := c8
  rw [(unhide HH).rdr] at e
  injection e with e
  injection e with _ e _
  exact absurd e (by decide)
 clear c8
 go_enter Tryz.func81, Tryz.ntmps81
 go_wp2
 ·obtain ⟨r1, r2, r3, r4⟩ := next_res (o := .cells #[.int .i64 (l : Nat), .slice (some ⟨gf, 0, none⟩) fs.length cf] 135) (unhide HH) hl (unhide HOK) (unhide H9 (some ⟨g, off, none⟩) 0 (fun h => by omega) (by omega) (by unfold maxLen; omega) (fun e => rfl)) (unhide H5) _ rfl
  go_ret
  exact ⟨_, rfl, r1, ⟨_, r2⟩, r3, r4⟩
 ·obtain ⟨r1, r2, r3, r4⟩ := next_res (o := .cells #[.int .i64 (l : Nat), .slice (some ⟨gf, 0, none⟩) fs.length cf] 135) (unhide HH) hl (unhide HOK) (unhide H9 (some ⟨g, off + 2, none⟩) (cap - 1) (fun h => rfl) (by omega) (by unfold maxLen; omega) (fun e => by cases e)) (unhide H5) _ rfl
  go_ret
  exact ⟨_, rfl, r1, ⟨_, r2⟩, r3, r4⟩
theorem cnt_in {H : List Bs} {s : Bs} (h : s ∈ H) : cnt H (.string s) = some (.int .i64 (H.count s : Nat)) := by simp [cnt, h]
theorem cnt_out {H : List Bs} {s : Bs} (h : s ∉ H) : cnt H (.string s) = none := by simp [cnt, h]
theorem stood_any {B rb : Nat} {R : Rdr} {P : Pts} {w : World} (h : RAt B w rb R P) (s : ByteArray) (hs : s.size ≤ 65536) :
  Calls Tryz.prog 83 #[ptr rb, .string s] w fun e w' => e = .returned (.bool (decide (s.data.toList ∈ R.heads))) ∧ w' = w := by
 obtain ⟨d0, d1, d2, d3, d4, d5, d6⟩ := h.cells
 obtain ⟨n, hn, hm⟩ := h.hds
 have hk := hm.look law9 Tryz.underlying86 (zero3 w) (key9 (s := s) (by unfold maxLen; omega))
 by_cases hi : s.data.toList ∈ R.heads
 ·rw [cnt_in hi] at hk
  have hp : 0 < R.heads.count s.data.toList := List.count_pos_iff.2 hi
  have hpi : (0 : Int) < ((R.heads.count s.data.toList : Nat) : Int) := by omega
  rw [decide_eq_true hi]
  generalize R.heads.count s.data.toList = q at *
  simp only [Option.getD_some] at hk
  clear h hm d0 d1 d2 d3 d5 hi hn hs
  go_enter Tryz.func83, Tryz.ntmps83
  go_wp2
  go_ret
  exact ⟨by simp, rfl⟩
 ·rw [cnt_out hi] at hk
  rw [decide_eq_false hi]
  simp only [Option.getD_none] at hk
  clear h hm d0 d1 d2 d3 d5 hi hn hs
  go_enter Tryz.func83, Tryz.ntmps83
  go_wp2
  go_ret
  exact ⟨rfl, rfl⟩
theorem FAt.cells {B : Nat} {w : World} {F : Fil} {P : Pts} (h : FAt B w F P) : w.cell? ⟨P.fb, 0, none⟩ = some (.int .i64 F.kind) ∧ w.cell? ⟨P.fb, 9, none⟩ = some P.vr ∧ w.cell? ⟨P.fb, 10, none⟩ = some P.va ∧ w.cell? ⟨P.fb, 11, none⟩ = some P.vc ∧ w.cell? ⟨P.fb, 12, none⟩ = some P.vu ∧ w.cell? ⟨P.fb, 13, none⟩ = some (.map (some P.pm)) ∧ ∀ k, w.frozen? ⟨P.fb, k, none⟩ = false := by
 have h := h.fil
 refine ⟨?_, ?_, ?_, ?_, ?_, ?_, fun k => ?_⟩ <;> simp [World.cell?, World.frozen?, h, filC]
theorem FAt.lt {B : Nat} {w : World} {F : Fil} {P : Pts} (h : FAt B w F P) : P.fb < w.heap.size := (Array.getElem?_eq_some_iff.1 h.fil).1
def noC : Value := .agg #[.int .u16 0, .int .i64 0, .bool false, .int .i64 0, .int .i64 0]
theorem class_none {B : Nat} {F : Fil} {P : Pts} {w : World} (h : FAt B w F P) (x : Int) (h0 : 0 ≤ x) (h1 : x ≤ 65535) (hf : findC F.classes x = none) :
  Calls Tryz.prog 68 #[.pointer (some ⟨P.fb, 0, none⟩), .int .u16 x] w fun e w' => e = .returned (.tuple #[noC, .bool false]) ∧ Below w.heap.size w w' := by
 obtain ⟨d0, d9, d10, d11, d12, d13, dz⟩ := h.cells
 obtain ⟨n, hn, hm⟩ := h.plc
 have hk := fun o => (hm.kept (w' := w.alloc o) (Below.heap_alloc w o _ hm.lt)).look2 lawF Tryz.underlying95 (zero3 (w.alloc o)) (keyF h0 h1)
 simp only [plc, hf, Option.map_none, Option.getD_none, Option.isSome_none] at hk
 have hlt := h.lt
 clear h hm hf h0 h1 d9 d10 d11 d12 hn
 unfold noC
 go_enter Tryz.func68, Tryz.ntmps68
 go_wp2
 refine bodyPost_ret (v := .tuple #[.agg #[.int .u16 0, .int .i64 0, .bool false, .int .i64 0, .int .i64 0], .bool false]) (by simp [results, Tryz.results68, go_sem]) rfl ⟨rfl, (Below.refl _ w).alloc (Nat.le_refl _) _⟩
end Af
open Go.Shelf
namespace SplW
open FldW EachW
attribute [local go_sem] Oper.semAt_some

theorem split_long (s : ByteArray) (w : World) (hs : 65536 < (s.size : Int)) :
  Calls Tryz.prog 71 #[.string s] w fun e w' => e = .returned (.tuple #[.slice none 0 0, .int .i64 10]) ∧ w' = w := by
 go_enter Tryz.func71, Tryz.ntmps71
 go_wp2
 go_ret2
 exact ⟨rfl, rfl⟩
theorem split_short (s : ByteArray) (w : World) (hs : s.size ≤ 65536) (hM : MaxIs w) :
  Calls Tryz.prog 71 #[.string s] w fun e w' => ∃ v, e = .returned (.tuple #[v, .int .i64 0]) ∧ w'.ownsRow w.heap.size 9 1 v (Ln.linesOf s.data.toList).length (vals (Ln.linesOf s.data.toList)) ∧ Below w.heap.size w w' := by
 have hs2 : ¬ (65536 : Int) < (s.size : Int) := by omega
 obtain ⟨i0, hi, hz0, hz1, hz2⟩ := info_parts info9
 refine (callsIn_wide (n := 3)).1 ?_
 refine callsIn_of_wp_marks Tryz.func71 rfl trivial ?_ rfl
 simp only [Tryz.ntmps71, List.size_toArray, List.length_cons, List.length_nil, Nat.reduceAdd, Nat.reduceSub, Array.replicate_succ, Array.replicate_zero, List.push_toArray, List.append_toArray, List.nil_append, List.cons_append]
 gi_wp2_with (refine ⟨trivial, ?_⟩; gi_at_call 87; refine (each_in _ s _).mono ?_; rintro e w' ⟨rfl, rfl⟩)
 have bO := Boxed.new w 23 (.slice none 0 0)
 have bN := Boxed.new (w.alloc (.cells #[.slice none 0 0] 23)) 9 (.string s)
 rw [World.size_alloc] at bN
 have hB0 : Below w.heap.size w ((w.alloc (.cells #[.slice none 0 0] 23)).alloc (.cells #[.string s] 9)) := ((Below.refl _ w).alloc (Nat.le_refl _) _).alloc (by simp) _
 have hg0 : 0 < w.heap.size := by
  obtain ⟨m, hm⟩ := hM
  exact World.block_lt_of_cell? w ⟨0, 0, none⟩ hm
 have hN : (gives s).length ≤ 65536 := by
  rw [show gives s = Ln.items s.data.toList from if_pos hs, Ln.items_length]
  have := Ln.linesOf_len s.data.toList
  simp at this
  omega
 refine wpIn_rangeFunc_ownG rfl (by omega) (gf := 108) (lb := #[.pointer (some ⟨w.heap.size + 1, 0, none⟩)]) rfl trivial (enters_of Tryz.func108 (by kernel_rfl) rfl)
  (each_stops _ (by omega) (w.heap.size + 1) w.heap.size s _ (by simp) hg0 (by simp; omega) bN.cell (hM.below hg0 hB0)) belowK_t (belowK_b (by simp; omega)) (Below.refl _ _) (fun _ => rfl)
  (fun pre W => (∃ v, Boxed W w.heap.size 23 v ∧ W.ownsRow w.heap.size 9 1 v pre.length ((raw pre).map fun x => Value.string x.2) ∧ True) ∧ Below w.heap.size w W)
  (fun _ _ _ => False)
  (OwnFrom.and (Own.from (holdsRow_own w.heap.size w.heap.size 23 9 1 (fun pre : List EachW.Item => pre.length) (fun pre => (raw pre).map fun x => Value.string x.2) (fun _ _ => True)) _) (ownFrom_below (Nat.le_refl _) (by simp; omega)))
  (fun _ _ _ _ _ hs _ _ => hs)
  ⟨⟨_, bO.alloc _, World.ownsRow_nil _ _ _ _, trivial⟩, hB0⟩
  (fun x => { tmps := #[.string s, undef, .slice none 0 0, .int .i64 0, .pointer (some ⟨w.heap.size, 0, none⟩), undef, .string x.1.2, .string s, .int .i64 s.size, .bool false, .string s, .func (.func 108) #[] #[.pointer (some ⟨w.heap.size + 1, 0, none⟩)], .int .i64 (x.1.1 : Int), .string x.1.2, undef, undef, undef, undef, undef], defers := [] }) ?assign ?body ?done ?stop
 case assign =>
  intro l x W K hK
  gi_wp2
  exact hK
 case body =>
  rintro l pre x W ⟨⟨v, hv, hrow, _⟩, hB⟩ hlt
  have hc := hv.cell
  gi_wp2_with (gi_at_builtin; refine wpListIn_append_own _ rfl _ _ 23 rfl w.heap.size 9 i0 (.string ByteArray.empty) 1 16 Tryz.underlying23 hi hz0 hz1 hz2 rfl (by decide) _ _ _ rfl (hrow.alloc _) ⟨W.heap.size, 0, none⟩ 1 1 [.string x.1.2] rfl rfl (cell_one_new _ _ _) (by simp [Value.oneCell']) (by unfold maxLen; omega) (by omega) (by have := hB.size; simp; omega) ?_; intro v' w1 hown' hgrow _; obtain ⟨g', cap', rfl⟩ := ownsRow_succ hown'; obtain ⟨hv1, hv2, hr2, hk2, hb2⟩ := hv.appended (by decide) hrow hB.size (Nat.le_refl _) hown' hgrow; have hc1 := hv1.cell; have hf1 := hv1.frozen)
  exact ⟨hk2.from _, hb2, ⟨_, hv2, by rw [raw_snoc, List.map_append, List.length_append]; exact hr2, trivial⟩, hB.trans hb2⟩
 case done =>
  rintro D ys W hD hys ⟨⟨v, hv, hrow, _⟩, hB⟩ hK
  have hc := hv.cell
  gi_wp2
  refine ⟨by simp, .inl ⟨_, _, rfl, run_takeDeferred hK, ?_⟩⟩
  refine ⟨_, results_tmp2 rfl _ _ _, v, rfl, ?_, hB.trans (belowK_b (w := w) (Nat.le_refl _) W D _ _ (by simp at hD; omega) hK rfl rfl)⟩
  have h := ownsRow_putObj hrow (.deferred none) hK rfl
  have e : gives s = Ln.items s.data.toList := if_pos hs
  rw [← raw_length, hys, e, Ln.items_length] at h
  have e2 : (Ln.items s.data.toList).map (fun x => Value.string x.2) = vals (Ln.linesOf s.data.toList) := by
   have := congrArg (List.map Value.string) (Ln.num_snd (Ln.linesOf s.data.toList) 1)
   simpa [vals, Ln.items, Function.comp_def] using this
  rw [e2] at h
  exact h
 case stop =>
  rintro D c pre W _ _ h _
  exact h.elim
end SplW
end Go.Proofs.YtidhbhdcoanfcaaGreatDoor
