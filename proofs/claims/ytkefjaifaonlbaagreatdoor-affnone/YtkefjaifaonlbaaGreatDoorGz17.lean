/- Maps that hold just what a function says; no walk. -/
import Derived.Test.YtkefjaifaonlbaaGreatDoorGz16
import Derived.Maps.OwnSet
import Derived.Maps.Views
import Derived.Test.YtkefjaifaonlbaaGreatDoorShAll
import Derived.Test.YtkefjaifaonlbaaGreatDoorChecked
import Derived.Test.YtkefjaifaonlbaaGreatDoorGz00
import Derived.WalkKit
import Derived.WalkSpells
import Derived.WalkLawsBesides
import Derived.Deep.QuietTactic
import Derived.BigQuiet
import Derived.Deep.DeepFit
import Derived.Lib.Strings
import Derived.Maps.AppendAt
import Derived.RangeFuncBox
import Derived.RangeFuncNested
import Derived.RangeFuncBound
import Derived.RangeFuncCalls
import Derived.RangeFuncLeaves
import Derived.Shelf.Abstract
import Derived.Shelf.RegionOpen
import Derived.OwnWalkIn
import Derived.TacticsInMore
import Derived.LoopNIn
import Derived.LoopIn
namespace Go.Proofs.YtkefjaifaonlbaaGreatDoor
open Go.RowKit
namespace Af

abbrev DV := DataW Value
def Rh (v : Value) : Option (DV × List MemPlace) := some (.held v, [])
/-- block b is a map that holds just this -/
def MapF (w : World) (k : TypeId) (b n : Nat) (f : Lit → Option Value) : Prop :=
  ∃ D : DV, w.ownsMap Tryz.prog k Rh b n D ∧ Maps.IsMap D ∧ ∀ kl zd, D.atKey kl zd = (match f kl with | some v => .held v | none => zd)
theorem MapF.lt {w : World} {k : TypeId} {b n : Nat} {f : Lit → Option Value} (h : MapF w k b n f) : b < w.heap.size := by
  obtain ⟨D, ho, _⟩ := h
  exact ho.lt
theorem MapF.isMap {w : World} {k : TypeId} {b n : Nat} {f : Lit → Option Value} (h : MapF w k b n f) : ∃ es c, w.heap[b]? = some (.map es c) := by
  obtain ⟨D, ⟨es, c, h1, _⟩, _⟩ := h
  exact ⟨es, c, h1⟩
theorem MapF.kept {w w' : World} {k : TypeId} {b n : Nat} {f : Lit → Option Value} (h : MapF w k b n f) (hb : w'.heap[b]? = w.heap[b]?) : MapF w' k b n f := by
  obtain ⟨D, ⟨es, c, h1, h2⟩, r⟩ := h
  exact ⟨D, ⟨es, c, hb.trans h1, h2⟩, r⟩
theorem MapF.made (w : World) (k : TypeId) : MapF (w.alloc (.map #[] 0)) k w.heap.size 0 (fun _ => none) :=
  ⟨_, World.ownsMap_made w _ _ _, Maps.isMap_empty, fun _ _ => rfl⟩
theorem MapF.look {w : World} {k t e : TypeId} {b n : Nat} {f : Lit → Option Value} {z key : Value} {kl : Lit} (h : MapF w k b n f) (K : Maps.Keyed Tryz.prog k) (ht : Tryz.prog.underlying t = some (.map k e)) (hz : (zeroValue e).run Tryz.prog w = .ok z w) (hkey : keyOf Tryz.prog k key = some kl) :
    (Instr.lookup t (.map (some b)) key false).run Tryz.prog w = .ok ((f kl).getD z) w := by
  obtain ⟨D, ho, _, hf⟩ := h
  obtain ⟨v, ps, hr, hv⟩ := ho.lookup K ht hz (zd := .held z) (zp := []) rfl hkey
  rw [hf] at hv
  cases hk : f kl with
  | none =>
    rw [hk] at hv
    simp only [Rh, Option.some.injEq, Prod.mk.injEq, DataW.held.injEq] at hv
    rw [hv.1] at hr
    exact hr
  | some x =>
    rw [hk] at hv
    simp only [Rh, Option.some.injEq, Prod.mk.injEq, DataW.held.injEq] at hv
    rw [hv.1] at hr
    exact hr
theorem MapF.look2 {w : World} {k t e : TypeId} {b n : Nat} {f : Lit → Option Value} {z key : Value} {kl : Lit} (h : MapF w k b n f) (K : Maps.Keyed Tryz.prog k) (ht : Tryz.prog.underlying t = some (.map k e)) (hz : (zeroValue e).run Tryz.prog w = .ok z w) (hkey : keyOf Tryz.prog k key = some kl) :
    (Instr.lookup t (.map (some b)) key true).run Tryz.prog w = .ok (.tuple #[(f kl).getD z, .bool (f kl).isSome]) w := by
  obtain ⟨D, ho, _, hf⟩ := h
  obtain ⟨v, ps, hr, hv⟩ := ho.look_ok K ht hz (zd := .held z) (zp := []) rfl hkey
  rw [hf] at hv
  cases hk : f kl with
  | none =>
    rw [hk] at hv
    simp only [Rh, Option.some.injEq, Prod.mk.injEq, DataW.held.injEq] at hv
    rw [hv.1, Maps.has_false_of_atKey (fun zd => by rw [hf, hk])] at hr
    exact hr
  | some x =>
    rw [hk] at hv
    simp only [Rh, Option.some.injEq, Prod.mk.injEq, DataW.held.injEq] at hv
    rw [hv.1, Maps.has_true_of_atKey (y := .held x) (fun zd => by rw [hf, hk])] at hr
    exact hr
theorem MapF.put {w : World} {k t e : TypeId} {b n : Nat} {f : Lit → Option Value} {key : Value} {kl : Lit} (h : MapF w k b n f) (K : Maps.Keyed Tryz.prog k) (ht : Tryz.prog.underlying t = some (.map k e)) (hn : n < maxLen) (hkey : keyOf Tryz.prog k key = some kl) (hl : WideAt.IsKeyLit kl) (v : Value) :
    ∃ w', (Instr.mapUpdate t (.map (some b)) key v).run Tryz.prog w = .ok () w' ∧ (∀ f', f' kl = some v → (∀ x, x ≠ kl → f' x = f x) → MapF w' k b (n + 1) f') ∧ w.grownBy w' (some b) := by
  obtain ⟨D, ho, hm, hf⟩ := h
  obtain ⟨w', hr, ho', hg⟩ := ho.update (t := t) (e := e) (val := v) (d := .held v) (ps := []) K ht hn hkey rfl
  refine ⟨w', hr, fun f' f1 f2 => ⟨_, ho', hm.put _ _, fun x zd => ?_⟩, hg⟩
  by_cases e : x = kl
  · subst e
    rw [Maps.atKey_put_same hm hl, f1]
  · rw [Maps.atKey_put_other e, hf, f2 x e]
theorem law9 : Maps.Keyed Tryz.prog 9 := Maps.string_keyed Tryz.underlying9
theorem lawF : Maps.Keyed Tryz.prog 31 := Maps.int_keyed Tryz.underlying31
theorem key9 {s : ByteArray} (h : s.size ≤ maxLen) : keyOf Tryz.prog 9 (.string s) = some (.string s.data.toList) := WideMaps.keyOf_string_mk Tryz.underlying9 h
theorem keyF {x : Int} (h0 : 0 ≤ x) (h1 : x ≤ 65535) : keyOf Tryz.prog 31 (.int .u16 x) = some (.int .u16 x) := Maps.keyOf_int_mk Tryz.underlying31 (WalkArith.wf_u16 (by omega))
theorem zero3 (w : World) : (zeroValue 3).run Tryz.prog w = .ok (.int .i64 0) w := by kernel_rfl
end Af
end Go.Proofs.YtkefjaifaonlbaaGreatDoor
/- The shelf. -/
/- Contract: lines.Fields answers a new list that holds the fields of the line (of a line of at most 2^43 bytes), and turns nothing old in memory. -/
namespace Go.Proofs.YtkefjaifaonlbaaGreatDoor
open Go.RowKit
namespace FldW

theorem hide {p : Prop} (h : p) : Hid p := h
theorem unhide {p : Prop} (h : Hid p) : p := h
def vals (L : List (List UInt8)) : List Value := L.map (fun f => Value.string (Fld.str f))
theorem vals_snoc (L : List (List UInt8)) (f : List UInt8) : vals (L ++ [f]) = vals L ++ [.string (Fld.str f)] := by simp [vals]
theorem vals_length (L : List (List UInt8)) : (vals L).length = L.length := by simp [vals]
theorem info9 : (Tryz.prog.info? 9).map (fun i => (i.zero, i.size, i.bytes)) = some (some (.string ByteArray.empty), 1, 16) := by kernel_rfl

theorem below_push {w wr w1 : World} {e : TypeId} {v : Value} {n : Nat} {xs : List Value} {o : Obj} (hown : wr.ownsRow w.heap.size e 1 v n xs) (hB : Below w.heap.size w wr) (hg : (wr.alloc o).grownBy w1 v.ownBlock) : Below w.heap.size w w1 :=
  (hB.alloc hB.size o).grown hg (by have := hB.size; simp; omega) (fun k e => (hown.lt k e).1)

theorem blank_cases (c : UInt8) (h : Fld.blank c = true) : (((c.toNat : Int) != 32) = false) ∨ (((c.toNat : Int) != 32) = true ∧ ((c.toNat : Int) != 9) = false) := by
  simp only [Fld.blank, Bool.or_eq_true, beq_iff_eq] at h
  rcases h with h | h
  · left; rw [h]; rfl
  · right; rw [h]; exact ⟨rfl, rfl⟩
theorem plain_of (c : UInt8) (h : Fld.blank c = false) : ((c.toNat : Int) != 32) = true ∧ ((c.toNat : Int) != 9) = true := by
  simp only [Fld.blank, Bool.or_eq_false_iff, beq_eq_false_iff_ne] at h
  constructor <;> (rw [bne_iff_ne]; omega)

set_option maxHeartbeats 1000000 in
theorem fields_any (s : ByteArray) (w : World) (hs : s.size * 16 ≤ 140737488355328) :
    Calls Tryz.prog 97 #[.string s] w fun e w' => ∃ v, e = .returned v ∧ w'.ownsRow w.heap.size 9 1 v (Fld.fieldsOf s.data.toList).length (vals (Fld.fieldsOf s.data.toList)) ∧ Below w.heap.size w w' := by
  obtain ⟨i0, hi, hz0, hz1, hz2⟩ := info_parts info9
  go_enter Tryz.func97, Tryz.ntmps97
  go_wp2
  go_loopw [3, 4, 5] (fun v a i wr => ∃ k : Nat, k ≤ s.size ∧ i = .int .i64 k ∧ a = .int .i64 ((k - Fld.op (Fld.pre s k) : Nat) : Int) ∧ wr.ownsRow w.heap.size 9 1 v (Fld.closed (Fld.pre s k)).length (vals (Fld.closed (Fld.pre s k))) ∧ Below w.heap.size w wr) (fun _ _ i _ => s.size - (intOf i).toNat)
  case atStart => exact ⟨0, Nat.zero_le _, rfl, rfl, World.ownsRow_nil _ _ _ _, Below.refl _ _⟩
  case round =>
    obtain ⟨k, hk, rfl, rfl, hown, hB⟩ := hrel
    have hol := Fld.closed_le s k hk
    have HP := hide (Fld.piece s k hk)
    by_cases hlt : k < s.size
    · cases hb : Fld.blank s[k] with
      | false =>
        have HST := hide (Fld.step_plain s k hlt hb)
        obtain ⟨h32, h9⟩ := plain_of _ hb
        generalize hkk : k - Fld.op (Fld.pre s k) = a at *
        have hE : k + 1 - Fld.op (Fld.pre s (k + 1)) = a := by rw [(unhide HST).2, ← hkk]; omega
        have HE := hide hE
        clear hkk hb hE
        go_wp2
        go_roundw
        case rel => exact ⟨k + 1, by omega, by go_num, by rw [unhide HE], by rw [(unhide HST).1]; exact hown, hB⟩
        case measure => simp [intOf]; omega
      | true =>
        have HST := hide (Fld.step_blank s k hlt hb)
        have HZ := hide (Fld.fields_zero s k)
        have HQ := hide (Fld.fields_pos s k)
        have hop : Fld.op (Fld.pre s k) ≤ k := Fld.op_le s k hk
        generalize hoo : Fld.op (Fld.pre s k) = o at *
        have HOO := hide hoo
        clear hoo
        have hbc := blank_cases _ hb
        clear hb
        by_cases ho : o = 0
        · have HZ2 := hide (unhide HZ ho)
          clear HZ HQ
          subst ho
          have e0 : k - 0 = k := rfl
          rw [e0]
          clear e0
          rcases hbc with h32 | ⟨h32, h9⟩
          all_goals
            go_wp2
            go_roundw
            case rel => exact ⟨k + 1, by omega, by go_num, by rw [(unhide HST).2]; go_num, by rw [(unhide HST).1, unhide HZ2]; exact hown, hB⟩
            case measure => simp [intOf]; omega
        · generalize hkk : k - o = a at *
          have hak : (a : Int) < (k : Int) := by omega
          have hak2 : a ≤ k := by omega
          have hop2 : 0 < o := by omega
          have HC : Hid (Fld.closed (Fld.pre s (k + 1)) = Fld.closed (Fld.pre s k) ++ [(Fld.st (Fld.pre s k)).2]) := by
            show Fld.closed (Fld.pre s (k + 1)) = Fld.closed (Fld.pre s k) ++ [(Fld.st (Fld.pre s k)).2]
            rw [(unhide HST).1, unhide HQ hop2]
          clear hkk ho HQ HZ
          rcases hbc with h32 | ⟨h32, h9⟩
          all_goals
            go_wp2_with (at_builtin; refine wpList_append_own _ rfl _ _ 75 rfl w.heap.size 9 i0 (.string ByteArray.empty) 1 16 Tryz.underlying75 hi hz0 hz1 hz2 rfl (by decide) _ _ _ rfl (hown.alloc _) ⟨wr.heap.size, 0, none⟩ 1 1 [.string (s.extract a k)] rfl rfl (cell_one_new _ _ _) (fun x hx => by simp at hx; subst hx; rfl) (by unfold maxLen; omega) (by omega) (by have := hB.size; simp; omega) ?_; intro v' w1 hown' hgrow _)
            have HB1 := hide (below_push hown hB hgrow)
            have HO1 : Hid (w1.ownsRow w.heap.size 9 1 v' (Fld.closed (Fld.pre s (k + 1))).length (vals (Fld.closed (Fld.pre s (k + 1))))) := by
              show w1.ownsRow w.heap.size 9 1 v' (Fld.closed (Fld.pre s (k + 1))).length (vals (Fld.closed (Fld.pre s (k + 1))))
              rw [unhide HC, vals_snoc, List.length_append, ← unhide HP]
              exact hown'
            clear hown' hgrow hown hB
            go_wp2
            go_roundw
            case rel => exact ⟨k + 1, by omega, by go_num, by rw [(unhide HST).2]; go_num, unhide HO1, unhide HB1⟩
            case measure => simp [intOf]; omega
    · have hkz : k = s.size := by omega
      have HF := hide (Fld.fields_full s k (by omega))
      have HZ := hide (Fld.fields_zero s k)
      have HQ := hide (Fld.fields_pos s k)
      have hop : Fld.op (Fld.pre s k) ≤ k := Fld.op_le s k hk
      generalize hoo : Fld.op (Fld.pre s k) = o at *
      clear hoo
      by_cases ho : o = 0
      · have HZ2 := hide (unhide HZ ho)
        clear HZ HQ
        subst ho
        have e0 : k - 0 = k := rfl
        rw [e0]
        clear e0 hkz
        have hge : ¬ ((k : Int) < (s.size : Int)) := by omega
        go_wp2
        go_ret
        exact ⟨_, rfl, by rw [← unhide HF, unhide HZ2]; exact hown, hB⟩
      · generalize hkk : k - o = a at *
        have hak : (a : Int) < (s.size : Int) := by omega
        have hop2 : 0 < o := by omega
        have hak2 : a ≤ s.size := by omega
        subst hkz
        clear hkk ho HZ
        go_wp2_with (at_builtin; refine wpList_append_own _ rfl _ _ 75 rfl w.heap.size 9 i0 (.string ByteArray.empty) 1 16 Tryz.underlying75 hi hz0 hz1 hz2 rfl (by decide) _ _ _ rfl (hown.alloc _) ⟨wr.heap.size, 0, none⟩ 1 1 [.string (s.extract a s.size)] rfl rfl (cell_one_new _ _ _) (fun x hx => by simp at hx; subst hx; rfl) (by unfold maxLen; omega) (by omega) (by have := hB.size; simp; omega) ?_; intro v' w1 hown' hgrow _)
        have HB1 := hide (below_push hown hB hgrow)
        have HO1 : Hid (w1.ownsRow w.heap.size 9 1 v' (Fld.fieldsOf s.data.toList).length (vals (Fld.fieldsOf s.data.toList))) := by
          show w1.ownsRow w.heap.size 9 1 v' (Fld.fieldsOf s.data.toList).length (vals (Fld.fieldsOf s.data.toList))
          rw [← unhide HF, unhide HQ hop2, vals_snoc, List.length_append, ← unhide HP]
          exact hown'
        clear hown' hgrow hown hB
        go_wp2
        go_ret
        exact ⟨_, rfl, unhide HO1, unhide HB1⟩
end FldW
end Go.Proofs.YtkefjaifaonlbaaGreatDoor
/- Contract: lines.Each hands back an iterator that gives the numbered lines of the text (none where the text is too long), in their order, all of them or as many as are asked for. -/
namespace Go.Proofs.YtkefjaifaonlbaaGreatDoor
open Go.RowKit Go.Shelf
namespace EachW
open FldW
attribute [local go_sem] Oper.semAt_some

abbrev Item := { x : Nat × ByteArray // x.1 ≤ 65537 ∧ x.2.size ≤ 65536 }
def raw (p : List Item) : List (Nat × ByteArray) := p.map fun x => x.1
theorem raw_snoc (p : List Item) (x : Item) : raw (p ++ [x]) = raw p ++ [x.1] := by simp [raw]
theorem raw_length (p : List Item) : (raw p).length = p.length := by simp [raw]
theorem size_str (l : List UInt8) : (Fld.str l).size = l.length := by show l.toArray.size = l.length; simp
def strLen : Value → Nat
  | .string s => s.size
  | _ => 0
def MaxIs (w : World) : Prop := ∃ m : Int, w.cell? ⟨0, 0, none⟩ = some (.int .i64 m)
theorem MaxIs.below {w w' : World} {n : Nat} (h : MaxIs w) (hn : 0 < n) (hB : Below n w w') : MaxIs w' := by
  obtain ⟨m, hm⟩ := h
  exact ⟨m, (hB.cell (p := ⟨0, 0, none⟩) hn).trans hm⟩

theorem maxIs_of {W : World} (h : W.ShapedOpen Tryz.prog) : MaxIs W := Tryz.laysM145.s1_3 W h

theorem cut_call (R : List UInt8) (w : World) (hR : R.length ≤ 65536) (hm : MaxIs w) :
    Calls Tryz.prog 119 #[.string ⟨R.toArray⟩, .string ⟨#[10]⟩] w fun e w' => ∃ b, e = .returned (.tuple #[.string ⟨(Ln.bef R).toArray⟩, .string ⟨(Ln.aft R).toArray⟩, .bool b]) ∧ ∃ n, w' = w.drewN n := by
  obtain ⟨m, hm⟩ := hm
  have h := Tryz.strings_Cut ⟨R.toArray⟩ ⟨#[10]⟩ m w (by show R.toArray.size < _; simp; omega) hm
  refine h.mono ?_
  rintro e w' ⟨rfl, hn⟩
  have e1 : (ByteArray.mk R.toArray).data.toList = R := by simp
  have e2 : (ByteArray.mk #[10]).data.toList = [10] := rfl
  rw [e1, e2, (Ln.cut_eq R).1, (Ln.cut_eq R).2]
  exact ⟨_, rfl, hn⟩
theorem trim_call (l : List UInt8) (w : World) (hl : l.length ≤ 65536) :
    Calls Tryz.prog 120 #[.string ⟨l.toArray⟩, .string ⟨#[13]⟩] w fun e w' => e = .returned (.string (Fld.str (Ln.ended l))) ∧ w' = w := by
  have h := Tryz.strings_TrimSuffix ⟨l.toArray⟩ ⟨#[13]⟩ w (by show l.toArray.size ≤ _; simp; omega)
  have e1 : (ByteArray.mk l.toArray).data.toList = l := by simp
  have e2 : (ByteArray.mk #[13]).data.toList = [13] := rfl
  rw [e1, e2, Ln.ended_eq] at h
  exact h
theorem unmark_call (s : ByteArray) (w : World) :
    Calls Tryz.prog 118 #[.string s, .string ⟨#[239, 187, 191]⟩] w fun e w' => e = .returned (.string ⟨(Ln.unmark s.data.toList).toArray⟩) ∧ w' = w :=
  Tryz.strings_TrimPrefix s ⟨#[239, 187, 191]⟩ w

theorem abides_drewN {α : Type} {B : Nat} {J : α → World → Prop} (h : AbidesFrom B J) {s : α} {W : World} (hs : J s W) (n : Nat) : J s (W.drewN n) :=
  h s W (W.drewN n) none hs ⟨rfl, rfl, rfl, Nat.le_refl _, fun _ _ _ => rfl⟩ (fun r e => by cases e)

set_option maxRecDepth 100000 in
set_option maxHeartbeats 2000000 in
theorem each1_in (n : Nat) (hn : 1 ≤ n) (l Bn n₀ : Nat) (s : ByteArray) (hs : s.size ≤ 65536) (J Jx : List Item → World → Prop) (hn₀ : 0 < n₀) (B : Nat) (hJd : AbidesFrom B J)
    (hY : ∀ pre x W, J pre W → pre.length < (Ln.items s.data.toList).length → YieldAt Fence.wide (n - 1) Tryz.prog l #[.int .i64 (x.1.1 : Int), .string x.1.2] W fun e W' =>
      (e = .returned (.bool true) ∧ J (pre ++ [x]) W' ∧ Below n₀ W W') ∨ (e = .returned (.bool false) ∧ Jx (pre ++ [x]) W'))
    (W : World) (hBn : W.cell? ⟨Bn, 0, none⟩ = some (.string s)) (hM : MaxIs W) (h0 : J [] W) :
    CallsIn Fence.wide n Tryz.prog 117 #[.func (.yield l) #[] #[], .pointer (some ⟨Bn, 0, none⟩)] W fun e W' => (∃ v, e = .returned v) ∧
      ((∃ ys, raw ys = Ln.items s.data.toList ∧ J ys W') ∨ (∃ pre, raw pre <+: Ln.items s.data.toList ∧ Jx pre W')) := by
  have hs2 : ¬ (65536 : Int) < (s.size : Int) := by omega
  refine callsIn_of_wp Tryz.func117 rfl trivial ?_ rfl
  simp only [Tryz.ntmps117, List.size_toArray, List.length_cons, List.length_nil, Nat.reduceAdd, Nat.reduceSub, Array.replicate_succ, Array.replicate_zero, List.push_toArray, List.append_toArray, List.nil_append, List.cons_append]
  gi_wp2_with (refine ⟨trivial, ?_⟩; gi_at_call 118; refine (callsIn_wide.2 (unmark_call s _)).mono ?_; rintro e w' ⟨rfl, rfl⟩)
  gi_loopw [3, 4] (fun r q wr => ∃ (pre : List Item) (R : List UInt8), r = .string ⟨R.toArray⟩ ∧ q = .int .i64 ((pre.length : Int) + 1) ∧ pre.length + R.length ≤ 65536 ∧ J pre wr ∧ MaxIs wr ∧ Hid (Ln.items s.data.toList = raw pre ++ Ln.num (pre.length + 1) (Ln.ln R)))
    (fun r _ _ => strLen r)
  case atStart => exact ⟨[], Ln.unmark s.data.toList, rfl, rfl, by have := Ln.unmark_le s.data.toList; simp at this ⊢; omega, h0, hM, rfl⟩
  case round =>
    obtain ⟨pre, R, rfl, rfl, hlen, hJs, hMr, HI⟩ := hrel
    by_cases hR0 : R = []
    · subst hR0
      gi_wp2
      go_end0
      exact ⟨⟨_, rfl⟩, .inl ⟨pre, by rw [HI.out]; simp [Ln.ln_nil, Ln.num], hJs⟩⟩
    · have hE : R.isEmpty = false := by
        cases R with
        | nil => exact absurd rfl hR0
        | cons _ _ => rfl
      have hbl := Ln.bef_le R
      have hal := Ln.aft_lt R hR0
      have HI2 : Hid (Ln.items s.data.toList = raw pre ++ (pre.length + 1, Fld.str (Ln.ended (Ln.bef R))) :: Ln.num (pre.length + 1 + 1) (Ln.ln (Ln.aft R))) := by
        have := HI.out
        rw [Ln.ln_cons R hR0] at this
        exact this
      have hpl : pre.length < (Ln.items s.data.toList).length := by rw [HI2.out]; simp [raw_length]
      have hbx : (pre.length + 1, Fld.str (Ln.ended (Ln.bef R))).1 ≤ 65537 ∧ (pre.length + 1, Fld.str (Ln.ended (Ln.bef R))).2.size ≤ 65536 := by
        have h1 := Ln.ended_len (Ln.bef R)
        refine ⟨by show pre.length + 1 ≤ 65537; omega, ?_⟩
        show (Fld.str (Ln.ended (Ln.bef R))).size ≤ 65536
        rw [size_str]
        omega
      have hyc : ∀ Wq, J pre Wq → YieldAt Fence.wide (n - 1) Tryz.prog l #[.int .i64 ((pre.length : Int) + 1), .string (Fld.str (Ln.ended (Ln.bef R)))] Wq fun e W' =>
          (e = .returned (.bool true) ∧ J (pre ++ [⟨(pre.length + 1, Fld.str (Ln.ended (Ln.bef R))), hbx⟩]) W' ∧ Below n₀ Wq W') ∨ (e = .returned (.bool false) ∧ Jx (pre ++ [⟨(pre.length + 1, Fld.str (Ln.ended (Ln.bef R))), hbx⟩]) W') :=
        fun Wq hq => hY pre ⟨(pre.length + 1, Fld.str (Ln.ended (Ln.bef R))), hbx⟩ Wq hq hpl
      have HYC := hide hyc
      clear hR0 HI hpl hyc
      gi_wp2_with (first | (refine ⟨trivial, ?_⟩; gi_at_call 119; refine (callsIn_wide.2 (cut_call R _ (by omega) hMr)).mono ?_; rintro e w' ⟨bq, rfl, nq, rfl⟩; obtain ⟨fn, tmps, assign, body, hy, hR⟩ := unhide HYC (wr.drewN nq) (abides_drewN hJd hJs nq)) | (refine ⟨trivial, ?_⟩; gi_at_call 120; refine (callsIn_wide.2 (trim_call (Ln.bef R) _ (by omega))).mono ?_; rintro e w' ⟨rfl, rfl⟩))
      refine hR.mono ?_
      rintro e W3 (⟨rfl, hJ3, hk3⟩ | ⟨rfl, hJx3⟩)
      · have hM3 : MaxIs W3 := MaxIs.below (w := wr.drewN nq) hMr hn₀ hk3
        gi_wp2
        go_roundw
        case rel => exact ⟨pre ++ [⟨(pre.length + 1, Fld.str (Ln.ended (Ln.bef R))), hbx⟩], Ln.aft R, rfl, by rw [List.length_append, List.length_singleton]; go_num, by rw [List.length_append, List.length_singleton]; omega, hJ3, hM3, by
            have e := HI2.out
            show Ln.items s.data.toList = _
            rw [e, raw_snoc]
            simp⟩
        case measure => simp [strLen]; exact hal
      · gi_wp2
        refine bodyPost_ret (results_none rfl _ _ _) rfl ?_
        exact ⟨⟨_, rfl⟩, .inr ⟨_, ⟨Ln.num (pre.length + 1 + 1) (Ln.ln (Ln.aft R)), by rw [HI2.out, raw_snoc]; simp⟩, hJx3⟩⟩
/-- what Each gives of a text of whatever length -/
def gives (s : ByteArray) : List (Nat × ByteArray) := if s.size ≤ 65536 then Ln.items s.data.toList else []

set_option maxRecDepth 100000 in
set_option maxHeartbeats 1000000 in
theorem each1_long (n : Nat) (l Bn : Nat) (s : ByteArray) (hs : 65536 < (s.size : Int)) (W : World) (hBn : W.cell? ⟨Bn, 0, none⟩ = some (.string s)) :
    CallsIn Fence.wide n Tryz.prog 117 #[.func (.yield l) #[] #[], .pointer (some ⟨Bn, 0, none⟩)] W fun e W' => (∃ v, e = .returned v) ∧ W' = W := by
  refine callsIn_of_wp Tryz.func117 rfl trivial ?_ rfl
  simp only [Tryz.ntmps117, List.size_toArray, List.length_cons, List.length_nil, Nat.reduceAdd, Nat.reduceSub, Array.replicate_succ, Array.replicate_zero, List.push_toArray, List.append_toArray, List.nil_append, List.cons_append]
  gi_wp2
  refine bodyPost_ret (results_none rfl _ _ _) rfl ?_
  exact ⟨⟨_, rfl⟩, rfl⟩

/-- The iterator that Each hands back. -/
theorem each_stops (n : Nat) (hn : 1 ≤ n) (Bn n₀ : Nat) (s : ByteArray) (w : World) (hBn : Bn < w.heap.size) (hn₀ : 0 < n₀) (hle : n₀ ≤ w.heap.size) (hc : w.cell? ⟨Bn, 0, none⟩ = some (.string s)) (hM : MaxIs w) :
    SeqStopsK Fence.wide n Tryz.prog 117 #[.pointer (some ⟨Bn, 0, none⟩)] (fun x : Item => #[Value.int .i64 (x.1.1 : Int), Value.string x.1.2]) (Below n₀) (fun ys => raw ys = gives s) (fun pre => raw pre <+: gives s) (gives s).length w := by
  intro l J Jx W hW hJ hJx hY h0
  have hcW : W.cell? ⟨Bn, 0, none⟩ = some (.string s) := (hW.cell (p := ⟨Bn, 0, none⟩) hBn).trans hc
  by_cases hs : s.size ≤ 65536
  · have e : gives s = Ln.items s.data.toList := if_pos hs
    rw [e] at hY ⊢
    exact each1_in n hn l Bn n₀ s hs J Jx hn₀ W.heap.size hJ hY W hcW (hM.below (Nat.lt_of_lt_of_le hn₀ hle) hW) h0
  · have e : gives s = [] := if_neg hs
    rw [e]
    exact (each1_long n l Bn s (by omega) W hcW).mono fun e W' ⟨hv, hw⟩ => by
      subst hw
      exact ⟨hv, .inl ⟨[], rfl, h0⟩⟩

set_option maxHeartbeats 1000000 in
theorem each_in (n : Nat) (s : ByteArray) (w : World) :
    CallsIn Fence.wide n Tryz.prog 95 #[.string s] w fun e w' => e = .returned (.func (.func 117) #[] #[.pointer (some ⟨w.heap.size, 0, none⟩)]) ∧ w' = w.alloc (.cells #[.string s] 9) := by
  refine callsIn_of_wp Tryz.func95 rfl trivial ?_ rfl
  simp only [Tryz.ntmps95, List.size_toArray, List.length_cons, List.length_nil, Nat.reduceAdd, Nat.reduceSub, Array.replicate_succ, Array.replicate_zero, List.push_toArray, List.append_toArray, List.nil_append, List.cons_append]
  gi_wp2
  go_ret
  exact ⟨rfl, rfl⟩
end EachW
end Go.Proofs.YtkefjaifaonlbaaGreatDoor
/- Contract: the laws' comparison of two lists of texts answers true where both lists hold the same texts; nothing in memory turns. -/
namespace Go.Proofs.YtkefjaifaonlbaaGreatDoor
open Go.RowKit
namespace Same
open FldW

/-- The slice value v reads as the texts L. -/
def IsStrs (w : World) (v : Value) (L : List ByteArray) : Prop :=
  ∃ ao cap, v = .slice ao L.length cap ∧ L.length ≤ maxLen ∧ (L = [] ∨ ∃ g off, ao = some ⟨g, off, none⟩ ∧ ∀ j x, L[j]? = some x → w.cell? ⟨g, off + j, none⟩ = some (.string x))
theorem isStrs_of_owns {w : World} {B : Nat} {v : Value} {L : List (List UInt8)} (h : w.ownsRow B 9 1 v L.length (vals L)) : IsStrs w v (L.map Fld.str) := by
  have hc := h
  obtain ⟨hl, ⟨rfl, h0⟩ | ⟨g, cap, cur, rfl, hg, hh, hc1, hm, hsz, htk⟩⟩ := h
  · have : L = [] := List.eq_nil_of_length_eq_zero h0
    subst this
    exact ⟨none, 0, rfl, by simp, .inl rfl⟩
  · refine ⟨some ⟨g, 0, none⟩, cap, by simp, by simp; omega, ?_⟩
    right
    refine ⟨g, 0, rfl, fun j x hj => ?_⟩
    have := hc.cells (g := g) rfl j (.string x) (by
      simp only [List.getElem?_map, Option.map_eq_some_iff] at hj
      obtain ⟨f, hf, rfl⟩ := hj
      simp [vals, hf])
    have e : (⟨g, 0, none⟩ : Addr).add j = ⟨g, 0 + j, none⟩ := by
      unfold Addr.add
      split
      · rename_i h; subst h; rfl
      · rfl
    rw [e] at this
    exact this

theorem owns_below {w w' : World} {base : Nat} {e : TypeId} {size : Nat} {v : Value} {n : Nat} {xs : List Value} (h : w.ownsRow base e size v n xs) (hB : Below w.heap.size w w') : w'.ownsRow base e size v n xs := by
  obtain ⟨hl, h | ⟨g, cap, cur, rfl, hg, hh, hr⟩⟩ := h
  · exact ⟨hl, .inl h⟩
  · refine ⟨hl, .inr ⟨g, cap, cur, rfl, hg, ?_, hr⟩⟩
    rw [hB.block g (Array.getElem?_eq_some_iff.1 hh).1]
    exact hh

end Same
end Go.Proofs.YtkefjaifaonlbaaGreatDoor
