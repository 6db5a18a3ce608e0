import Derived.Shelf.Strings.BuilderK
import Derived.Test.YtidhbhdcoanfcaaGreatDoorGq01
set_option maxHeartbeats 8000000
set_option maxRecDepth 100000
namespace Go.Proofs
open Go.Shelf
def Tryz.lays167_ren : Go.Shelf.Ren := ⟨fun | 167 => 44 | 240 => 61 | 276 => 86 | n => n, fun | 0 => 0 | 3 => 3 | 4 => 4 | 5 => 5 | 9 => 9 | 20 => 20 | 37 => 104 | 70 => 103 | 72 => 106 | 75 => 109 | 80 => 111 | 127 => 131 | 164 => 157 | n => n, fun | n => n⟩
theorem Tryz.lays167 : Go.Proofs.Lays.n167 Tryz.prog Tryz.lays167_ren := {
 mixed := by kernel_rfl
 f167 := Tryz.func44.trans (congrArg some (by kernel_rfl))
 f240 := Tryz.func61.trans (congrArg some (by kernel_rfl))
 f276 := Tryz.func86.trans (congrArg some (by kernel_rfl))
 t0 := Tryz.underlying0
 a0 := Tryz.isAgg0
 z0 := Tryz.sizeOf0
 v0 := Tryz.zeroValue0
 t4 := Tryz.underlying4
 a4 := Tryz.isAgg4
 z4 := Tryz.sizeOf4
 v4 := Tryz.zeroValue4
 t5 := Tryz.underlying5
 a5 := Tryz.isAgg5
 z5 := Tryz.sizeOf5
 v5 := Tryz.zeroValue5
 t9 := Tryz.underlying9
 a9 := Tryz.isAgg9
 z9 := Tryz.sizeOf9
 v9 := Tryz.zeroValue9
 t20 := Tryz.underlying20
 a20 := Tryz.isAgg20
 z20 := Tryz.sizeOf20
 v20 := Tryz.zeroValue20
 t37 := Tryz.underlying104
 a37 := Tryz.isAgg104
 z37 := Tryz.sizeOf104
 v37 := Tryz.zeroValue104
 t70 := Tryz.underlying103
 a70 := Tryz.isAgg103
 z70 := Tryz.sizeOf103
 v70 := Tryz.zeroValue103
 t72 := Tryz.underlying106
 a72 := Tryz.isAgg106
 z72 := Tryz.sizeOf106
 v72 := Tryz.zeroValue106
 t75 := Tryz.underlying109
 a75 := Tryz.isAgg109
 z75 := Tryz.sizeOf109
 v75 := Tryz.zeroValue109
 t164 := Tryz.underlying157
 a164 := Tryz.isAgg157
 z164 := Tryz.sizeOf157
 v164 := Tryz.zeroValue157
}
theorem Tryz.Builder_Extra_167 : Builder.Extra Tryz.prog Tryz.lays167_ren := {
 sizeBuilder := by kernel_rfl
 liesBuilder := by kernel_rfl
 t5 := Tryz.underlying5
 a5 := Tryz.isAgg5
 z5 := Tryz.sizeOf5
 v5 := Tryz.zeroValue5
 infoByte := by kernel_rfl
 cellsByte := by kernel_rfl
 sizeByte := by kernel_rfl
 neB5 := by decide }
def Tryz.lays169_ren : Go.Shelf.Ren := ⟨fun | 169 => 45 | n => n, fun | 0 => 0 | 3 => 3 | 4 => 4 | 5 => 5 | 9 => 9 | 20 => 20 | 37 => 104 | 70 => 103 | 72 => 106 | 75 => 109 | 80 => 111 | 127 => 131 | 164 => 157 | n => n, fun | n => n⟩
theorem Tryz.lays169 : Go.Proofs.Lays.n169 Tryz.prog Tryz.lays169_ren := {
 mixed := by kernel_rfl
 f169 := Tryz.func45.trans (congrArg some (by kernel_rfl))
 t0 := Tryz.underlying0
 a0 := Tryz.isAgg0
 z0 := Tryz.sizeOf0
 v0 := Tryz.zeroValue0
 t3 := Tryz.underlying3
 a3 := Tryz.isAgg3
 z3 := Tryz.sizeOf3
 v3 := Tryz.zeroValue3
 t9 := Tryz.underlying9
 a9 := Tryz.isAgg9
 z9 := Tryz.sizeOf9
 v9 := Tryz.zeroValue9
 t37 := Tryz.underlying104
 a37 := Tryz.isAgg104
 z37 := Tryz.sizeOf104
 v37 := Tryz.zeroValue104
 t70 := Tryz.underlying103
 a70 := Tryz.isAgg103
 z70 := Tryz.sizeOf103
 v70 := Tryz.zeroValue103
 t72 := Tryz.underlying106
 a72 := Tryz.isAgg106
 z72 := Tryz.sizeOf106
 v72 := Tryz.zeroValue106
 t127 := Tryz.underlying131
 a127 := Tryz.isAgg131
 z127 := Tryz.sizeOf131
 v127 := Tryz.zeroValue131
}
theorem Tryz.Builder_Extra_169 : Builder.Extra Tryz.prog Tryz.lays169_ren := {
 sizeBuilder := by kernel_rfl
 liesBuilder := by kernel_rfl
 t5 := Tryz.underlying5
 a5 := Tryz.isAgg5
 z5 := Tryz.sizeOf5
 v5 := Tryz.zeroValue5
 infoByte := by kernel_rfl
 cellsByte := by kernel_rfl
 sizeByte := by kernel_rfl
 neB5 := by decide }
open Go.RowKit in
theorem Tryz.Builder_WriteByte_k (B b : Nat) (bs : List Value) (c : Int) (w : World) (h : Lib.IsBuilderF 106 5 B b bs w) (hlen : bs.length + 1 ≤ 140737488355328) (hBw : B ≤ w.heap.size) :
  Calls Tryz.prog 44 #[.pointer (some ⟨b, 0, none⟩), .int .u8 c] w fun e w' => e = .returned .nilIface ∧ (Lib.BuilderAtF 106 5 B b (.pointer (some ⟨b, 0, none⟩)) (bs ++ [.int .u8 c]) w' ∧ Below B w w' ∧ Lib.OthersKept 5 (some b) w w') := Any.Builder_WriteByte_k Tryz.lays167 Tryz.Builder_Extra_167 B b bs c w h hlen hBw
open Go.RowKit in
theorem Tryz.Builder_String_any_k (B b : Nat) (l : List UInt8) (w : World) (h : Lib.IsBuilderF 106 5 B b (Lib.byteCells l) w) (hBw : B ≤ w.heap.size) :
  Calls Tryz.prog 45 #[.pointer (some ⟨b, 0, none⟩)] w fun e w' => e = .returned (.string ⟨l.toArray⟩) ∧ (Lib.IsBuilderF 106 5 B b (Lib.byteCells l) w' ∧ Below B w w' ∧ Lib.OthersKept 5 (some b) w w') := Any.Builder_String_any_k Tryz.lays169 Tryz.Builder_Extra_169 B b l w h hBw
end Go.Proofs
namespace Go.Proofs.YtidhbhdcoanfcaaGreatDoor
open Go.RowKit
namespace LtW
open Bts

def met0 : Array Value := Array.replicate 256 (.bool false)
theorem zero46 (w : World) : (zeroValue 205).run Tryz.prog w = .ok (.agg met0) w := by kernel_rfl
def Met (C : Array Value) (acc : List UInt8) : Prop := C.size = 256 ∧ ∀ b : UInt8, C[b.toNat]? = some (.bool (acc.contains b))
theorem met_start : Met met0 [] := ⟨by simp [met0], fun b => by
 have := b.toNat_lt
 simp [met0, Array.getElem?_replicate]
 omega⟩
theorem met_push {C : Array Value} {acc : List UInt8} (h : Met C acc) (c : UInt8) : Met (C.setIfInBounds c.toNat (.bool true)) (acc ++ [c]) := by
 refine ⟨by rw [Array.size_setIfInBounds]; exact h.1, fun b => ?_⟩
 have hc := c.toNat_lt
 rw [Array.getElem?_setIfInBounds]
 split
 ·rename_i e
  have : c = b := UInt8.toNat_inj.1 e
  subst this
  rw [if_pos (by rw [h.1]; omega)]
  simp
 ·rename_i e
  rw [h.2 b]
  have : ¬ b = c := fun e2 => e (by rw [e2])
  simp [this]
theorem builder_keep {T e : TypeId} {B b : Nat} {bs : List Value} {w w' : World} (h : Lib.IsBuilderF T e B b bs w) (hk : ∀ k, B ≤ k → w'.heap[k]? = w.heap[k]?) : Lib.IsBuilderF T e B b bs w' := by
 have one : ∀ p, Lib.BuilderAtF T e B b p bs w → Lib.BuilderAtF T e B b p bs w' := by
  rintro p ⟨h1, v, h2, h3, h4⟩
  refine ⟨h1, v, by rw [hk b h1]; exact h2, ?_, h4⟩
  obtain ⟨hl, h | ⟨g, cap, cur, fz, rfl, hg, hh, hr⟩⟩ := h3
  ·exact ⟨hl, .inl h⟩
  ·exact ⟨hl, .inr ⟨g, cap, cur, fz, rfl, hg, by rw [hk g hg]; exact hh, hr⟩⟩
 exact h.elim (fun x => .inl (one _ x)) (fun x => .inr (one _ x))

theorem letters_ok (s : ByteArray) (w : World) (hs : s.size ≤ 140737488355328) (ho : VlW.okB s.data.toList = true) :
  Calls Tryz.prog 99 #[.string s] w fun e w' => e = .returned (.tuple #[.string (Wd.str (Wd.uq [] s.data.toList)), .int .i64 0]) ∧ Below w.heap.size w w' := by
 have HI := hide (fun W => VlW.all_any s W (by unfold maxLen; omega))
 rw [ho] at HI
 have hz := zero46
 clear ho
 go_enter Tryz.func99, Tryz.ntmps99
 go_wp2_with (go_at_call 129; refine (unhide HI _).mono ?_; rintro e W1 ⟨rfl, rfl⟩)
 go_loopw [6] (fun i wr => ∃ (k : Nat) (acc : List UInt8) (C : Array Value), k ≤ s.size ∧ i = .int .i64 k ∧ Lib.IsBuilderF 106 5 (W1.heap.size + 1) (W1.heap.size + 1) (Lib.byteCells acc) wr ∧ wr.heap[W1.heap.size]? = some (.cells C 205 (0, 0)) ∧ Hid (Met C acc) ∧ Below W1.heap.size W1 wr ∧ acc.length ≤ k ∧ Hid (Wd.uq acc (s.data.toList.drop k) = Wd.uq [] s.data.toList)) (fun i _ => s.size - (intOf i).toNat)
 case atStart =>
  refine ⟨0, [], met0, Nat.zero_le _, rfl, ?_, ?_, met_start, ((Below.refl _ W1).alloc (Nat.le_refl _) _).alloc (by simp) _, Nat.le_refl _, by rw [Hid, List.drop_zero]⟩
  ·have := Lib.IsBuilderF.of (Lib.fresh_isBuilder 106 5 (W1.alloc (.cells met0 205)))
   simp only [World.size_alloc] at this
   exact this
  ·have := heap_alloc_old (W1.alloc (.cells met0 205)) (.cells #[.pointer none, .slice none 0 0] 106) (r := W1.heap.size) (by simp)
   refine this.trans ?_
   simp [World.alloc, -World.alloc_eq]
 case round =>
  obtain ⟨k, acc, C, hk, rfl, hI, hm, HM, hB, hal, HR⟩ := hrel
  have hsz : W1.heap.size + 1 ≤ wr.heap.size := (Array.getElem?_eq_some_iff.1 hm).1
  by_cases hlt : k < s.size
  ·have hcell : wr.cell? ⟨W1.heap.size, s[k].toNat, none⟩ = some (.bool (acc.contains s[k])) := by
    simp only [World.cell?, hm]
    exact (unhide HM).2 s[k]
   have hfr : wr.frozen? ⟨W1.heap.size, s[k].toNat, none⟩ = false := frozen_of_row wr _ _ C _ hm
   have h256 : (s[k].toNat : Int) < 256 := by have := s[k].toNat_lt; omega
   cases hc : acc.contains s[k] with
   | true =>
    have HS := hide (Wd.uq_again s acc k hlt hc)
    rw [hc] at hcell
    clear hc
    go_wp2
    go_roundw
    case rel => exact ⟨k + 1, acc, C, by omega, by go_num, hI, hm, HM, hB, by omega, by rw [← unhide HS]; exact HR⟩
    case measure => simp [intOf]; omega
   | false =>
    have HS := hide (Wd.uq_new s acc k hlt hc)
    rw [hc] at hcell
    have HM2 := hide (met_push (unhide HM) s[k])
    have hI2 : Lib.IsBuilderF 106 5 (W1.heap.size + 1) (W1.heap.size + 1) (Lib.byteCells acc) (wr.setCell ⟨W1.heap.size, s[k].toNat, none⟩ (.bool true)) := builder_keep hI (fun q hq => heap_setCell_other wr _ q _ (by show q ≠ W1.heap.size; omega))
    have hm2 := heap_setCell_same wr W1.heap.size s[k].toNat C 205 (.bool true) hm
    have HB2 := hide (hB.setCell (p := ⟨W1.heap.size, s[k].toNat, none⟩) (Nat.le_refl _) (.bool true))
    have hsz2 : W1.heap.size + 1 ≤ (wr.setCell ⟨W1.heap.size, s[k].toNat, none⟩ (.bool true)).heap.size := (Array.getElem?_eq_some_iff.1 hm2).1
    have Hm2 := hide hm2
    clear hc HM hm2 hI hB
    go_wp2_with (go_at_call 44; refine (Tryz.Builder_WriteByte_k (W1.heap.size + 1) (W1.heap.size + 1) _ (s[k].toNat : Int) _ hI2 (by rw [Lib.byteCells_length]; omega) hsz2).mono ?_)
    rintro e W2 ⟨rfl, h1, b1, _⟩
    have HB3 := hide ((unhide HB2).trans (b1.mono (by omega)))
    have Hm3 := hide ((b1.block W1.heap.size (by omega)).trans (unhide Hm2))
    clear HB2 Hm2 b1 hI2
    go_wp2
    go_roundw
    case rel => exact ⟨k + 1, acc ++ [s[k]], _, by omega, by go_num, by rw [Lib.byteCells_append]; exact Or.inr h1, unhide Hm3, HM2, unhide HB3, by simp; omega, by rw [← unhide HS]; exact HR⟩
    case measure => simp [intOf]; omega
  ·have HA : Hid (Wd.uq [] s.data.toList = acc) := by rw [Hid, ← unhide HR]; exact Wd.uq_end s acc k (by omega)
   clear HR
   go_wp2_with (go_at_call 45; refine (Tryz.Builder_String_any_k (W1.heap.size + 1) (W1.heap.size + 1) acc _ hI hsz).mono ?_)
   rintro e W2 ⟨rfl, _, b1, _⟩
   go_wp2
   go_ret2
   exact ⟨by rw [unhide HA]; rfl, hB.trans (b1.mono (by omega))⟩
end LtW
namespace LtR
open Bts

theorem letters_bad (s : ByteArray) (w : World) (hs : s.size ≤ 140737488355328) (ho : VlW.okB s.data.toList = false) :
  Calls Tryz.prog 99 #[.string s] w fun e w' => e = .returned (.tuple #[.string ⟨#[]⟩, .int .i64 21]) ∧ w' = w := by
 have HI := hide (fun W => VlW.all_any s W (by unfold maxLen; omega))
 rw [ho] at HI
 clear ho hs
 go_enter Tryz.func99, Tryz.ntmps99
 go_wp2_with (go_at_call 129; refine (unhide HI _).mono ?_; rintro e W1 ⟨rfl, rfl⟩)
 go_ret2
 exact ⟨rfl, rfl⟩

end LtR
namespace RdW

theorem hide {p : Prop} (h : p) : Hid p := h
theorem unhide {p : Prop} (h : Hid p) : p := h

theorem results_tmp4 {fn : Func} {t u v x : Tmp} (h : fn.results = #[.tmp t, .tmp u, .tmp v, .tmp x]) (tmps : Array Value) (P : Program) (w : World) :
  (results fn tmps).run P w = .ok (.tuple #[tmps.getD t undef, tmps.getD u undef, tmps.getD v undef, tmps.getD x undef]) w := by
 simp [results, h]
theorem wrap_small {n : Int} (h0 : 0 ≤ n) (h1 : n ≤ 9223372036854775807) : IntKind.i64.wrap n = n := by
 simp [IntKind.wrap, IntKind.signed, IntKind.bits]; omega

def ans : Option (List UInt8 × List UInt8 × Bool) → Value
 | some (a, r, c) => .tuple #[.string (Wd.str a), .string (Wd.str r), .bool c, .int .i64 0]
 | none => .tuple #[.string ⟨#[]⟩, .string ⟨#[]⟩, .bool false, .int .i64 20]

theorem needs_true (b : UInt8) (w : World) (h : Wd.esc b = true) : Calls Tryz.prog 43 #[.int .u8 (b.toNat : Int)] w fun e w' => e = .returned (.bool true) ∧ w' = w := by
 rcases Wd.esc_cases h with h | h | h
 all_goals
  rw [h]
  clear h
  go_enter Tryz.func43, Tryz.ntmps43
  go_wp2
  go_ret
  exact ⟨rfl, rfl⟩
theorem needs_false (b : UInt8) (w : World) (h : Wd.esc b = false) : Calls Tryz.prog 43 #[.int .u8 (b.toNat : Int)] w fun e w' => e = .returned (.bool false) ∧ w' = w := by
 obtain ⟨h1, h2, h3⟩ := Wd.esc_none h
 clear h
 have e1 : ((b.toNat : Int) == 92) = false := by rw [beq_eq_false_iff_ne]; omega
 have e2 : ((b.toNat : Int) == 47) = false := by rw [beq_eq_false_iff_ne]; omega
 have e3 : ((b.toNat : Int) == 35) = false := by rw [beq_eq_false_iff_ne]; omega
 clear h1 h2 h3
 go_enter Tryz.func43, Tryz.ntmps43
 go_wp2
 go_ret
 exact ⟨rfl, rfl⟩

theorem read_any (s : ByteArray) (w : World) (hs : s.size ≤ 140737488355328) :
  Calls Tryz.prog 113 #[.string s] w fun e w' => e = .returned (ans (Wd.rd [] s.data.toList)) ∧ Below w.heap.size w w' := by
 go_enter Tryz.func113, Tryz.ntmps113
 go_wp2
 go_loopw [7] (fun i wr => ∃ (k : Nat) (acc : List UInt8), k ≤ s.size ∧ i = .int .i64 k ∧ Lib.IsBuilderF 106 5 w.heap.size w.heap.size (Lib.byteCells acc) wr ∧ Below w.heap.size w wr ∧ acc.length ≤ k ∧ Hid (Wd.rd acc (s.data.toList.drop k) = Wd.rd [] s.data.toList)) (fun i _ => s.size - (intOf i).toNat)
 case atStart => exact ⟨0, [], Nat.zero_le _, rfl, Lib.IsBuilderF.of (Lib.fresh_isBuilder 106 5 w), (Below.refl _ w).alloc (Nat.le_refl _) _, Nat.le_refl _, Wd.rd_start s⟩
 case round =>
  obtain ⟨k, acc, hk, rfl, hI, hB, hal, HR⟩ := hrel
  have hsz := hB.size
  by_cases hlt : k < s.size
  ·by_cases h47 : s[k].toNat = 47
   ·have HA : Hid (ans (Wd.rd [] s.data.toList) = .tuple #[.string (Wd.str acc), .string (s.extract (k + 1) s.size), .bool true, .int .i64 0]) := by rw [Hid, ← unhide HR, Wd.rd_cut s acc k hlt h47, Wd.extract_end]; rfl
    have hq : ((s[k].toNat : Int) == 47) = true := by rw [beq_iff_eq]; omega
    have hk1 : (k : Int) + 1 ≤ (s.size : Int) := by omega
    have hwr : IntKind.i64.wrap ((k : Int) + 1) = (k : Int) + 1 := wrap_small (by omega) (by omega)
    have hI1 : Lib.IsBuilderF 106 5 w.heap.size w.heap.size (Lib.byteCells acc) wr.drew := hI
    have hsz1 : w.heap.size ≤ wr.drew.heap.size := hsz
    clear h47 HR
    go_wp2
    go_region_with (go_at_call 45; refine (Tryz.Builder_String_any_k w.heap.size w.heap.size acc _ hI1 hsz1).mono ?_; rintro e W1 ⟨rfl, _, b1, _⟩)
    all_goals
     go_wp2
     (try simp only [Exit.inBlock, Exit.then])
     refine bodyPost_ret (results_tmp4 rfl _ _ _) rfl ?_
     refine ⟨?_, hB.trans ⟨b1.os, b1.tape, b1.output, b1.size, b1.block⟩⟩
     rw [unhide HA]
     rfl
   ·by_cases h92 : s[k].toNat = 92
    ·have hq : ((s[k].toNat : Int) == 47) = false := by rw [beq_eq_false_iff_ne]; omega
     have hq2 : ((s[k].toNat : Int) == 92) = true := by rw [beq_iff_eq]; omega
     by_cases h1 : k + 1 < s.size
     ·cases he : Wd.esc s[k + 1] with
      | true =>
       have HS := hide (Wd.rd_esc s acc k hlt h92 h1 he)
       have HN := hide (fun W => needs_true s[k + 1] W he)
       have hne : (((k : Int) + 1) == (s.size : Int)) = false := by rw [beq_eq_false_iff_ne]; omega
       clear h47 h92 he
       go_wp2_with (go_at_call 43; refine (unhide HN _).mono ?_; rintro e W1 ⟨rfl, rfl⟩)
       refine (Tryz.Builder_WriteByte_k w.heap.size w.heap.size _ (s[k + 1].toNat : Int) _ hI (by rw [Lib.byteCells_length]; omega) hsz).mono ?_
       rintro e W2 ⟨rfl, h2, b1, _⟩
       go_wp2
       go_roundw
       case rel => exact ⟨k + 2, acc ++ [s[k + 1]], by omega, by go_num, by rw [Lib.byteCells_append]; exact Or.inr h2, hB.trans b1, by simp; omega, by rw [← unhide HS]; exact HR⟩
       case measure => simp [intOf]; omega
      | false =>
       have HA : Hid (ans (Wd.rd [] s.data.toList) = .tuple #[.string ⟨#[]⟩, .string ⟨#[]⟩, .bool false, .int .i64 20]) := by rw [Hid, ← unhide HR, Wd.rd_bad s acc k hlt h92 h1 he]; rfl
       have HN := hide (fun W => needs_false s[k + 1] W he)
       have hne : (((k : Int) + 1) == (s.size : Int)) = false := by rw [beq_eq_false_iff_ne]; omega
       clear h47 h92 he HR
       go_wp2_with (go_at_call 43; refine (unhide HN _).mono ?_; rintro e W1 ⟨rfl, rfl⟩)
       (try simp only [Exit.inBlock, Exit.then])
       refine bodyPost_ret (results_tmp4 rfl _ _ _) rfl ?_
       exact ⟨by rw [unhide HA]; rfl, hB⟩
     ·have HA : Hid (ans (Wd.rd [] s.data.toList) = .tuple #[.string ⟨#[]⟩, .string ⟨#[]⟩, .bool false, .int .i64 20]) := by rw [Hid, ← unhide HR, Wd.rd_last s acc k hlt h92 (by omega)]; rfl
      have hne : (((k : Int) + 1) == (s.size : Int)) = true := by rw [beq_iff_eq]; omega
      clear h47 h92 HR
      go_wp2
      (try simp only [Exit.inBlock, Exit.then])
      refine bodyPost_ret (results_tmp4 rfl _ _ _) rfl ?_
      exact ⟨by rw [unhide HA]; rfl, hB⟩
    ·have HS := hide (Wd.rd_plain s acc k hlt h47 h92)
     have hq : ((s[k].toNat : Int) == 47) = false := by rw [beq_eq_false_iff_ne]; omega
     have hq2 : ((s[k].toNat : Int) == 92) = false := by rw [beq_eq_false_iff_ne]; omega
     clear h47 h92
     go_wp2_with (go_at_call 44; refine (Tryz.Builder_WriteByte_k w.heap.size w.heap.size _ (s[k].toNat : Int) _ hI (by rw [Lib.byteCells_length]; omega) hsz).mono ?_)
     rintro e W1 ⟨rfl, h1, b1, _⟩
     go_wp2
     go_roundw
     case rel => exact ⟨k + 1, acc ++ [s[k]], by omega, by go_num, by rw [Lib.byteCells_append]; exact Or.inr h1, hB.trans b1, by simp; omega, by rw [← unhide HS]; exact HR⟩
     case measure => simp [intOf]; omega
  ·have HA : Hid (ans (Wd.rd [] s.data.toList) = .tuple #[.string (Wd.str acc), .string ⟨#[]⟩, .bool false, .int .i64 0]) := by rw [Hid, ← unhide HR, Wd.rd_end s acc k (by omega)]; rfl
   clear HR
   go_wp2_with (go_at_call 45; refine (Tryz.Builder_String_any_k w.heap.size w.heap.size acc _ hI hsz).mono ?_)
   rintro e W1 ⟨rfl, _, b1, _⟩
   go_wp2
   (try simp only [Exit.inBlock, Exit.then])
   refine bodyPost_ret (results_tmp4 rfl _ _ _) rfl ?_
   exact ⟨by rw [unhide HA]; rfl, hB.trans b1⟩

end RdW
end Go.Proofs.YtidhbhdcoanfcaaGreatDoor

