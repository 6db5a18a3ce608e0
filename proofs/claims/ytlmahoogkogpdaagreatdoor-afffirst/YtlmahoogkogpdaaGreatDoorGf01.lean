/- Contracts: words.Valid and the document's Valid answer whether a text is a word, for every text; nothing in memory turns. -/
import Derived.Test.YtlmahoogkogpdaaGreatDoorChecked
import Derived.Test.YtlmahoogkogpdaaGreatDoorGf00
import Derived.WalkKit
import Derived.WalkSpells
import Derived.WalkLawsBesides
import Derived.Deep.QuietTactic
import Derived.BigQuiet
import Derived.BigCall
import Derived.Deep.DeepFit
import Derived.Lib.Strings
import Derived.Shelf.Strings.BuilderK
import Derived.Test.YtlmahoogkogpdaaGreatDoorProg
import Derived.Maps.AppendAt
import Derived.Laws.IdiomStrings
import Derived.Laws.BytesArg
import Derived.Laws.Rows
namespace Go.Proofs.YtlmahoogkogpdaaGreatDoor
open Go.RowKit
namespace VlW

theorem hide {p : Prop} (h : p) : Hid p := h
theorem unhide {p : Prop} (h : Hid p) : p := h

set_option maxHeartbeats 400000 in
theorem is_any (b : UInt8) (w : World) : Calls Tryz.prog 135 #[.int .u8 (b.toNat : Int)] w fun e w' => e = .returned (.bool (Wd.fit b)) ∧ w' = w := by
  by_cases h1 : 32 < (b.toNat : Int)
  · by_cases h2 : (b.toNat : Int) = 127
    · rw [Wd.unfit_del h2]
      have e2 : ((b.toNat : Int) != 127) = false := by rw [h2]; rfl
      clear h2
      go_enter Tryz.func135, Tryz.ntmps135
      go_wp2
      go_ret
      exact ⟨rfl, rfl⟩
    · rw [Wd.fit_of h1 h2]
      have e2 : ((b.toNat : Int) != 127) = true := by rw [bne_iff_ne]; exact h2
      clear h2
      go_enter Tryz.func135, Tryz.ntmps135
      go_wp2
      go_ret
      exact ⟨rfl, rfl⟩
  · rw [Wd.unfit_lo (by omega)]
    go_enter Tryz.func135, Tryz.ntmps135
    go_wp2
    go_ret
    exact ⟨rfl, rfl⟩

theorem retb {a b : Bool} (h : a = b) : Ending.returned (.bool a) = .returned (.bool b) := by rw [h]
/-- not empty, and all word bytes -/
def okB (l : List UInt8) : Bool := !l.isEmpty && l.all Wd.fit
theorem okB_bad {l : List UInt8} (h : l.all Wd.fit = false) : okB l = false := by unfold okB; rw [h, Bool.and_false]
theorem okB_all {s : ByteArray} (h : s.data.toList.all Wd.fit = true) : okB s.data.toList = !s.toList.isEmpty := by unfold okB; rw [h, Bool.and_true, Lib.toList_data]

set_option maxHeartbeats 1000000 in
theorem all_any (s : ByteArray) (w : World) (hs : s.size ≤ maxLen) :
    Calls Tryz.prog 108 #[.string s] w fun e w' => e = .returned (.bool (okB s.data.toList)) ∧ w' = w := by
  unfold maxLen at hs
  go_enter Tryz.func108, Tryz.ntmps108
  go_wp2
  go_loop [3] (fun i => ∃ k : Nat, k ≤ s.size ∧ i = .int .i64 k ∧ Hid ((s.data.toList.take k).all Wd.fit = true)) (fun i => s.size - (intOf i).toNat)
  case atStart => exact ⟨0, Nat.zero_le _, rfl, rfl⟩
  case round =>
    obtain ⟨k, hk, rfl, HD⟩ := hrel
    by_cases hlt : k < s.size
    · cases hf : Wd.fit s[k] with
      | true =>
        have HS := hide (Wd.all_step s k hlt (unhide HD) hf)
        have HN := hide (fun W => is_any s[k] W)
        rw [hf] at HN
        clear hf
        go_wp2_with (go_at_call 135; refine (unhide HN _).mono ?_; rintro e W1 ⟨rfl, rfl⟩)
        go_round
        case rel => exact ⟨k + 1, by omega, by go_num, HS⟩
        case measure => simp [intOf]; omega
      | false =>
        have HS := hide (okB_bad (Wd.all_bad s k hlt hf))
        have HN := hide (fun W => is_any s[k] W)
        rw [hf] at HN
        clear hf
        go_wp2_with (go_at_call 135; refine (unhide HN _).mono ?_; rintro e W1 ⟨rfl, rfl⟩)
        go_ret
        exact ⟨retb (unhide HS).symm, rfl⟩
    · have HA : Hid (s.data.toList.all Wd.fit = true) := by rw [Hid, ← Wd.take_full s k (by omega)]; exact unhide HD
      clear HD
      have HE := hide (okB_all (unhide HA))
      go_wp2
      go_ret
      exact ⟨retb (unhide HE).symm, rfl⟩

/-- a word -/
def isW (s : ByteArray) : Bool := decide (s.size ≤ 64) && okB s.data.toList
theorem isW_big {s : ByteArray} (h : ¬ s.size ≤ 64) : isW s = false := by simp [isW, h]
theorem isW_small {s : ByteArray} (h : s.size ≤ 64) : isW s = okB s.data.toList := by simp [isW, h]
theorem isW_empty {s : ByteArray} (h : s.size < 1) : isW s = false := by
  have hl : s.data.toList.length = s.size := by simp
  have : s.data.toList = [] := List.eq_nil_of_length_eq_zero (by omega)
  unfold isW okB
  rw [this]; simp
theorem isW_mid {s : ByteArray} (h : s.size ≤ 64) (h0 : ¬ s.size < 1) : isW s = s.data.toList.all Wd.fit := by
  rw [isW_small h]
  unfold okB
  cases he : s.data.toList with
  | nil => have : s.data.toList.length = s.size := by simp
           rw [he] at this; simp at this; omega
  | cons a t => simp

end VlW
end Go.Proofs.YtlmahoogkogpdaaGreatDoor
/- Contracts of strings.Builder (WriteByte, String), of the shelf, laid at this program: no walk of ours. -/
namespace Go.Proofs
open Go.Shelf
def Tryz.lays167_ren : Go.Shelf.Ren := ⟨fun | 167 => 109 | 240 => 87 | 276 => 116 | n => n, fun | 0 => 0 | 3 => 3 | 4 => 4 | 5 => 5 | 9 => 9 | 20 => 20 | 37 => 101 | 70 => 119 | 72 => 121 | 75 => 124 | 80 => 127 | 127 => 146 | 164 => 174 | n => n, fun | n => n⟩
theorem Tryz.lays167 : Go.Proofs.Lays.n167 Tryz.prog Tryz.lays167_ren := {
  mixed := by kernel_rfl
  f167 := Tryz.func109.trans (congrArg some (by kernel_rfl))
  f240 := Tryz.func87.trans (congrArg some (by kernel_rfl))
  f276 := Tryz.func116.trans (congrArg some (by kernel_rfl))
  t0 := Tryz.underlying0
  a0 := Tryz.isAgg0
  z0 := Tryz.sizeOf0
  v0 := Tryz.zeroValue0
  t4 := Tryz.underlying4
  a4 := Tryz.isAgg4
  z4 := Tryz.sizeOf4
  v4 := Tryz.zeroValue4
  t5 := Tryz.underlying5
  a5 := Tryz.isAgg5
  z5 := Tryz.sizeOf5
  v5 := Tryz.zeroValue5
  t9 := Tryz.underlying9
  a9 := Tryz.isAgg9
  z9 := Tryz.sizeOf9
  v9 := Tryz.zeroValue9
  t20 := Tryz.underlying20
  a20 := Tryz.isAgg20
  z20 := Tryz.sizeOf20
  v20 := Tryz.zeroValue20
  t37 := Tryz.underlying101
  a37 := Tryz.isAgg101
  z37 := Tryz.sizeOf101
  v37 := Tryz.zeroValue101
  t70 := Tryz.underlying119
  a70 := Tryz.isAgg119
  z70 := Tryz.sizeOf119
  v70 := Tryz.zeroValue119
  t72 := Tryz.underlying121
  a72 := Tryz.isAgg121
  z72 := Tryz.sizeOf121
  v72 := Tryz.zeroValue121
  t75 := Tryz.underlying124
  a75 := Tryz.isAgg124
  z75 := Tryz.sizeOf124
  v75 := Tryz.zeroValue124
  t164 := Tryz.underlying174
  a164 := Tryz.isAgg174
  z164 := Tryz.sizeOf174
  v164 := Tryz.zeroValue174
}
theorem Tryz.Builder_Extra_167 : Builder.Extra Tryz.prog Tryz.lays167_ren := {
  sizeBuilder := by kernel_rfl
  liesBuilder := by kernel_rfl
  t5 := Tryz.underlying5
  a5 := Tryz.isAgg5
  z5 := Tryz.sizeOf5
  v5 := Tryz.zeroValue5
  infoByte := by kernel_rfl
  cellsByte := by kernel_rfl
  sizeByte := by kernel_rfl
  neB5 := by decide }
def Tryz.lays169_ren : Go.Shelf.Ren := ⟨fun | 169 => 68 | n => n, fun | 0 => 0 | 3 => 3 | 4 => 4 | 5 => 5 | 9 => 9 | 20 => 20 | 37 => 101 | 70 => 119 | 72 => 121 | 75 => 124 | 80 => 127 | 127 => 146 | 164 => 174 | n => n, fun | n => n⟩
theorem Tryz.lays169 : Go.Proofs.Lays.n169 Tryz.prog Tryz.lays169_ren := {
  mixed := by kernel_rfl
  f169 := Tryz.func68.trans (congrArg some (by kernel_rfl))
  t0 := Tryz.underlying0
  a0 := Tryz.isAgg0
  z0 := Tryz.sizeOf0
  v0 := Tryz.zeroValue0
  t3 := Tryz.underlying3
  a3 := Tryz.isAgg3
  z3 := Tryz.sizeOf3
  v3 := Tryz.zeroValue3
  t9 := Tryz.underlying9
  a9 := Tryz.isAgg9
  z9 := Tryz.sizeOf9
  v9 := Tryz.zeroValue9
  t37 := Tryz.underlying101
  a37 := Tryz.isAgg101
  z37 := Tryz.sizeOf101
  v37 := Tryz.zeroValue101
  t70 := Tryz.underlying119
  a70 := Tryz.isAgg119
  z70 := Tryz.sizeOf119
  v70 := Tryz.zeroValue119
  t72 := Tryz.underlying121
  a72 := Tryz.isAgg121
  z72 := Tryz.sizeOf121
  v72 := Tryz.zeroValue121
  t127 := Tryz.underlying146
  a127 := Tryz.isAgg146
  z127 := Tryz.sizeOf146
  v127 := Tryz.zeroValue146
}
theorem Tryz.Builder_Extra_169 : Builder.Extra Tryz.prog Tryz.lays169_ren := {
  sizeBuilder := by kernel_rfl
  liesBuilder := by kernel_rfl
  t5 := Tryz.underlying5
  a5 := Tryz.isAgg5
  z5 := Tryz.sizeOf5
  v5 := Tryz.zeroValue5
  infoByte := by kernel_rfl
  cellsByte := by kernel_rfl
  sizeByte := by kernel_rfl
  neB5 := by decide }
open Go.RowKit in
theorem Tryz.Builder_WriteByte_k (B b : Nat) (bs : List Value) (c : Int) (w : World) (h : Lib.IsBuilderF 121 5 B b bs w) (hlen : bs.length + 1 ≤ 140737488355328) (hBw : B ≤ w.heap.size) :
    Calls Tryz.prog 109 #[.pointer (some ⟨b, 0, none⟩), .int .u8 c] w fun e w' => e = .returned .nilIface ∧ (Lib.BuilderAtF 121 5 B b (.pointer (some ⟨b, 0, none⟩)) (bs ++ [.int .u8 c]) w' ∧ Below B w w' ∧ Lib.OthersKept 5 (some b) w w') := Any.Builder_WriteByte_k Tryz.lays167 Tryz.Builder_Extra_167 B b bs c w h hlen hBw
open Go.RowKit in
theorem Tryz.Builder_String_any_k (B b : Nat) (l : List UInt8) (w : World) (h : Lib.IsBuilderF 121 5 B b (Lib.byteCells l) w) (hBw : B ≤ w.heap.size) :
    Calls Tryz.prog 68 #[.pointer (some ⟨b, 0, none⟩)] w fun e w' => e = .returned (.string ⟨l.toArray⟩) ∧ (Lib.IsBuilderF 121 5 B b (Lib.byteCells l) w' ∧ Below B w w' ∧ Lib.OthersKept 5 (some b) w w') := Any.Builder_String_any_k Tryz.lays169 Tryz.Builder_Extra_169 B b l w h hBw
end Go.Proofs
/- Small laws on lists of bytes that a call owns; no walk. -/
namespace Go.Proofs.YtlmahoogkogpdaaGreatDoor
open Go.RowKit
namespace Bts

theorem hide {p : Prop} (h : p) : Hid p := h
theorem unhide {p : Prop} (h : Hid p) : p := h
def bytes (l : List UInt8) : List Value := l.map fun b => Value.int .u8 (b.toNat : Int)
theorem bytes_length (l : List UInt8) : (bytes l).length = l.length := by simp [bytes]
theorem bytes_snoc (l : List UInt8) (c : UInt8) : bytes (l ++ [c]) = bytes l ++ [.int .u8 (c.toNat : Int)] := by simp [bytes]
theorem info5 : (Tryz.prog.info? 5).map (fun i => (i.zero, i.size, i.bytes)) = some (some (.int .u8 0), 1, 1) := by kernel_rfl
theorem below_push {w wr w1 : World} {e : TypeId} {v : Value} {n : Nat} {xs : List Value} {o : Obj} (hown : wr.ownsRow w.heap.size e 1 v n xs) (hB : Below w.heap.size w wr) (hg : (wr.alloc o).grownBy w1 v.ownBlock) : Below w.heap.size w w1 :=
  (hB.alloc hB.size o).grown hg (by have := hB.size; simp; omega) (fun k e => (hown.lt k e).1)
theorem owns_push {w1 : World} {B : Nat} {v : Value} {L : List UInt8} {c : UInt8} {x : Int} (hx : (c.toNat : Int) = x) (h : w1.ownsRow B 5 1 v (L.length + 1) (bytes L ++ [.int .u8 x])) : w1.ownsRow B 5 1 v (L ++ [c]).length (bytes (L ++ [c])) := by
  rw [bytes_snoc, hx, List.length_append]
  exact h
theorem owns_made (w : World) : (w.alloc (.cells #[] 5)).ownsRow w.heap.size 5 1 (.slice (some ⟨w.heap.size, 0, none⟩) 0 0) ([] : List UInt8).length (bytes []) := World.ownsRow_made w #[] 0 (Nat.le_refl _) (by simp) rfl

theorem add_zero_off (g j : Nat) : (⟨g, 0, none⟩ : Addr).add j = ⟨g, j, none⟩ := by
  unfold Addr.add
  split
  · rename_i h; subst h; rfl
  · simp
theorem owns_cells {w : World} {B : Nat} {v : Value} {L : List UInt8} (h : w.ownsRow B 5 1 v L.length (bytes L)) (h0 : 0 < L.length) :
    ∃ g cap, v = .slice (some ⟨g, 0, none⟩) L.length cap ∧ g < w.heap.size ∧ ∀ j x, L[j]? = some x → w.cell? ⟨g, j, none⟩ = some (.int .u8 (x.toNat : Int)) := by
  have hc := h
  obtain ⟨hl, ⟨rfl, h1⟩ | ⟨g, cap, cur, rfl, hg, hh, hc1, hm, hsz, htk⟩⟩ := h
  · omega
  · refine ⟨g, cap, rfl, (Array.getElem?_eq_some_iff.1 hh).1, fun j x hj => ?_⟩
    have := hc.cells (g := g) rfl j (.int .u8 (x.toNat : Int)) (by simp [bytes, hj])
    rwa [add_zero_off] at this
theorem conv_owns {w : World} {B : Nat} {v : Value} {L : List UInt8} (h : w.ownsRow B 5 1 v L.length (bytes L)) :
    (convert 101 9 v).run Tryz.prog w = .ok (.string (Wd.str L)) w := by
  by_cases h0 : 0 < L.length
  · obtain ⟨g, cap, rfl, _, hcell⟩ := owns_cells h h0
    exact run_convert_bytes_back w 101 9 5 ⟨g, 0, none⟩ cap L Tryz.underlying101 Tryz.underlying5 Tryz.underlying9 (fun j hj => by rw [add_zero_off]; exact hcell j _ (List.getElem?_eq_getElem hj))
  · have : L = [] := List.eq_nil_of_length_eq_zero (by omega)
    subst this
    obtain ⟨hl, ⟨rfl, h1⟩ | ⟨g, cap, cur, rfl, hg, hh, hc1, hm, hsz, htk⟩⟩ := h
    · exact run_convert_bytes_nil w 101 5 Tryz.underlying101 Tryz.underlying5 0 0 9 Tryz.underlying9
    · exact run_convert_bytes_back w 101 9 5 ⟨g, 0, none⟩ cap [] Tryz.underlying101 Tryz.underlying5 Tryz.underlying9 (fun j hj => absurd hj (by simp))
end Bts
end Go.Proofs.YtlmahoogkogpdaaGreatDoor
/- Contract: words.Letters answers each byte once, where it stands first, or the error; nothing old in memory turns. -/
namespace Go.Proofs.YtlmahoogkogpdaaGreatDoor
open Go.RowKit
namespace LtW
open Bts

def met0 : Array Value := Array.replicate 256 (.bool false)
theorem zero46 (w : World) : (zeroValue 166).run Tryz.prog w = .ok (.agg met0) w := by kernel_rfl
/-- the marks of the bytes that were met -/
def Met (C : Array Value) (acc : List UInt8) : Prop := C.size = 256 ∧ ∀ b : UInt8, C[b.toNat]? = some (.bool (acc.contains b))
theorem met_start : Met met0 [] := ⟨by simp [met0], fun b => by
  have := b.toNat_lt
  simp [met0, Array.getElem?_replicate]
  omega⟩
theorem met_push {C : Array Value} {acc : List UInt8} (h : Met C acc) (c : UInt8) : Met (C.setIfInBounds c.toNat (.bool true)) (acc ++ [c]) := by
  refine ⟨by rw [Array.size_setIfInBounds]; exact h.1, fun b => ?_⟩
  have hc := c.toNat_lt
  rw [Array.getElem?_setIfInBounds]
  split
  · rename_i e
    have : c = b := UInt8.toNat_inj.1 e
    subst this
    rw [if_pos (by rw [h.1]; omega)]
    simp
  · rename_i e
    rw [h.2 b]
    have : ¬ b = c := fun e2 => e (by rw [e2])
    simp [this]
theorem builder_keep {T e : TypeId} {B b : Nat} {bs : List Value} {w w' : World} (h : Lib.IsBuilderF T e B b bs w) (hk : ∀ k, B ≤ k → w'.heap[k]? = w.heap[k]?) : Lib.IsBuilderF T e B b bs w' := by
  have one : ∀ p, Lib.BuilderAtF T e B b p bs w → Lib.BuilderAtF T e B b p bs w' := by
    rintro p ⟨h1, v, h2, h3, h4⟩
    refine ⟨h1, v, by rw [hk b h1]; exact h2, ?_, h4⟩
    obtain ⟨hl, h | ⟨g, cap, cur, fz, rfl, hg, hh, hr⟩⟩ := h3
    · exact ⟨hl, .inl h⟩
    · exact ⟨hl, .inr ⟨g, cap, cur, fz, rfl, hg, by rw [hk g hg]; exact hh, hr⟩⟩
  exact h.elim (fun x => .inl (one _ x)) (fun x => .inr (one _ x))

set_option maxHeartbeats 2000000 in
set_option maxRecDepth 100000 in
theorem letters_ok (s : ByteArray) (w : World) (hs : s.size ≤ 140737488355328) (ho : VlW.okB s.data.toList = true) :
    Calls Tryz.prog 78 #[.string s] w fun e w' => e = .returned (.tuple #[.string (Wd.str (Wd.uq [] s.data.toList)), .int .i64 0]) ∧ Below w.heap.size w w' := by
  have HI := hide (fun W => VlW.all_any s W (by unfold maxLen; omega))
  rw [ho] at HI
  have hz := zero46
  clear ho
  go_enter Tryz.func78, Tryz.ntmps78
  go_wp2_with (go_at_call 108; refine (unhide HI _).mono ?_; rintro e W1 ⟨rfl, rfl⟩)
  go_loopw [6] (fun i wr => ∃ (k : Nat) (acc : List UInt8) (C : Array Value), k ≤ s.size ∧ i = .int .i64 k ∧ Lib.IsBuilderF 121 5 (W1.heap.size + 1) (W1.heap.size + 1) (Lib.byteCells acc) wr ∧ wr.heap[W1.heap.size]? = some (.cells C 166 (0, 0)) ∧ Hid (Met C acc) ∧ Below W1.heap.size W1 wr ∧ acc.length ≤ k ∧ Hid (Wd.uq acc (s.data.toList.drop k) = Wd.uq [] s.data.toList)) (fun i _ => s.size - (intOf i).toNat)
  case atStart =>
    refine ⟨0, [], met0, Nat.zero_le _, rfl, ?_, ?_, met_start, ((Below.refl _ W1).alloc (Nat.le_refl _) _).alloc (by simp) _, Nat.le_refl _, by rw [Hid, List.drop_zero]⟩
    · have := Lib.IsBuilderF.of (Lib.fresh_isBuilder 121 5 (W1.alloc (.cells met0 166)))
      simp only [World.size_alloc] at this
      exact this
    · have := heap_alloc_old (W1.alloc (.cells met0 166)) (.cells #[.pointer none, .slice none 0 0] 121) (r := W1.heap.size) (by simp)
      refine this.trans ?_
      simp [World.alloc, -World.alloc_eq]
  case round =>
    obtain ⟨k, acc, C, hk, rfl, hI, hm, HM, hB, hal, HR⟩ := hrel
    have hsz : W1.heap.size + 1 ≤ wr.heap.size := (Array.getElem?_eq_some_iff.1 hm).1
    by_cases hlt : k < s.size
    · have hcell : wr.cell? ⟨W1.heap.size, s[k].toNat, none⟩ = some (.bool (acc.contains s[k])) := by
        simp only [World.cell?, hm]
        exact (unhide HM).2 s[k]
      have hfr : wr.frozen? ⟨W1.heap.size, s[k].toNat, none⟩ = false := frozen_of_row wr _ _ C _ hm
      have h256 : (s[k].toNat : Int) < 256 := by have := s[k].toNat_lt; omega
      cases hc : acc.contains s[k] with
      | true =>
        have HS := hide (Wd.uq_again s acc k hlt hc)
        rw [hc] at hcell
        clear hc
        go_wp2
        go_roundw
        case rel => exact ⟨k + 1, acc, C, by omega, by go_num, hI, hm, HM, hB, by omega, by rw [← unhide HS]; exact HR⟩
        case measure => simp [intOf]; omega
      | false =>
        have HS := hide (Wd.uq_new s acc k hlt hc)
        rw [hc] at hcell
        have HM2 := hide (met_push (unhide HM) s[k])
        have hI2 : Lib.IsBuilderF 121 5 (W1.heap.size + 1) (W1.heap.size + 1) (Lib.byteCells acc) (wr.setCell ⟨W1.heap.size, s[k].toNat, none⟩ (.bool true)) := builder_keep hI (fun q hq => heap_setCell_other wr _ q _ (by show q ≠ W1.heap.size; omega))
        have hm2 := heap_setCell_same wr W1.heap.size s[k].toNat C 166 (.bool true) hm
        have HB2 := hide (hB.setCell (p := ⟨W1.heap.size, s[k].toNat, none⟩) (Nat.le_refl _) (.bool true))
        have hsz2 : W1.heap.size + 1 ≤ (wr.setCell ⟨W1.heap.size, s[k].toNat, none⟩ (.bool true)).heap.size := (Array.getElem?_eq_some_iff.1 hm2).1
        have Hm2 := hide hm2
        clear hc HM hm2 hI hB
        go_wp2_with (go_at_call 109; refine (Tryz.Builder_WriteByte_k (W1.heap.size + 1) (W1.heap.size + 1) _ (s[k].toNat : Int) _ hI2 (by rw [Lib.byteCells_length]; omega) hsz2).mono ?_)
        rintro e W2 ⟨rfl, h1, b1, _⟩
        have HB3 := hide ((unhide HB2).trans (b1.mono (by omega)))
        have Hm3 := hide ((b1.block W1.heap.size (by omega)).trans (unhide Hm2))
        clear HB2 Hm2 b1 hI2
        go_wp2
        go_roundw
        case rel => exact ⟨k + 1, acc ++ [s[k]], _, by omega, by go_num, by rw [Lib.byteCells_append]; exact Or.inr h1, unhide Hm3, HM2, unhide HB3, by simp; omega, by rw [← unhide HS]; exact HR⟩
        case measure => simp [intOf]; omega
    · have HA : Hid (Wd.uq [] s.data.toList = acc) := by rw [Hid, ← unhide HR]; exact Wd.uq_end s acc k (by omega)
      clear HR
      go_wp2_with (go_at_call 68; refine (Tryz.Builder_String_any_k (W1.heap.size + 1) (W1.heap.size + 1) acc _ hI hsz).mono ?_)
      rintro e W2 ⟨rfl, _, b1, _⟩
      go_wp2
      go_ret2
      exact ⟨by rw [unhide HA]; rfl, hB.trans (b1.mono (by omega))⟩
end LtW
end Go.Proofs.YtlmahoogkogpdaaGreatDoor
/- Contract: words.Letters of a text that has none, and the document's Letters; nothing old in memory turns. -/
namespace Go.Proofs.YtlmahoogkogpdaaGreatDoor
open Go.RowKit
namespace LtR
open Bts

set_option maxHeartbeats 1000000 in
theorem letters_bad (s : ByteArray) (w : World) (hs : s.size ≤ 140737488355328) (ho : VlW.okB s.data.toList = false) :
    Calls Tryz.prog 78 #[.string s] w fun e w' => e = .returned (.tuple #[.string ⟨#[]⟩, .int .i64 21]) ∧ w' = w := by
  have HI := hide (fun W => VlW.all_any s W (by unfold maxLen; omega))
  rw [ho] at HI
  clear ho hs
  go_enter Tryz.func78, Tryz.ntmps78
  go_wp2_with (go_at_call 108; refine (unhide HI _).mono ?_; rintro e W1 ⟨rfl, rfl⟩)
  go_ret2
  exact ⟨rfl, rfl⟩

theorem okB_empty {s : ByteArray} (h : s.size = 0) : VlW.okB s.data.toList = false := by
  have hl : s.data.toList.length = s.size := by simp
  have : s.data.toList = [] := List.eq_nil_of_length_eq_zero (by omega)
  rw [this]; rfl
theorem okB_some {s : ByteArray} (h : s.size ≠ 0) : VlW.okB s.data.toList = s.data.toList.all Wd.fit := by
  have hl : s.data.toList.length = s.size := by simp
  unfold VlW.okB
  cases he : s.data.toList with
  | nil => rw [he] at hl; simp at hl; omega
  | cons a t => simp
theorem owns_form {w : World} {B : Nat} {v : Value} {L : List UInt8} (h : w.ownsRow B 5 1 v L.length (Bts.bytes L)) :
    ∃ ao cap, v = .slice ao L.length cap ∧ ∀ j x, L[j]? = some x → ∃ g, ao = some ⟨g, 0, none⟩ ∧ w.cell? ⟨g, j, none⟩ = some (.int .u8 (x.toNat : Int)) := by
  by_cases h0 : 0 < L.length
  · obtain ⟨g, cap, rfl, _, hc⟩ := owns_cells h h0
    exact ⟨_, cap, rfl, fun j x hx => ⟨g, rfl, hc j x hx⟩⟩
  · have : L = [] := List.eq_nil_of_length_eq_zero (by omega)
    subst this
    obtain ⟨hl, ⟨rfl, h1⟩ | ⟨g, cap, cur, rfl, hg, hh, hc1, hm, hsz, htk⟩⟩ := h
    · exact ⟨none, 0, rfl, fun j x hx => by simp at hx⟩
    · exact ⟨_, cap, rfl, fun j x hx => by simp at hx⟩
theorem take_con {acc : List UInt8} {m : Nat} {x c : UInt8} (hx : acc[m]? = some x) (h : (acc.take m).contains c = false) : (acc.take (m + 1)).contains c = ((x.toNat : Int) == (c.toNat : Int)) := by
  have hm : m < acc.length := (List.getElem?_eq_some_iff.1 hx).1
  have e : acc[m] = x := by rw [List.getElem?_eq_getElem hm] at hx; exact Option.some.inj hx
  rw [List.take_succ_eq_append_getElem hm, e]
  rw [List.contains_eq_mem] at *
  by_cases hc : x = c
  · subst hc; simp
  · have h2 : ¬ (x.toNat : Int) = (c.toNat : Int) := fun h => hc (Wd.byte_eq h)
    have h3 : ((x.toNat : Int) == (c.toNat : Int)) = false := by rw [beq_eq_false_iff_ne]; exact h2
    rw [h3]
    have h4 : ¬ c = x := fun h => hc h.symm
    simp [h4]
    simpa using h
theorem con_take {acc : List UInt8} {m : Nat} {c : UInt8} (h : (acc.take m).contains c = true) : acc.contains c = true := by
  rw [List.contains_eq_mem] at *
  simp only [decide_eq_true_eq] at *
  exact List.mem_of_mem_take h
theorem con_full {acc : List UInt8} {m : Nat} {c : UInt8} (hm : acc.length ≤ m) (h : (acc.take m).contains c = false) : acc.contains c = false := by
  rwa [List.take_of_length_le hm] at h

end LtR
end Go.Proofs.YtlmahoogkogpdaaGreatDoor
