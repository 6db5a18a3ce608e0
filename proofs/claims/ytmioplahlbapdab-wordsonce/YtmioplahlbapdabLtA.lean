/- Contract: words.Letters answers each byte once, where it stands first, or the error; nothing old in memory turns. -/
import Derived.Test.YtmioplahlbapdabVlA
import Derived.Test.YtmioplahlbapdabShB
import Derived.Test.YtmioplahlbapdabBts
import Derived.Laws.Rows
namespace Go.Proofs.Ytmioplahlbapdab
open Go.RowKit
namespace LtW
open Bts

def met0 : Array Value := Array.replicate 256 (.bool false)
theorem zero46 (w : World) : (zeroValue 42).run Try.prog w = .ok (.agg met0) w := by kernel_rfl
/-- the marks of the bytes that were met -/
def Met (C : Array Value) (acc : List UInt8) : Prop := C.size = 256 ∧ ∀ b : UInt8, C[b.toNat]? = some (.bool (acc.contains b))
theorem met_start : Met met0 [] := ⟨by simp [met0], fun b => by
  have := b.toNat_lt
  simp [met0, Array.getElem?_replicate]
  omega⟩
theorem met_push {C : Array Value} {acc : List UInt8} (h : Met C acc) (c : UInt8) : Met (C.setIfInBounds c.toNat (.bool true)) (acc ++ [c]) := by
  refine ⟨by rw [Array.size_setIfInBounds]; exact h.1, fun b => ?_⟩
  have hc := c.toNat_lt
  rw [Array.getElem?_setIfInBounds]
  split
  · rename_i e
    have : c = b := UInt8.toNat_inj.1 e
    subst this
    rw [if_pos (by rw [h.1]; omega)]
    simp
  · rename_i e
    rw [h.2 b]
    have : ¬ b = c := fun e2 => e (by rw [e2])
    simp [this]
theorem builder_keep {T e : TypeId} {B b : Nat} {bs : List Value} {w w' : World} (h : Lib.IsBuilderF T e B b bs w) (hk : ∀ k, B ≤ k → w'.heap[k]? = w.heap[k]?) : Lib.IsBuilderF T e B b bs w' := by
  have one : ∀ p, Lib.BuilderAtF T e B b p bs w → Lib.BuilderAtF T e B b p bs w' := by
    rintro p ⟨h1, v, h2, h3, h4⟩
    refine ⟨h1, v, by rw [hk b h1]; exact h2, ?_, h4⟩
    obtain ⟨hl, h | ⟨g, cap, cur, fz, rfl, hg, hh, hr⟩⟩ := h3
    · exact ⟨hl, .inl h⟩
    · exact ⟨hl, .inr ⟨g, cap, cur, fz, rfl, hg, by rw [hk g hg]; exact hh, hr⟩⟩
  exact h.elim (fun x => .inl (one _ x)) (fun x => .inr (one _ x))

set_option maxHeartbeats 2000000 in
set_option maxRecDepth 100000 in
theorem letters_ok (s : ByteArray) (w : World) (hs : s.size ≤ 140737488355328) (ho : VlW.okB s.data.toList = true) :
    Calls Try.prog 10 #[.string s] w fun e w' => e = .returned (.tuple #[.string (Wd.str (Wd.uq [] s.data.toList)), .int .i64 0]) ∧ Below w.heap.size w w' := by
  have HI := hide (fun W => VlW.all_any s W (by unfold maxLen; omega))
  rw [ho] at HI
  have hz := zero46
  clear ho
  go_enter Try.func10, Try.ntmps10
  go_wp2_with (go_at_call 15; refine (unhide HI _).mono ?_; rintro e W1 ⟨rfl, rfl⟩)
  go_loopw [6] (fun i wr => ∃ (k : Nat) (acc : List UInt8) (C : Array Value), k ≤ s.size ∧ i = .int .i64 k ∧ Lib.IsBuilderF 36 5 (W1.heap.size + 1) (W1.heap.size + 1) (Lib.byteCells acc) wr ∧ wr.heap[W1.heap.size]? = some (.cells C 42 (0, 0)) ∧ Hid (Met C acc) ∧ Below W1.heap.size W1 wr ∧ acc.length ≤ k ∧ Hid (Wd.uq acc (s.data.toList.drop k) = Wd.uq [] s.data.toList)) (fun i _ => s.size - (intOf i).toNat)
  case atStart =>
    refine ⟨0, [], met0, Nat.zero_le _, rfl, ?_, ?_, met_start, ((Below.refl _ W1).alloc (Nat.le_refl _) _).alloc (by simp) _, Nat.le_refl _, by rw [Hid, List.drop_zero]⟩
    · have := Lib.IsBuilderF.of (Lib.fresh_isBuilder 36 5 (W1.alloc (.cells met0 42)))
      simp only [World.size_alloc] at this
      exact this
    · have := heap_alloc_old (W1.alloc (.cells met0 42)) (.cells #[.pointer none, .slice none 0 0] 36) (r := W1.heap.size) (by simp)
      refine this.trans ?_
      simp [World.alloc, -World.alloc_eq]
  case round =>
    obtain ⟨k, acc, C, hk, rfl, hI, hm, HM, hB, hal, HR⟩ := hrel
    have hsz : W1.heap.size + 1 ≤ wr.heap.size := (Array.getElem?_eq_some_iff.1 hm).1
    by_cases hlt : k < s.size
    · have hcell : wr.cell? ⟨W1.heap.size, s[k].toNat, none⟩ = some (.bool (acc.contains s[k])) := by
        simp only [World.cell?, hm]
        exact (unhide HM).2 s[k]
      have hfr : wr.frozen? ⟨W1.heap.size, s[k].toNat, none⟩ = false := frozen_of_row wr _ _ C _ hm
      have h256 : (s[k].toNat : Int) < 256 := by have := s[k].toNat_lt; omega
      cases hc : acc.contains s[k] with
      | true =>
        have HS := hide (Wd.uq_again s acc k hlt hc)
        rw [hc] at hcell
        clear hc
        go_wp2
        go_roundw
        case rel => exact ⟨k + 1, acc, C, by omega, by go_num, hI, hm, HM, hB, by omega, by rw [← unhide HS]; exact HR⟩
        case measure => simp [intOf]; omega
      | false =>
        have HS := hide (Wd.uq_new s acc k hlt hc)
        rw [hc] at hcell
        have HM2 := hide (met_push (unhide HM) s[k])
        have hI2 : Lib.IsBuilderF 36 5 (W1.heap.size + 1) (W1.heap.size + 1) (Lib.byteCells acc) (wr.setCell ⟨W1.heap.size, s[k].toNat, none⟩ (.bool true)) := builder_keep hI (fun q hq => heap_setCell_other wr _ q _ (by show q ≠ W1.heap.size; omega))
        have hm2 := heap_setCell_same wr W1.heap.size s[k].toNat C 42 (.bool true) hm
        have HB2 := hide (hB.setCell (p := ⟨W1.heap.size, s[k].toNat, none⟩) (Nat.le_refl _) (.bool true))
        have hsz2 : W1.heap.size + 1 ≤ (wr.setCell ⟨W1.heap.size, s[k].toNat, none⟩ (.bool true)).heap.size := (Array.getElem?_eq_some_iff.1 hm2).1
        have Hm2 := hide hm2
        clear hc HM hm2 hI hB
        go_wp2_with (go_at_call 13; refine (Try.Builder_WriteByte_k (W1.heap.size + 1) (W1.heap.size + 1) _ (s[k].toNat : Int) _ hI2 (by rw [Lib.byteCells_length]; omega) hsz2).mono ?_)
        rintro e W2 ⟨rfl, h1, b1, _⟩
        have HB3 := hide ((unhide HB2).trans (b1.mono (by omega)))
        have Hm3 := hide ((b1.block W1.heap.size (by omega)).trans (unhide Hm2))
        clear HB2 Hm2 b1 hI2
        go_wp2
        go_roundw
        case rel => exact ⟨k + 1, acc ++ [s[k]], _, by omega, by go_num, by rw [Lib.byteCells_append]; exact Or.inr h1, unhide Hm3, HM2, unhide HB3, by simp; omega, by rw [← unhide HS]; exact HR⟩
        case measure => simp [intOf]; omega
    · have HA : Hid (Wd.uq [] s.data.toList = acc) := by rw [Hid, ← unhide HR]; exact Wd.uq_end s acc k (by omega)
      clear HR
      go_wp2_with (go_at_call 14; refine (Try.Builder_String_any_k (W1.heap.size + 1) (W1.heap.size + 1) acc _ hI hsz).mono ?_)
      rintro e W2 ⟨rfl, _, b1, _⟩
      go_wp2
      go_ret2
      exact ⟨by rw [unhide HA]; rfl, hB.trans (b1.mono (by omega))⟩
end LtW
end Go.Proofs.Ytmioplahlbapdab
