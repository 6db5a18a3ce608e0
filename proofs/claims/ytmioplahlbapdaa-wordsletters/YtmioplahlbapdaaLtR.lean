/- Contract: words.Letters of a text that has none, and the document's Letters; nothing old in memory turns. -/
import Derived.Test.YtmioplahlbapdaaLtW
namespace Go.Proofs.Ytmioplahlbapdaa
open Go.RowKit
namespace LtR
open Bts

set_option maxHeartbeats 1000000 in
theorem letters_bad (s : ByteArray) (w : World) (hs : s.size ≤ 140737488355328) (ho : VlW.okB s.data.toList = false) :
    Calls Try.prog 20 #[.string s] w fun e w' => e = .returned (.tuple #[.string ⟨#[]⟩, .int .i64 21]) ∧ w' = w := by
  have HI := hide (fun W => VlW.all_any s W (by unfold maxLen; omega))
  rw [ho] at HI
  clear ho hs
  go_enter Try.func20, Try.ntmps20
  go_wp2_with (go_at_call 22; refine (unhide HI _).mono ?_; rintro e W1 ⟨rfl, rfl⟩)
  go_ret2
  exact ⟨rfl, rfl⟩

theorem okB_empty {s : ByteArray} (h : s.size = 0) : VlW.okB s.data.toList = false := by
  have hl : s.data.toList.length = s.size := by simp
  have : s.data.toList = [] := List.eq_nil_of_length_eq_zero (by omega)
  rw [this]; rfl
theorem okB_some {s : ByteArray} (h : s.size ≠ 0) : VlW.okB s.data.toList = s.data.toList.all Wd.fit := by
  have hl : s.data.toList.length = s.size := by simp
  unfold VlW.okB
  cases he : s.data.toList with
  | nil => rw [he] at hl; simp at hl; omega
  | cons a t => simp
set_option maxHeartbeats 1000000 in
theorem ref_bad (s : ByteArray) (w : World) (hs : s.size ≤ 140737488355328) (ho : VlW.okB s.data.toList = false) :
    Calls Try.prog 21 #[.string s] w fun e w' => e = .returned (.tuple #[.string ⟨#[]⟩, .int .i64 21]) ∧ w' = w := by
  have HI := hide (fun W => VlW.bytes_any s W (by unfold maxLen; omega))
  by_cases h0 : s.size = 0
  · have h1 : ((s.size : Int) == 0) = true := by rw [beq_iff_eq]; omega
    generalize s.data.toList.all Wd.fit = r at *
    clear ho hs h0
    go_enter Try.func21, Try.ntmps21
    go_wp2_with (go_at_call 23; refine (unhide HI _).mono ?_; rintro e W1 ⟨rfl, rfl⟩)
    go_ret2
    exact ⟨rfl, rfl⟩
  · rw [okB_some h0] at ho
    rw [ho] at HI
    have h1 : ((s.size : Int) == 0) = false := by rw [beq_eq_false_iff_ne]; omega
    clear ho hs h0
    go_enter Try.func21, Try.ntmps21
    go_wp2_with (go_at_call 23; refine (unhide HI _).mono ?_; rintro e W1 ⟨rfl, rfl⟩)
    go_ret2
    exact ⟨rfl, rfl⟩

theorem owns_form {w : World} {B : Nat} {v : Value} {L : List UInt8} (h : w.ownsRow B 5 1 v L.length (Bts.bytes L)) :
    ∃ ao cap, v = .slice ao L.length cap ∧ ∀ j x, L[j]? = some x → ∃ g, ao = some ⟨g, 0, none⟩ ∧ w.cell? ⟨g, j, none⟩ = some (.int .u8 (x.toNat : Int)) := by
  by_cases h0 : 0 < L.length
  · obtain ⟨g, cap, rfl, _, hc⟩ := owns_cells h h0
    exact ⟨_, cap, rfl, fun j x hx => ⟨g, rfl, hc j x hx⟩⟩
  · have : L = [] := List.eq_nil_of_length_eq_zero (by omega)
    subst this
    obtain ⟨hl, ⟨rfl, h1⟩ | ⟨g, cap, cur, rfl, hg, hh, hc1, hm, hsz, htk⟩⟩ := h
    · exact ⟨none, 0, rfl, fun j x hx => by simp at hx⟩
    · exact ⟨_, cap, rfl, fun j x hx => by simp at hx⟩
theorem take_con {acc : List UInt8} {m : Nat} {x c : UInt8} (hx : acc[m]? = some x) (h : (acc.take m).contains c = false) : (acc.take (m + 1)).contains c = ((x.toNat : Int) == (c.toNat : Int)) := by
  have hm : m < acc.length := (List.getElem?_eq_some_iff.1 hx).1
  have e : acc[m] = x := by rw [List.getElem?_eq_getElem hm] at hx; exact Option.some.inj hx
  rw [List.take_succ_eq_append_getElem hm, e]
  rw [List.contains_eq_mem] at *
  by_cases hc : x = c
  · subst hc; simp
  · have h2 : ¬ (x.toNat : Int) = (c.toNat : Int) := fun h => hc (Wd.byte_eq h)
    have h3 : ((x.toNat : Int) == (c.toNat : Int)) = false := by rw [beq_eq_false_iff_ne]; exact h2
    rw [h3]
    have h4 : ¬ c = x := fun h => hc h.symm
    simp [h4]
    simpa using h
theorem con_take {acc : List UInt8} {m : Nat} {c : UInt8} (h : (acc.take m).contains c = true) : acc.contains c = true := by
  rw [List.contains_eq_mem] at *
  simp only [decide_eq_true_eq] at *
  exact List.mem_of_mem_take h
theorem con_full {acc : List UInt8} {m : Nat} {c : UInt8} (hm : acc.length ≤ m) (h : (acc.take m).contains c = false) : acc.contains c = false := by
  rwa [List.take_of_length_le hm] at h

set_option maxHeartbeats 4000000 in
theorem ref_ok (s : ByteArray) (w : World) (hs : s.size ≤ 140737488355328) (ho : VlW.okB s.data.toList = true) :
    Calls Try.prog 21 #[.string s] w fun e w' => e = .returned (.tuple #[.string (Wd.str (Wd.uq [] s.data.toList)), .int .i64 0]) ∧ Below w.heap.size w w' := by
  obtain ⟨i0, hi, hz0, hz1, hz2⟩ := info_parts info5
  have HI := hide (fun W => VlW.bytes_any s W (by unfold maxLen; omega))
  have h0 : s.size ≠ 0 := fun h => by rw [okB_empty h] at ho; cases ho
  rw [okB_some h0] at ho
  rw [ho] at HI
  have h1 : ((s.size : Int) == 0) = false := by rw [beq_eq_false_iff_ne]; omega
  clear ho
  go_enter Try.func21, Try.ntmps21
  go_wp2_with (go_at_call 23; refine (unhide HI _).mono ?_; rintro e W1 ⟨rfl, hW1⟩; subst hW1)
  clear h1 h0 HI
  go_loopw [5, 6] (fun v i wr => ∃ (k : Nat) (acc : List UInt8), k ≤ s.size ∧ i = .int .i64 k ∧ wr.ownsRow W1.heap.size 5 1 v acc.length (Bts.bytes acc) ∧ Below W1.heap.size W1 wr ∧ acc.length ≤ k ∧ Hid (Wd.uq acc (s.data.toList.drop k) = Wd.uq [] s.data.toList)) (fun _ i _ => s.size - (intOf i).toNat)
  case atStart => exact ⟨0, [], Nat.zero_le _, rfl, owns_made W1, (Below.refl _ W1).alloc (Nat.le_refl _) _, Nat.le_refl _, by rw [Hid, List.drop_zero]⟩
  case round =>
    obtain ⟨k, acc, hk, rfl, hown, hB, hal, HR⟩ := hrel
    by_cases hlt : k < s.size
    · have HSA := hide (Wd.uq_again s acc k hlt)
      have HSN := hide (Wd.uq_new s acc k hlt)
      obtain ⟨ao, cap, rfl, hcells⟩ := owns_form hown
      have HC := hide hcells
      have HO := hide hown
      have HB := hide hB
      clear hcells hown hB
      obtain ⟨V, hV⟩ : ∃ V, V = wr := ⟨_, rfl⟩
      subst hV
      go_wp2
      go_loopw [7, 8] (fun a j wr => ∃ m q : Nat, m ≤ acc.length ∧ j = .int .i64 m ∧ a = .bool ((acc.take m).contains s[k]) ∧ wr = V.drewN q) (fun _ j _ => acc.length - (intOf j).toNat)
      case atStart => exact ⟨0, 0, Nat.zero_le _, rfl, rfl, rfl⟩
      case round =>
        obtain ⟨m, q, hm, rfl, rfl, rfl⟩ := hrel
        cases hcon : (acc.take m).contains s[k] with
        | true =>
          have HS := hide (unhide HSA (con_take hcon))
          clear hcon HSA HSN HC
          have hO2 : (V.drewN q).ownsRow W1.heap.size 5 1 (.slice ao acc.length cap) acc.length (Bts.bytes acc) := unhide HO
          have HO2 := hide hO2
          have HB2 := hide (below_drewN (unhide HB) q)
          clear hO2 HO HB
          generalize V.drewN q = X at *
          by_cases hml : m < acc.length
          all_goals
            go_wp2
            go_roundw
            case rel => exact ⟨k + 1, acc, by omega, by go_num, unhide HO2, unhide HB2, by omega, by rw [← unhide HS]; exact HR⟩
            case measure => simp [intOf]; omega
        | false =>
          by_cases hml : m < acc.length
          · obtain ⟨x, hx⟩ : ∃ x, acc[m]? = some x := ⟨_, List.getElem?_eq_getElem hml⟩
            obtain ⟨g, rfl, hc⟩ := unhide HC m x hx
            have HT := hide (take_con hx hcon)
            clear hx hcon
            have hml2 : (m : Int) < (acc.length : Int) := by omega
            go_wp2
            go_quiet (fail)
            go_wp2
            go_roundw
            case rel => exact ⟨m + 1, _, by omega, by go_num, by rw [unhide HT], rfl⟩
            case measure => simp [intOf]; omega
          · have HS := hide (unhide HSN (con_full (by omega) hcon))
            clear hcon HSA HSN HC
            have hown : (V.drewN q).ownsRow W1.heap.size 5 1 (.slice ao acc.length cap) acc.length (Bts.bytes acc) := unhide HO
            have hB := below_drewN (unhide HB) q
            clear HO HB
            generalize V.drewN q = X at *
            go_wp2_with (at_builtin; refine wpList_append_own _ rfl _ _ 37 rfl W1.heap.size 5 i0 (.int .u8 0) 1 1 Try.underlying37 hi hz0 hz1 hz2 rfl (by decide) _ _ _ rfl (hown.alloc _) ⟨X.heap.size, 0, none⟩ 1 1 [.int .u8 ((s[k].toNat : Int))] rfl rfl (cell_one_new _ _ _) (fun x hx => by simp at hx; subst hx; rfl) (by unfold maxLen; omega) (by omega) (by have := hB.size; simp; omega) ?_; intro v' w1 hown' hgrow hnil; clear hnil)
            have HB1 := hide (below_push hown hB hgrow)
            have HO1 := hide (owns_push (c := s[k]) rfl hown')
            clear hown hB hgrow hown'
            go_wp2
            go_roundw
            case rel => exact ⟨k + 1, acc ++ [s[k]], by omega, by go_num, unhide HO1, unhide HB1, by simp; omega, by rw [← unhide HS]; exact HR⟩
            case measure => simp [intOf]; omega
    · have HA : Hid (Wd.uq [] s.data.toList = acc) := by rw [Hid, ← unhide HR]; exact Wd.uq_end s acc k (by omega)
      have hcv := conv_owns hown
      clear HR hown
      go_wp2
      go_ret2
      exact ⟨by rw [unhide HA]; rfl, hB⟩
end LtR
end Go.Proofs.Ytmioplahlbapdaa
