/- Contract: strings.ContainsAny of a text, whatever its bytes, and of the four blanks: whether one of them stands in the text; nothing old in memory turns. -/
import Derived.Test.YtaaonaaciomijabDoorCntW
import Derived.Lib.OthersKept
namespace Go.Proofs.YtaaonaaciomijabDoor
open Go.RowKit Go.Shelf
namespace CntW
open FldW

theorem decode_cont (s : ByteArray) (pos : Nat) (h : pos < s.size) (ha : 128 ≤ (s[pos]'h).toNat) : ∀ k, 1 ≤ k → k < (Utf8.decode s pos).2 → pos + k < s.size ∧ 128 ≤ (s.get! (pos + k)).toNat := by
  have hn : ¬ (s[pos]'h).toNat < 128 := by omega
  intro k h1 h2
  simp only [Utf8.decode, get_at s pos h, hn, if_false] at h2
  split at h2
  · rename_i c
    simp only [Bool.and_eq_true, decide_eq_true_eq, beq_iff_eq] at c
    split at h2
    · obtain rfl : k = 1 := by simp only at h2; omega
      exact ⟨by omega, by omega⟩
    · simp only at h2; omega
  · split at h2
    · rename_i c
      simp only [Bool.and_eq_true, decide_eq_true_eq, beq_iff_eq] at c
      split at h2
      · obtain rfl | rfl : k = 1 ∨ k = 2 := by simp only at h2; omega
        · exact ⟨by omega, by omega⟩
        · exact ⟨by omega, by omega⟩
      · simp only at h2; omega
    · split at h2
      · rename_i c
        simp only [Bool.and_eq_true, decide_eq_true_eq, beq_iff_eq] at c
        split at h2
        · obtain rfl | rfl | rfl : k = 1 ∨ k = 2 ∨ k = 3 := by simp only at h2; omega
          · exact ⟨by omega, by omega⟩
          · exact ⟨by omega, by omega⟩
          · exact ⟨by omega, by omega⟩
        · simp only at h2; omega
      · simp only at h2; omega
theorem no_ch (b : UInt8) (h : 128 ≤ b.toNat) : ch.data.toList.contains b = false := by
  rw [List.contains_eq_mem, decide_eq_false_iff_not]
  intro hm
  have := ch_low b hm
  omega
theorem noany_skip (s : ByteArray) (pos : Nat) (h : pos < s.size) (ha : 128 ≤ (s[pos]'h).toNat) (hno : Lib.NoAny s.data.toList ch.data.toList pos) : Lib.NoAny s.data.toList ch.data.toList (pos + (Utf8.decode s pos).2) := by
  intro j y hj hy
  by_cases h1 : j < pos
  · exact hno j y h1 hy
  · apply no_ch
    by_cases h2 : j = pos
    · subst h2
      have : s.data.toList[j]? = some (s[j]'h) := Lib.data_getElem? s j h
      rw [this] at hy
      rw [← Option.some.inj hy]
      exact ha
    · obtain ⟨hk, hb⟩ := decode_cont s pos h ha (j - pos) (by omega) (by omega)
      have e : pos + (j - pos) = j := by omega
      rw [e] at hk hb
      have : s.data.toList[j]? = some (s[j]'hk) := Lib.data_getElem? s j hk
      rw [this] at hy
      rw [← Option.some.inj hy]
      have e2 : s.get! (j + 0) = s[j]'hk := get_at s j hk
      rw [Nat.add_zero] at e2
      rwa [e2] at hb
theorem width_le (s : ByteArray) (pos : Nat) (h : pos < s.size) (ha : 128 ≤ (s[pos]'h).toNat) : pos + (Utf8.decode s pos).2 ≤ s.size := by
  by_cases h1 : (Utf8.decode s pos).2 ≤ 1
  · omega
  · obtain ⟨hk, _⟩ := decode_cont s pos h ha ((Utf8.decode s pos).2 - 1) (by omega) (by omega)
    omega

theorem rune_any (r : Int) (w : World) (h128 : 128 ≤ r) (hv : Utf8.valid r = true) : Calls Tryd.prog 101 #[.string ch, .int .i32 r] w fun e w' => e = .returned (.int .i64 (-1)) ∧ Below w.heap.size w w' := by
  by_cases h3 : r = 65533
  · rw [h3]; exact rune_err w
  · have h3b : (r == 65533) = false := by rw [beq_eq_false_iff_ne]; exact h3
    obtain ⟨f1, f2, f3⟩ := encode_facts r hv h128
    have hcv : ∀ W, (convert 21 9 (.int .i32 r)).run Tryd.prog W = .ok (.string (Utf8.encode r)) W := fun W => run_convert_int_string W 21 9 .i32 r (by rw [Tryd.underlying21]; rfl) Tryd.underlying9
    generalize Utf8.encode r = rs at *
    by_cases g2 : rs.size = 2
    · have hl : 1 < rs.size := by omega
      exact rune_high_1 r rs _ w h128 (vr r hv) h3b g2 hl rfl (by have := f3 (by omega); simpa [g2] using this) hcv
    by_cases g3 : rs.size = 3
    · have hl : 2 < rs.size := by omega
      exact rune_high_2 r rs _ w h128 (vr r hv) h3b g3 hl rfl (by have := f3 (by omega); simpa [g3] using this) hcv
    · have g4 : rs.size = 4 := by omega
      have hl : 3 < rs.size := by omega
      exact rune_high_3 r rs _ w h128 (vr r hv) h3b g4 hl rfl (by have := f3 (by omega); simpa [g4] using this) hcv

set_option maxHeartbeats 4000000 in
set_option maxRecDepth 1000000 in
theorem any_short (s : ByteArray) (w : World) (h8 : s.size ≤ 8) :
    Calls Tryd.prog 92 #[.string s, .string ch] w fun e w' => e = .returned (.int .i64 (Lib.indexAny s.data.toList ch.data.toList)) ∧ Below w.heap.size w w' := by
  have h8z : decide ((8 : Int) < (s.size : Int)) = false := decide_eq_false (by omega)
  have HSh : Hid (∀ W, Calls Tryd.prog 102 #[.int .i64 (s.size : Int)] W fun e w' => e = .returned (.bool false) ∧ w' = W) := by
    intro W
    have := Tryd.strings_shouldUseASCIISet (s.size : Int) W
    rwa [h8z] at this
  have hch : ch.toList.isEmpty = false := by rw [Lib.toList_data]; rfl
  have hcz : ch.size = 4 := rfl
  have HRA := hide (fun (x : UInt8) (hx : x.toNat < 128) W => Tryd.strings_IndexRune_ascii ch (x.toNat : Int) W (by omega) (by omega))
  have HRH := hide (fun r W (h1 : 128 ≤ r) h2 => rune_any r W h1 h2)
  have HCI := hide (fun x => Lib.contains_iff_indexByte ch.data.toList x)
  have HIH := hide (fun i x h1 h2 h3 => Lib.indexAny_hit (s := s.data.toList) (chars := ch.data.toList) (i := i) (x := x) h1 h2 h3)
  have HIN := hide (Lib.indexAny_none (s := s.data.toList) (chars := ch.data.toList))
  have HSK := hide (fun pos h ha hno => noany_skip s pos h ha hno)
  have HST := hide (fun i x h1 h2 h3 => Lib.NoAny.succ (s := s.data.toList) (chars := ch.data.toList) (i := i) (x := x) h1 h2 h3)
  generalize ch = c at *
  have hn1 : ((c.size : Int) == 1) = false := beq_eq_false_iff_ne.2 (by omega)
  clear hcz h8z
  go_enter Tryd.func92, Tryd.ntmps92
  go_wp2_with (go_at_call 102; refine (unhide HSh _).mono ?_; rintro e w' ⟨rfl, hw⟩; subst hw)
  go_loopw [9, 10] (fun _ _ wx => ∃ i : Nat, i ≤ s.size ∧ wx.heap[w'.heap.size]? = some (.stringIter s i) ∧ Below w'.heap.size w' wx ∧ Hid (Lib.NoAny s.data.toList c.data.toList i)) (fun _ _ wx => s.size - wx.iterPos w'.heap.size)
  case atStart =>
    refine ⟨0, Nat.zero_le _, ?_, (Below.refl _ w').alloc (Nat.le_refl _) _, Lib.NoAny.zero _ _⟩
    have := World.iter_heap w' s 0
    simpa using this
  case round =>
    obtain ⟨i, hi, hit, hB, HN⟩ := hrel
    by_cases hlt : i < s.size
    · obtain ⟨x, hx⟩ : ∃ x : UInt8, s[i]'hlt = x := ⟨_, rfl⟩
      have hxl : s.data.toList[i]? = some x := by rw [← hx]; exact Lib.data_getElem? s i hlt
      have hwl : w'.heap.size < wr.heap.size := (Array.getElem?_eq_some_iff.1 hit).1
      by_cases h128 : x.toNat < 128
      · have hnx := fun ty => Lib.run_next_ascii_at (P := Tryd.prog) wr w'.heap.size s i ty hit hlt (by rw [hx]; exact h128)
        rw [hx] at hnx
        have hit2 := Lib.iterAt_heap wr w'.heap.size s i (i + 1) hit
        have HB2 := hide (Lib.below_iterAt hB (k := w'.heap.size) (Nat.le_refl _) s (i + 1))
        have hpos : wr.iterPos w'.heap.size = i := by simp only [World.iterPos, hit]
        have hback : ((x.toNat : Int)).toNat.toUInt8 = x := by simp
        have HRX := hide (unhide HRA x h128)
        rw [hback] at HRX
        have hcx := unhide HCI x
        cases hin : c.data.toList.contains x with
        | true =>
          have HR := hide (unhide HIH i x (unhide HN) hxl hin)
          rw [hin] at hcx
          have hge : 0 ≤ Lib.indexByte c.data.toList x := of_decide_eq_true hcx.symm
          clear hcx hin hback hx hxl h128 hit HN
          generalize wr.iterAt w'.heap.size s (i + 1) = X at *
          generalize Lib.indexByte c.data.toList x = ib at *
          go_wp2_with (go_at_call 101; refine (unhide HRX _).mono ?_; rintro e w2 ⟨rfl, hw⟩; subst hw)
          go_ret
          exact ⟨by rw [unhide HR]; rfl, unhide HB2⟩
        | false =>
          have HN2 := hide (unhide HST i x (unhide HN) hxl hin)
          rw [hin] at hcx
          have hge : ¬ 0 ≤ Lib.indexByte c.data.toList x := of_decide_eq_false hcx.symm
          clear hcx hin hback hx hxl h128 hit HN
          generalize wr.iterAt w'.heap.size s (i + 1) = X at *
          generalize Lib.indexByte c.data.toList x = ib at *
          go_wp2_with (go_at_call 101; refine (unhide HRX _).mono ?_; rintro e w2 ⟨rfl, hw⟩; subst hw)
          go_roundw
          case rel => exact ⟨i + 1, by omega, hit2, unhide HB2, HN2⟩
          case measure => rw [hpos]; simp only [World.iterPos, hit2]; omega
      · have ha : 128 ≤ (s[i]'hlt).toNat := by rw [hx]; omega
        have hnx := fun ty => Lib.run_next_any_at (P := Tryd.prog) wr w'.heap.size s i ty hit hlt
        have hwd := (decode_high s i hlt ha)
        have hwl2 := width_le s i hlt ha
        have hit2 := Lib.iterAt_heap wr w'.heap.size s i (i + (Utf8.decode s i).2) hit
        have HB2 := hide (Lib.below_iterAt hB (k := w'.heap.size) (Nat.le_refl _) s (i + (Utf8.decode s i).2))
        have hpos : wr.iterPos w'.heap.size = i := by simp only [World.iterPos, hit]
        have HRX := hide (fun W => unhide HRH ((Utf8.decode s i).1 : Int) W (by omega) (decode_valid s i hlt ha))
        have HN2 := hide (unhide HSK i hlt ha (unhide HN))
        obtain ⟨hd1, hd2⟩ := hwd
        clear hx hxl h128 ha hit HN
        have hsz2 : w'.heap.size < (wr.iterAt w'.heap.size s (i + (Utf8.decode s i).2)).heap.size := by rw [Lib.iterAt_size]; exact hwl
        generalize wr.iterAt w'.heap.size s (i + (Utf8.decode s i).2) = X at *
        generalize (Utf8.decode s i).2 = wd at *
        generalize (Utf8.decode s i).1 = rn at *
        go_wp2_with (go_at_call 101; refine (unhide HRX _).mono ?_; rintro e w2 ⟨rfl, hB3⟩)
        have hit3 := (hB3.block w'.heap.size hsz2).trans hit2
        have HB4 := hide ((unhide HB2).trans (hB3.mono (Nat.le_of_lt hsz2)))
        clear hB3 hit2 HB2
        go_wp2
        go_roundw
        case rel => exact ⟨i + wd, by omega, hit3, unhide HB4, HN2⟩
        case measure => rw [hpos]; simp only [World.iterPos, hit3]; omega
    · have hnx := fun ty => Lib.run_next_end_at (P := Tryd.prog) wr w'.heap.size s i ty hit hlt
      have hie : i = s.size := by omega
      have HR := hide (unhide HIN (by rw [← Lib.size_eq, ← hie]; exact unhide HN))
      clear hie HN
      go_wp2
      go_ret
      exact ⟨by rw [unhide HR]; rfl, hB⟩
end CntW
end Go.Proofs.YtaaonaaciomijabDoor
