/- Contract: strings.ContainsAny of a text, whatever its bytes, and of the four blanks: it answers whether one of them stands in the text; nothing old in memory turns. -/
import Derived.Test.YtaaonaaciomijabDoorShC
import Derived.Test.YtaaonaaciomijabDoorFldW
import Derived.Laws.Runes
import Derived.Laws.RangeAny
import Derived.Lib.IndexAny
import Derived.Deep.LoopGhost
import Derived.Scope
namespace Go.Proofs.YtaaonaaciomijabDoor
open Go.RowKit Go.Shelf
namespace CntW
open FldW

def ch : ByteArray := ⟨#[32, 9, 10, 13]⟩
theorem decode_valid (s : ByteArray) (pos : Nat) (h : pos < s.size) (ha : 128 ≤ (s[pos]'h).toNat) : Utf8.valid ((Utf8.decode s pos).1 : Int) = true := by
  have hn : ¬ (s[pos]'h).toNat < 128 := by omega
  simp only [Utf8.decode, get_at s pos h, hn, if_false]
  repeat' split
  all_goals simp_all [Utf8.runeError, Utf8.valid]
  all_goals omega

set_option maxHeartbeats 2000000 in
set_option maxRecDepth 1000000 in
theorem rune_err (w : World) : Calls Tryd.prog 101 #[.string ch, .int .i32 65533] w fun e w' => e = .returned (.int .i64 (-1)) ∧ Below w.heap.size w w' := by
  go_enter Tryd.func101, Tryd.ntmps101
  go_wp2
  go_loopg [5, 6] 4 (fun g _ _ wx => ∃ i : Nat, i + g = 4 ∧ wx = w.iter ch i)
  case atStart => exact ⟨0, by omega, rfl⟩
  case round =>
    obtain ⟨i, hig, rfl⟩ := hrel
    cases gk with
    | zero =>
      obtain rfl : i = 4 := by omega
      have hnx := fun ty => run_next_end (P := Tryd.prog) w ch 4 ty (by decide)
      go_wp2
      go_ret
      exact ⟨rfl, (Below.refl _ w).alloc (Nat.le_refl _) _⟩
    | succ g =>
      have hi : i < ch.size := by show i < 4; omega
      obtain ⟨x, hx, hx128⟩ : ∃ x : UInt8, ch[i]'hi = x ∧ x.toNat < 128 := by
        refine ⟨_, rfl, ?_⟩
        have : ∀ j : Fin 4, (ch[j.1]'j.2).toNat < 128 := by decide
        exact this ⟨i, hi⟩
      have hnx := fun ty => run_next_ascii (P := Tryd.prog) w ch i ty hi (by rw [hx]; exact hx128)
      rw [hx] at hnx
      have hne : ((x.toNat : Int) == 65533) = false := by rw [beq_eq_false_iff_ne]; omega
      clear hx
      go_wp2
      go_roundg g
      case measure => omega
      case rel => exact ⟨i + 1, by omega, rfl⟩
theorem ch_low : ∀ z ∈ ch.data.toList, z.toNat < 128 := by decide
theorem ib_none : ∀ (l : List UInt8) (c : UInt8), (∀ b ∈ l, b ≠ c) → Lib.indexByte l c = -1
  | [], _, _ => rfl
  | b :: l, c, h => by
    have h1 : (b == c) = false := by rw [beq_eq_false_iff_ne]; exact h b (by simp)
    have h2 := ib_none l c (fun z hz => h z (by simp [hz]))
    simp [Lib.indexByte, h1, h2]
theorem vr (r : Int) (h : Utf8.valid r = true) : Lib.validRune r = true := by
  simp only [Utf8.valid, Bool.or_eq_true, Bool.and_eq_true, decide_eq_true_eq] at h
  simp only [Lib.validRune]
  simp
  omega
set_option maxHeartbeats 2000000 in
set_option maxRecDepth 1000000 in
theorem rune_high_1 (r : Int) (rs : ByteArray) (x : UInt8) (w : World) (h0 : 128 ≤ r) (hvr : Lib.validRune r = true) (h3 : (r == 65533) = false) (hn : rs.size = 2) (hl : 1 < rs.size) (hx : rs[1]'hl = x) (f4 : 128 ≤ x.toNat)
    (hcv : ∀ W, (convert 21 9 (.int .i32 r)).run Tryd.prog W = .ok (.string rs) W) : Calls Tryd.prog 101 #[.string ch, .int .i32 r] w fun e w' => e = .returned (.int .i64 (-1)) ∧ Below w.heap.size w w' := by
  have h1 : ¬ r < 128 := by omega
  have hxy : ((9 : Int) != (x.toNat : Int)) = true := by rw [bne_iff_ne]; omega
  have HI : Hid (∀ (p : ByteArray) (W : World), (∀ z ∈ p.data.toList, z.toNat < 128) → Calls Tryd.prog 116 #[.string p, .int .u8 (x.toNat : Int)] W fun e w' => e = .returned (.int .i64 (-1)) ∧ ∃ q, w' = W.drewN q) := by
    intro p W hp
    refine (Tryd.strings_IndexByte p (x.toNat : Int) _).mono ?_
    rintro e w' ⟨rfl, hw⟩
    refine ⟨?_, 0, hw⟩
    rw [show ((x.toNat : Int)).toNat.toUInt8 = x by simp, ib_none _ _ (fun z hz e => by
      have := hp z hz
      rw [e] at this
      omega)]
  have hl4 : 1 < ch.size := by decide
  have hy : ch[1]'hl4 = 9 := rfl
  have hsz4 : ch.size = 4 := rfl
  have HLO : Hid (∀ a b : Nat, ∀ z ∈ (ch.extract a b).data.toList, z.toNat < 128) := fun a b z hz => ch_low z (mem_extract hz)
  generalize ch = c4 at *
  go_enter Tryd.func101, Tryd.ntmps101
  go_wp2_with (go_at_call 117; refine (Tryd.utf8_ValidRune r _).mono ?_; rintro e w1 ⟨rfl, hw⟩; obtain rfl := hw.symm; rw [hvr])
  clear hw
  refine wp_scope_straight ?_
  go_wp2
  go_loopw [9] (fun i wr => i = .int .i64 1 ∧ wr = w) (fun _ _ => 0)
  case atStart => exact ⟨rfl, rfl⟩
  case round =>
    obtain ⟨rfl, rfl⟩ := hrel
    go_wp2
    refine wp_scope_straight ?_
    go_wp2
    go_quiet (fail)
    have HY := hide (below_drewN (Below.refl wr.heap.size wr) nq)
    generalize wr.drewN nq = Y at *
    go_wp2
    have hwr : IntKind.i64.wrap 2 = 2 := by decide
    go_quiet ((go_at_call 116; exact Calls.quiet_of (unhide HI _ _ (by first | exact unhide HLO _ _ | (intro z hz; cases hz)))))
    go_wp2
    simp only [Exit.noGoto, Exit.inBlock]
    go_wp2
    simp only [Exit.noGoto, Exit.inBlock]
    go_ret
    exact ⟨rfl, below_drewN (unhide HY) _⟩
set_option maxHeartbeats 2000000 in
set_option maxRecDepth 1000000 in
theorem rune_high_2 (r : Int) (rs : ByteArray) (x : UInt8) (w : World) (h0 : 128 ≤ r) (hvr : Lib.validRune r = true) (h3 : (r == 65533) = false) (hn : rs.size = 3) (hl : 2 < rs.size) (hx : rs[2]'hl = x) (f4 : 128 ≤ x.toNat)
    (hcv : ∀ W, (convert 21 9 (.int .i32 r)).run Tryd.prog W = .ok (.string rs) W) : Calls Tryd.prog 101 #[.string ch, .int .i32 r] w fun e w' => e = .returned (.int .i64 (-1)) ∧ Below w.heap.size w w' := by
  have h1 : ¬ r < 128 := by omega
  have hxy : ((10 : Int) != (x.toNat : Int)) = true := by rw [bne_iff_ne]; omega
  have HI : Hid (∀ (p : ByteArray) (W : World), (∀ z ∈ p.data.toList, z.toNat < 128) → Calls Tryd.prog 116 #[.string p, .int .u8 (x.toNat : Int)] W fun e w' => e = .returned (.int .i64 (-1)) ∧ ∃ q, w' = W.drewN q) := by
    intro p W hp
    refine (Tryd.strings_IndexByte p (x.toNat : Int) _).mono ?_
    rintro e w' ⟨rfl, hw⟩
    refine ⟨?_, 0, hw⟩
    rw [show ((x.toNat : Int)).toNat.toUInt8 = x by simp, ib_none _ _ (fun z hz e => by
      have := hp z hz
      rw [e] at this
      omega)]
  have hl4 : 2 < ch.size := by decide
  have hy : ch[2]'hl4 = 10 := rfl
  have hsz4 : ch.size = 4 := rfl
  have HLO : Hid (∀ a b : Nat, ∀ z ∈ (ch.extract a b).data.toList, z.toNat < 128) := fun a b z hz => ch_low z (mem_extract hz)
  generalize ch = c4 at *
  go_enter Tryd.func101, Tryd.ntmps101
  go_wp2_with (go_at_call 117; refine (Tryd.utf8_ValidRune r _).mono ?_; rintro e w1 ⟨rfl, hw⟩; obtain rfl := hw.symm; rw [hvr])
  clear hw
  refine wp_scope_straight ?_
  go_wp2
  go_loopw [9] (fun i wr => i = .int .i64 2 ∧ wr = w) (fun _ _ => 0)
  case atStart => exact ⟨rfl, rfl⟩
  case round =>
    obtain ⟨rfl, rfl⟩ := hrel
    go_wp2
    refine wp_scope_straight ?_
    go_wp2
    go_quiet (fail)
    have HY := hide (below_drewN (Below.refl wr.heap.size wr) nq)
    generalize wr.drewN nq = Y at *
    go_wp2
    have hwr : IntKind.i64.wrap 3 = 3 := by decide
    go_quiet ((go_at_call 116; exact Calls.quiet_of (unhide HI _ _ (by first | exact unhide HLO _ _ | (intro z hz; cases hz)))))
    go_wp2
    simp only [Exit.noGoto, Exit.inBlock]
    go_wp2
    simp only [Exit.noGoto, Exit.inBlock]
    go_ret
    exact ⟨rfl, below_drewN (unhide HY) _⟩
set_option maxHeartbeats 2000000 in
set_option maxRecDepth 1000000 in
theorem rune_high_3 (r : Int) (rs : ByteArray) (x : UInt8) (w : World) (h0 : 128 ≤ r) (hvr : Lib.validRune r = true) (h3 : (r == 65533) = false) (hn : rs.size = 4) (hl : 3 < rs.size) (hx : rs[3]'hl = x) (f4 : 128 ≤ x.toNat)
    (hcv : ∀ W, (convert 21 9 (.int .i32 r)).run Tryd.prog W = .ok (.string rs) W) : Calls Tryd.prog 101 #[.string ch, .int .i32 r] w fun e w' => e = .returned (.int .i64 (-1)) ∧ Below w.heap.size w w' := by
  have h1 : ¬ r < 128 := by omega
  have hxy : ((13 : Int) != (x.toNat : Int)) = true := by rw [bne_iff_ne]; omega
  have HI : Hid (∀ (p : ByteArray) (W : World), (∀ z ∈ p.data.toList, z.toNat < 128) → Calls Tryd.prog 116 #[.string p, .int .u8 (x.toNat : Int)] W fun e w' => e = .returned (.int .i64 (-1)) ∧ ∃ q, w' = W.drewN q) := by
    intro p W hp
    refine (Tryd.strings_IndexByte p (x.toNat : Int) _).mono ?_
    rintro e w' ⟨rfl, hw⟩
    refine ⟨?_, 0, hw⟩
    rw [show ((x.toNat : Int)).toNat.toUInt8 = x by simp, ib_none _ _ (fun z hz e => by
      have := hp z hz
      rw [e] at this
      omega)]
  have hl4 : 3 < ch.size := by decide
  have hy : ch[3]'hl4 = 13 := rfl
  have hsz4 : ch.size = 4 := rfl
  have HLO : Hid (∀ a b : Nat, ∀ z ∈ (ch.extract a b).data.toList, z.toNat < 128) := fun a b z hz => ch_low z (mem_extract hz)
  generalize ch = c4 at *
  go_enter Tryd.func101, Tryd.ntmps101
  go_wp2_with (go_at_call 117; refine (Tryd.utf8_ValidRune r _).mono ?_; rintro e w1 ⟨rfl, hw⟩; obtain rfl := hw.symm; rw [hvr])
  clear hw
  refine wp_scope_straight ?_
  go_wp2
  go_loopw [9] (fun i wr => i = .int .i64 3 ∧ wr = w) (fun _ _ => 0)
  case atStart => exact ⟨rfl, rfl⟩
  case round =>
    obtain ⟨rfl, rfl⟩ := hrel
    go_wp2
    refine wp_scope_straight ?_
    go_wp2
    go_quiet (fail)
    have HY := hide (below_drewN (Below.refl wr.heap.size wr) nq)
    generalize wr.drewN nq = Y at *
    go_wp2
    have hwr : IntKind.i64.wrap 4 = 4 := by decide
    go_quiet ((go_at_call 116; exact Calls.quiet_of (unhide HI _ _ (by first | exact unhide HLO _ _ | (intro z hz; cases hz)))))
    go_wp2
    simp only [Exit.noGoto, Exit.inBlock]
    go_wp2
    simp only [Exit.noGoto, Exit.inBlock]
    go_ret
    exact ⟨rfl, below_drewN (unhide HY) _⟩
end CntW
end Go.Proofs.YtaaonaaciomijabDoor
