/- Contracts: words.needsBackslash, words.Read, words.Write answer what the plain definitions answer (of texts that the builder takes), and turn nothing old in memory. -/
import Derived.Test.YtmioplahlbapdabChecked
import Derived.Test.YtmioplahlbapdabWd
import Derived.Test.YtmioplahlbapdabShB
import Derived.WalkKit
import Derived.WalkSpells
import Derived.WalkLawsBesides
import Derived.Deep.QuietTactic
import Derived.Deep.RegionWith
import Derived.BigQuiet
import Derived.BigCall
import Derived.Deep.DeepFit
import Derived.Lib.Strings
namespace Go.Proofs.Ytmioplahlbapdab
open Go.RowKit
namespace RdW

theorem hide {p : Prop} (h : p) : Hid p := h
theorem unhide {p : Prop} (h : Hid p) : p := h

theorem results_tmp4 {fn : Func} {t u v x : Tmp} (h : fn.results = #[.tmp t, .tmp u, .tmp v, .tmp x]) (tmps : Array Value) (P : Program) (w : World) :
    (results fn tmps).run P w = .ok (.tuple #[tmps.getD t undef, tmps.getD u undef, tmps.getD v undef, tmps.getD x undef]) w := by
  simp [results, h]
theorem wrap_small {n : Int} (h0 : 0 ≤ n) (h1 : n ≤ 9223372036854775807) : IntKind.i64.wrap n = n := by
  simp [IntKind.wrap, IntKind.signed, IntKind.bits]; omega

/-- Read's four answers, as a value -/
def ans : Option (List UInt8 × List UInt8 × Bool) → Value
  | some (a, r, c) => .tuple #[.string (Wd.str a), .string (Wd.str r), .bool c, .int .i64 0]
  | none => .tuple #[.string ⟨#[]⟩, .string ⟨#[]⟩, .bool false, .int .i64 20]

set_option maxHeartbeats 400000 in
theorem needs_true (b : UInt8) (w : World) (h : Wd.esc b = true) : Calls Try.prog 12 #[.int .u8 (b.toNat : Int)] w fun e w' => e = .returned (.bool true) ∧ w' = w := by
  rcases Wd.esc_cases h with h | h | h
  all_goals
    rw [h]
    clear h
    go_enter Try.func12, Try.ntmps12
    go_wp2
    go_ret
    exact ⟨rfl, rfl⟩
set_option maxHeartbeats 400000 in
theorem needs_false (b : UInt8) (w : World) (h : Wd.esc b = false) : Calls Try.prog 12 #[.int .u8 (b.toNat : Int)] w fun e w' => e = .returned (.bool false) ∧ w' = w := by
  obtain ⟨h1, h2, h3⟩ := Wd.esc_none h
  clear h
  have e1 : ((b.toNat : Int) == 92) = false := by rw [beq_eq_false_iff_ne]; omega
  have e2 : ((b.toNat : Int) == 47) = false := by rw [beq_eq_false_iff_ne]; omega
  have e3 : ((b.toNat : Int) == 35) = false := by rw [beq_eq_false_iff_ne]; omega
  clear h1 h2 h3
  go_enter Try.func12, Try.ntmps12
  go_wp2
  go_ret
  exact ⟨rfl, rfl⟩

set_option maxHeartbeats 4000000 in
theorem read_any (s : ByteArray) (w : World) (hs : s.size ≤ 140737488355328) :
    Calls Try.prog 8 #[.string s] w fun e w' => e = .returned (ans (Wd.rd [] s.data.toList)) ∧ Below w.heap.size w w' := by
  go_enter Try.func8, Try.ntmps8
  go_wp2
  go_loopw [7] (fun i wr => ∃ (k : Nat) (acc : List UInt8), k ≤ s.size ∧ i = .int .i64 k ∧ Lib.IsBuilderF 36 5 w.heap.size w.heap.size (Lib.byteCells acc) wr ∧ Below w.heap.size w wr ∧ acc.length ≤ k ∧ Hid (Wd.rd acc (s.data.toList.drop k) = Wd.rd [] s.data.toList)) (fun i _ => s.size - (intOf i).toNat)
  case atStart => exact ⟨0, [], Nat.zero_le _, rfl, Lib.IsBuilderF.of (Lib.fresh_isBuilder 36 5 w), (Below.refl _ w).alloc (Nat.le_refl _) _, Nat.le_refl _, Wd.rd_start s⟩
  case round =>
    obtain ⟨k, acc, hk, rfl, hI, hB, hal, HR⟩ := hrel
    have hsz := hB.size
    by_cases hlt : k < s.size
    · by_cases h47 : s[k].toNat = 47
      · have HA : Hid (ans (Wd.rd [] s.data.toList) = .tuple #[.string (Wd.str acc), .string (s.extract (k + 1) s.size), .bool true, .int .i64 0]) := by rw [Hid, ← unhide HR, Wd.rd_cut s acc k hlt h47, Wd.extract_end]; rfl
        have hq : ((s[k].toNat : Int) == 47) = true := by rw [beq_iff_eq]; omega
        have hk1 : (k : Int) + 1 ≤ (s.size : Int) := by omega
        have hwr : IntKind.i64.wrap ((k : Int) + 1) = (k : Int) + 1 := wrap_small (by omega) (by omega)
        have hI1 : Lib.IsBuilderF 36 5 w.heap.size w.heap.size (Lib.byteCells acc) wr.drew := hI
        have hsz1 : w.heap.size ≤ wr.drew.heap.size := hsz
        clear h47 HR
        go_wp2
        go_region_with (go_at_call 14; refine (Try.Builder_String_any_k w.heap.size w.heap.size acc _ hI1 hsz1).mono ?_; rintro e W1 ⟨rfl, _, b1, _⟩)
        all_goals
          go_wp2
          (try simp only [Exit.inBlock, Exit.then])
          refine bodyPost_ret (results_tmp4 rfl _ _ _) rfl ?_
          refine ⟨?_, hB.trans ⟨b1.os, b1.tape, b1.output, b1.size, b1.block⟩⟩
          rw [unhide HA]
          rfl
      · by_cases h92 : s[k].toNat = 92
        · have hq : ((s[k].toNat : Int) == 47) = false := by rw [beq_eq_false_iff_ne]; omega
          have hq2 : ((s[k].toNat : Int) == 92) = true := by rw [beq_iff_eq]; omega
          by_cases h1 : k + 1 < s.size
          · cases he : Wd.esc s[k + 1] with
            | true =>
              have HS := hide (Wd.rd_esc s acc k hlt h92 h1 he)
              have HN := hide (fun W => needs_true s[k + 1] W he)
              have hne : (((k : Int) + 1) == (s.size : Int)) = false := by rw [beq_eq_false_iff_ne]; omega
              clear h47 h92 he
              go_wp2_with (go_at_call 12; refine (unhide HN _).mono ?_; rintro e W1 ⟨rfl, rfl⟩)
              refine (Try.Builder_WriteByte_k w.heap.size w.heap.size _ (s[k + 1].toNat : Int) _ hI (by rw [Lib.byteCells_length]; omega) hsz).mono ?_
              rintro e W2 ⟨rfl, h2, b1, _⟩
              go_wp2
              go_roundw
              case rel => exact ⟨k + 2, acc ++ [s[k + 1]], by omega, by go_num, by rw [Lib.byteCells_append]; exact Or.inr h2, hB.trans b1, by simp; omega, by rw [← unhide HS]; exact HR⟩
              case measure => simp [intOf]; omega
            | false =>
              have HA : Hid (ans (Wd.rd [] s.data.toList) = .tuple #[.string ⟨#[]⟩, .string ⟨#[]⟩, .bool false, .int .i64 20]) := by rw [Hid, ← unhide HR, Wd.rd_bad s acc k hlt h92 h1 he]; rfl
              have HN := hide (fun W => needs_false s[k + 1] W he)
              have hne : (((k : Int) + 1) == (s.size : Int)) = false := by rw [beq_eq_false_iff_ne]; omega
              clear h47 h92 he HR
              go_wp2_with (go_at_call 12; refine (unhide HN _).mono ?_; rintro e W1 ⟨rfl, rfl⟩)
              (try simp only [Exit.inBlock, Exit.then])
              refine bodyPost_ret (results_tmp4 rfl _ _ _) rfl ?_
              exact ⟨by rw [unhide HA]; rfl, hB⟩
          · have HA : Hid (ans (Wd.rd [] s.data.toList) = .tuple #[.string ⟨#[]⟩, .string ⟨#[]⟩, .bool false, .int .i64 20]) := by rw [Hid, ← unhide HR, Wd.rd_last s acc k hlt h92 (by omega)]; rfl
            have hne : (((k : Int) + 1) == (s.size : Int)) = true := by rw [beq_iff_eq]; omega
            clear h47 h92 HR
            go_wp2
            (try simp only [Exit.inBlock, Exit.then])
            refine bodyPost_ret (results_tmp4 rfl _ _ _) rfl ?_
            exact ⟨by rw [unhide HA]; rfl, hB⟩
        · have HS := hide (Wd.rd_plain s acc k hlt h47 h92)
          have hq : ((s[k].toNat : Int) == 47) = false := by rw [beq_eq_false_iff_ne]; omega
          have hq2 : ((s[k].toNat : Int) == 92) = false := by rw [beq_eq_false_iff_ne]; omega
          clear h47 h92
          go_wp2_with (go_at_call 13; refine (Try.Builder_WriteByte_k w.heap.size w.heap.size _ (s[k].toNat : Int) _ hI (by rw [Lib.byteCells_length]; omega) hsz).mono ?_)
          rintro e W1 ⟨rfl, h1, b1, _⟩
          go_wp2
          go_roundw
          case rel => exact ⟨k + 1, acc ++ [s[k]], by omega, by go_num, by rw [Lib.byteCells_append]; exact Or.inr h1, hB.trans b1, by simp; omega, by rw [← unhide HS]; exact HR⟩
          case measure => simp [intOf]; omega
    · have HA : Hid (ans (Wd.rd [] s.data.toList) = .tuple #[.string (Wd.str acc), .string ⟨#[]⟩, .bool false, .int .i64 0]) := by rw [Hid, ← unhide HR, Wd.rd_end s acc k (by omega)]; rfl
      clear HR
      go_wp2_with (go_at_call 14; refine (Try.Builder_String_any_k w.heap.size w.heap.size acc _ hI hsz).mono ?_)
      rintro e W1 ⟨rfl, _, b1, _⟩
      go_wp2
      (try simp only [Exit.inBlock, Exit.then])
      refine bodyPost_ret (results_tmp4 rfl _ _ _) rfl ?_
      exact ⟨by rw [unhide HA]; rfl, hB.trans b1⟩

set_option maxHeartbeats 2000000 in
theorem write_any (s : ByteArray) (w : World) (hs : 2 * s.size ≤ 140737488355328) :
    Calls Try.prog 7 #[.string s] w fun e w' => e = .returned (.string (Wd.str (Wd.wt s.data.toList))) ∧ Below w.heap.size w w' := by
  go_enter Try.func7, Try.ntmps7
  go_wp2
  go_loopw [4] (fun i wr => ∃ k : Nat, k ≤ s.size ∧ i = .int .i64 k ∧ Lib.IsBuilderF 36 5 w.heap.size w.heap.size (Lib.byteCells (Wd.wt (s.data.toList.take k))) wr ∧ Below w.heap.size w wr) (fun i _ => s.size - (intOf i).toNat)
  case atStart => exact ⟨0, Nat.zero_le _, rfl, Lib.IsBuilderF.of (Lib.fresh_isBuilder 36 5 w), (Below.refl _ w).alloc (Nat.le_refl _) _⟩
  case round =>
    obtain ⟨k, hk, rfl, hI, hB⟩ := hrel
    have hsz := hB.size
    have hln := Wd.wt_len (s.data.toList.take k)
    rw [Wd.take_len s k hk] at hln
    by_cases hlt : k < s.size
    · cases he : Wd.esc s[k] with
      | true =>
        have HS := hide (Wd.wt_esc s k hlt he)
        have HN := hide (fun W => needs_true s[k] W he)
        clear he
        generalize Wd.wt (s.data.toList.take k) = acc at *
        go_wp2_with (go_at_call 12; refine (unhide HN _).mono ?_; rintro e W1 ⟨rfl, rfl⟩)
        refine (Try.Builder_WriteByte_k w.heap.size w.heap.size _ 92 _ hI (by rw [Lib.byteCells_length]; omega) hsz).mono ?_
        rintro e W2 ⟨rfl, h1, b1, _⟩
        have b2 := hB.trans b1
        have hsz2 := b2.size
        have hI2 : Lib.IsBuilderF 36 5 w.heap.size w.heap.size (Lib.byteCells (acc ++ [92])) W2 := by rw [Lib.byteCells_append]; exact Or.inr h1
        clear hI h1 b1
        go_wp2_with (go_at_call 13; refine (Try.Builder_WriteByte_k w.heap.size w.heap.size _ (s[k].toNat : Int) _ hI2 (by rw [Lib.byteCells_length]; simp; omega) hsz2).mono ?_)
        rintro e W3 ⟨rfl, h1, b1, _⟩
        go_wp2
        go_roundw
        case rel => exact ⟨k + 1, by omega, by go_num, by rw [unhide HS, Lib.byteCells_append]; exact Or.inr h1, b2.trans b1⟩
        case measure => simp [intOf]; omega
      | false =>
        have HS := hide (Wd.wt_plain s k hlt he)
        have HN := hide (fun W => needs_false s[k] W he)
        clear he
        generalize Wd.wt (s.data.toList.take k) = acc at *
        go_wp2_with (go_at_call 12; refine (unhide HN _).mono ?_; rintro e W1 ⟨rfl, rfl⟩)
        refine (Try.Builder_WriteByte_k w.heap.size w.heap.size _ (s[k].toNat : Int) _ hI (by rw [Lib.byteCells_length]; omega) hsz).mono ?_
        rintro e W2 ⟨rfl, h1, b1, _⟩
        go_wp2
        go_roundw
        case rel => exact ⟨k + 1, by omega, by go_num, by rw [unhide HS, Lib.byteCells_append]; exact Or.inr h1, hB.trans b1⟩
        case measure => simp [intOf]; omega
    · have HF := hide (Wd.take_full s k (by omega))
      go_wp2_with (go_at_call 14; refine (Try.Builder_String_any_k w.heap.size w.heap.size _ _ hI hsz).mono ?_)
      rintro e W1 ⟨rfl, _, b1, _⟩
      go_wp2
      go_ret
      exact ⟨by rw [unhide HF]; rfl, hB.trans b1⟩
end RdW
end Go.Proofs.Ytmioplahlbapdab
