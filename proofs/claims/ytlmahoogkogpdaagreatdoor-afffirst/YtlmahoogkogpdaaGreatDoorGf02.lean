/- Contracts: words.needsBackslash, words.Read, words.Write answer what the plain definitions answer (of texts that the builder takes), and turn nothing old in memory. -/
import Derived.Test.YtlmahoogkogpdaaGreatDoorChecked
import Derived.Test.YtlmahoogkogpdaaGreatDoorGf00
import Derived.Test.YtlmahoogkogpdaaGreatDoorGf01
import Derived.WalkKit
import Derived.WalkSpells
import Derived.WalkLawsBesides
import Derived.Deep.QuietTactic
import Derived.Deep.RegionWith
import Derived.BigQuiet
import Derived.BigCall
import Derived.Deep.DeepFit
import Derived.Lib.Strings
import Derived.Sort.WalkA
import Derived.Sort.Walk13a
import Derived.Sort.AssemblyPlain
import Derived.Lib.SplitLaws
import Derived.Lib.SlicesCompact
import Derived.Laws.CopyOwn
namespace Go.Proofs.YtlmahoogkogpdaaGreatDoor
open Go.RowKit
namespace RdW

theorem hide {p : Prop} (h : p) : Hid p := h
theorem unhide {p : Prop} (h : Hid p) : p := h

theorem results_tmp4 {fn : Func} {t u v x : Tmp} (h : fn.results = #[.tmp t, .tmp u, .tmp v, .tmp x]) (tmps : Array Value) (P : Program) (w : World) :
    (results fn tmps).run P w = .ok (.tuple #[tmps.getD t undef, tmps.getD u undef, tmps.getD v undef, tmps.getD x undef]) w := by
  simp [results, h]
theorem wrap_small {n : Int} (h0 : 0 ≤ n) (h1 : n ≤ 9223372036854775807) : IntKind.i64.wrap n = n := by
  simp [IntKind.wrap, IntKind.signed, IntKind.bits]; omega

/-- Read's four answers, as a value -/
def ans : Option (List UInt8 × List UInt8 × Bool) → Value
  | some (a, r, c) => .tuple #[.string (Wd.str a), .string (Wd.str r), .bool c, .int .i64 0]
  | none => .tuple #[.string ⟨#[]⟩, .string ⟨#[]⟩, .bool false, .int .i64 20]

set_option maxHeartbeats 400000 in
theorem needs_true (b : UInt8) (w : World) (h : Wd.esc b = true) : Calls Tryz.prog 137 #[.int .u8 (b.toNat : Int)] w fun e w' => e = .returned (.bool true) ∧ w' = w := by
  rcases Wd.esc_cases h with h | h | h
  all_goals
    rw [h]
    clear h
    go_enter Tryz.func137, Tryz.ntmps137
    go_wp2
    go_ret
    exact ⟨rfl, rfl⟩
set_option maxHeartbeats 400000 in
theorem needs_false (b : UInt8) (w : World) (h : Wd.esc b = false) : Calls Tryz.prog 137 #[.int .u8 (b.toNat : Int)] w fun e w' => e = .returned (.bool false) ∧ w' = w := by
  obtain ⟨h1, h2, h3⟩ := Wd.esc_none h
  clear h
  have e1 : ((b.toNat : Int) == 92) = false := by rw [beq_eq_false_iff_ne]; omega
  have e2 : ((b.toNat : Int) == 47) = false := by rw [beq_eq_false_iff_ne]; omega
  have e3 : ((b.toNat : Int) == 35) = false := by rw [beq_eq_false_iff_ne]; omega
  clear h1 h2 h3
  go_enter Tryz.func137, Tryz.ntmps137
  go_wp2
  go_ret
  exact ⟨rfl, rfl⟩

set_option maxHeartbeats 4000000 in
theorem read_any (s : ByteArray) (w : World) (hs : s.size ≤ 140737488355328) :
    Calls Tryz.prog 112 #[.string s] w fun e w' => e = .returned (ans (Wd.rd [] s.data.toList)) ∧ Below w.heap.size w w' := by
  go_enter Tryz.func112, Tryz.ntmps112
  go_wp2
  go_loopw [7] (fun i wr => ∃ (k : Nat) (acc : List UInt8), k ≤ s.size ∧ i = .int .i64 k ∧ Lib.IsBuilderF 121 5 w.heap.size w.heap.size (Lib.byteCells acc) wr ∧ Below w.heap.size w wr ∧ acc.length ≤ k ∧ Hid (Wd.rd acc (s.data.toList.drop k) = Wd.rd [] s.data.toList)) (fun i _ => s.size - (intOf i).toNat)
  case atStart => exact ⟨0, [], Nat.zero_le _, rfl, Lib.IsBuilderF.of (Lib.fresh_isBuilder 121 5 w), (Below.refl _ w).alloc (Nat.le_refl _) _, Nat.le_refl _, Wd.rd_start s⟩
  case round =>
    obtain ⟨k, acc, hk, rfl, hI, hB, hal, HR⟩ := hrel
    have hsz := hB.size
    by_cases hlt : k < s.size
    · by_cases h47 : s[k].toNat = 47
      · have HA : Hid (ans (Wd.rd [] s.data.toList) = .tuple #[.string (Wd.str acc), .string (s.extract (k + 1) s.size), .bool true, .int .i64 0]) := by rw [Hid, ← unhide HR, Wd.rd_cut s acc k hlt h47, Wd.extract_end]; rfl
        have hq : ((s[k].toNat : Int) == 47) = true := by rw [beq_iff_eq]; omega
        have hk1 : (k : Int) + 1 ≤ (s.size : Int) := by omega
        have hwr : IntKind.i64.wrap ((k : Int) + 1) = (k : Int) + 1 := wrap_small (by omega) (by omega)
        have hI1 : Lib.IsBuilderF 121 5 w.heap.size w.heap.size (Lib.byteCells acc) wr.drew := hI
        have hsz1 : w.heap.size ≤ wr.drew.heap.size := hsz
        clear h47 HR
        go_wp2
        go_region_with (go_at_call 68; refine (Tryz.Builder_String_any_k w.heap.size w.heap.size acc _ hI1 hsz1).mono ?_; rintro e W1 ⟨rfl, _, b1, _⟩)
        all_goals
          go_wp2
          (try simp only [Exit.inBlock, Exit.then])
          refine bodyPost_ret (results_tmp4 rfl _ _ _) rfl ?_
          refine ⟨?_, hB.trans ⟨b1.os, b1.tape, b1.output, b1.size, b1.block⟩⟩
          rw [unhide HA]
          rfl
      · by_cases h92 : s[k].toNat = 92
        · have hq : ((s[k].toNat : Int) == 47) = false := by rw [beq_eq_false_iff_ne]; omega
          have hq2 : ((s[k].toNat : Int) == 92) = true := by rw [beq_iff_eq]; omega
          by_cases h1 : k + 1 < s.size
          · cases he : Wd.esc s[k + 1] with
            | true =>
              have HS := hide (Wd.rd_esc s acc k hlt h92 h1 he)
              have HN := hide (fun W => needs_true s[k + 1] W he)
              have hne : (((k : Int) + 1) == (s.size : Int)) = false := by rw [beq_eq_false_iff_ne]; omega
              clear h47 h92 he
              go_wp2_with (go_at_call 137; refine (unhide HN _).mono ?_; rintro e W1 ⟨rfl, rfl⟩)
              refine (Tryz.Builder_WriteByte_k w.heap.size w.heap.size _ (s[k + 1].toNat : Int) _ hI (by rw [Lib.byteCells_length]; omega) hsz).mono ?_
              rintro e W2 ⟨rfl, h2, b1, _⟩
              go_wp2
              go_roundw
              case rel => exact ⟨k + 2, acc ++ [s[k + 1]], by omega, by go_num, by rw [Lib.byteCells_append]; exact Or.inr h2, hB.trans b1, by simp; omega, by rw [← unhide HS]; exact HR⟩
              case measure => simp [intOf]; omega
            | false =>
              have HA : Hid (ans (Wd.rd [] s.data.toList) = .tuple #[.string ⟨#[]⟩, .string ⟨#[]⟩, .bool false, .int .i64 20]) := by rw [Hid, ← unhide HR, Wd.rd_bad s acc k hlt h92 h1 he]; rfl
              have HN := hide (fun W => needs_false s[k + 1] W he)
              have hne : (((k : Int) + 1) == (s.size : Int)) = false := by rw [beq_eq_false_iff_ne]; omega
              clear h47 h92 he HR
              go_wp2_with (go_at_call 137; refine (unhide HN _).mono ?_; rintro e W1 ⟨rfl, rfl⟩)
              (try simp only [Exit.inBlock, Exit.then])
              refine bodyPost_ret (results_tmp4 rfl _ _ _) rfl ?_
              exact ⟨by rw [unhide HA]; rfl, hB⟩
          · have HA : Hid (ans (Wd.rd [] s.data.toList) = .tuple #[.string ⟨#[]⟩, .string ⟨#[]⟩, .bool false, .int .i64 20]) := by rw [Hid, ← unhide HR, Wd.rd_last s acc k hlt h92 (by omega)]; rfl
            have hne : (((k : Int) + 1) == (s.size : Int)) = true := by rw [beq_iff_eq]; omega
            clear h47 h92 HR
            go_wp2
            (try simp only [Exit.inBlock, Exit.then])
            refine bodyPost_ret (results_tmp4 rfl _ _ _) rfl ?_
            exact ⟨by rw [unhide HA]; rfl, hB⟩
        · have HS := hide (Wd.rd_plain s acc k hlt h47 h92)
          have hq : ((s[k].toNat : Int) == 47) = false := by rw [beq_eq_false_iff_ne]; omega
          have hq2 : ((s[k].toNat : Int) == 92) = false := by rw [beq_eq_false_iff_ne]; omega
          clear h47 h92
          go_wp2_with (go_at_call 109; refine (Tryz.Builder_WriteByte_k w.heap.size w.heap.size _ (s[k].toNat : Int) _ hI (by rw [Lib.byteCells_length]; omega) hsz).mono ?_)
          rintro e W1 ⟨rfl, h1, b1, _⟩
          go_wp2
          go_roundw
          case rel => exact ⟨k + 1, acc ++ [s[k]], by omega, by go_num, by rw [Lib.byteCells_append]; exact Or.inr h1, hB.trans b1, by simp; omega, by rw [← unhide HS]; exact HR⟩
          case measure => simp [intOf]; omega
    · have HA : Hid (ans (Wd.rd [] s.data.toList) = .tuple #[.string (Wd.str acc), .string ⟨#[]⟩, .bool false, .int .i64 0]) := by rw [Hid, ← unhide HR, Wd.rd_end s acc k (by omega)]; rfl
      clear HR
      go_wp2_with (go_at_call 68; refine (Tryz.Builder_String_any_k w.heap.size w.heap.size acc _ hI hsz).mono ?_)
      rintro e W1 ⟨rfl, _, b1, _⟩
      go_wp2
      (try simp only [Exit.inBlock, Exit.then])
      refine bodyPost_ret (results_tmp4 rfl _ _ _) rfl ?_
      exact ⟨by rw [unhide HA]; rfl, hB.trans b1⟩

end RdW
end Go.Proofs.YtlmahoogkogpdaaGreatDoor
/- The sort of flags, its ground: how a world goes on from a world while a row of flags is turned; cmp.Less at flags. -/
namespace Go.Proofs.YtlmahoogkogpdaaGreatDoor
open Go.Sort Go.RowKit
namespace So

def Hid (p : Prop) : Prop := p
theorem hide {p : Prop} (h : p) : Hid p := h
theorem unhide {p : Prop} (h : Hid p) : p := h
abbrev encF : Int → Value := fun x => Value.int .u16 x
theorem swo : SWO ltInt := ⟨fun x => by simp [ltInt], fun x y z h1 h2 => by simp [ltInt] at *; omega, fun x y z h1 h2 => by simp [ltInt] at *; omega⟩

theorem less_any (x y : Int) (w : World) : Calls Tryz.prog 95 #[.int .u16 x, .int .u16 y] w fun e w' => e = .returned (.bool (ltInt x y)) ∧ w' = w := by
  go_enter Tryz.func95, Tryz.ntmps95
  go_wp2
  go_ret
  exact ⟨rfl, rfl⟩

section
variable {w wr : World} {blk off : Nat} {d dk : Array Int}
/-- the row's flags, place by place, behind a name -/
structure Seen (wr : World) (blk off : Nat) (dk : Array Int) (G : Nat → Int) : Prop where
  name : ∀ t, G t = dk[t]!
theorem at_cells (h : At encF w blk off dk wr) (hH : Holds encF w blk off d) (hs : dk.size = d.size) (hb : blk < w.heap.size) {G : Nat → Int} (hG : ∀ t, G t = dk[t]!) :
    (∀ t, t < d.size → wr.cell? ⟨blk, off + t, none⟩ = some (.int .u16 (G t))) ∧ ∀ t, t < d.size → wr.frozen? ⟨blk, off + t, none⟩ = false := by
  have hh := (h.holds hH hs hb).1
  exact ⟨fun t ht => by rw [hG]; exact (hh t (by omega)).1, fun t ht => (hh t (by omega)).2⟩
theorem at_drewN (h : At encF w blk off dk wr) (m : Nat) : At encF w blk off dk (wr.drewN m) := h.ahead m
/-- two flags exchanged -/
theorem at_swap (h : At encF w blk off dk wr) (hH : Holds encF w blk off d) (hs : dk.size = d.size) (hb : blk < w.heap.size) {i j : Nat} (hi : i < dk.size) (hj : j < dk.size) {x y : Value} (hx : x = encF dk[j]!) (hy : y = encF dk[i]!) :
    At encF w blk off (swp dk i j) ((wr.setCell ⟨blk, off + i, none⟩ x).setCell ⟨blk, off + j, none⟩ y) := by
  subst hx; subst hy
  have hh := (h.holds hH hs hb).1
  refine h.step hb (size_swp dk i j) ⟨0, ?_⟩
  rw [ahead_zero]
  rw [← putRow_swp encF wr blk off dk i j hi hj, putRow_self encF wr blk off dk hh]
end
end So
end Go.Proofs.YtlmahoogkogpdaaGreatDoor
/- What it is that a list of texts lies somewhere in memory; no walk. -/
namespace Go.Proofs.YtlmahoogkogpdaaGreatDoor
open Go.RowKit
namespace ArgS
def StrsAt (W : World) (v : Value) (L : List ByteArray) : Prop :=
  ∃ ao cap, v = .slice ao L.length cap ∧ L.length ≤ cap ∧ (0 < L.length → ∃ g off, ao = some ⟨g, off, none⟩ ∧ g < W.heap.size ∧ ∀ (j : Nat) x, L[j]? = some x → W.cell? ⟨g, off + j, none⟩ = some (.string x))
theorem StrsAt.form {W : World} {v : Value} {L : List ByteArray} (h : StrsAt W v L) : ∃ ao cap, v = .slice ao L.length cap ∧ L.length ≤ cap ∧ ∀ (j : Nat) x, L[j]? = some x → ∃ g off, ao = some ⟨g, off, none⟩ ∧ g < W.heap.size ∧ W.cell? ⟨g, off + j, none⟩ = some (.string x) := by
  obtain ⟨ao, cap, e, h1, h2⟩ := h
  refine ⟨ao, cap, e, h1, fun j x hx => ?_⟩
  have hj : j < L.length := (List.getElem?_eq_some_iff.1 hx).1
  obtain ⟨g, off, e2, hg, hc⟩ := h2 (by omega)
  exact ⟨g, off, e2, hg, hc j x hx⟩
end ArgS
end Go.Proofs.YtlmahoogkogpdaaGreatDoor
/- Plain mathematics of the pieces of a text of flags: no walk. -/
namespace Go.Proofs.YtlmahoogkogpdaaGreatDoor
namespace Cut
def dl (p : ByteArray) : List UInt8 := p.data.toList
def mk (l : List UInt8) : ByteArray := ⟨l.toArray⟩
theorem mk_dl (p : ByteArray) : mk (dl p) = p := by obtain ⟨⟨l⟩⟩ := p; rfl
theorem dl_mk (l : List UInt8) : dl (mk l) = l := by simp [dl, mk]
theorem undl {P : List ByteArray} {D : List (List UInt8)} (h : P.map dl = D) : P = D.map mk := by
  rw [← h, List.map_map]
  have : (mk ∘ dl) = id := by funext p; exact mk_dl p
  rw [this]
  simp
theorem dl_len (p : ByteArray) : (dl p).length = p.size := by obtain ⟨⟨l⟩⟩ := p; rfl
theorem dl_extract (s : ByteArray) (a b : Nat) : dl (s.extract a b) = ((dl s).drop a).take (b - a) := Lib.extract_data s a b

/-! side by side -/
def cutL (w : Nat) : Nat → List UInt8 → List (List UInt8)
  | 0, l => [l]
  | n + 1, l => if l.length ≤ w then [l] else l.take w :: cutL w n (l.drop w)
def cuts (w : Nat) (l : List UInt8) : List (List UInt8) := cutL w l.length l
theorem cutL_fuel {w : Nat} (hw : 0 < w) : ∀ (n m : Nat) (l : List UInt8), l.length ≤ n → l.length ≤ m → cutL w n l = cutL w m l
  | 0, m, l, h, h2 => by
    have : l = [] := List.eq_nil_of_length_eq_zero (by omega)
    subst this
    cases m <;> simp [cutL]
  | n + 1, 0, l, h, h2 => by
    have : l = [] := List.eq_nil_of_length_eq_zero (by omega)
    subst this
    simp [cutL]
  | n + 1, m + 1, l, h, h2 => by
    unfold cutL
    split
    · rfl
    · rw [cutL_fuel hw n m (l.drop w) (by simp; omega) (by simp; omega)]
theorem cuts_short {w : Nat} {l : List UInt8} (h : l.length ≤ w) : cuts w l = [l] := by
  unfold cuts
  cases hn : l.length with
  | zero => rfl
  | succ n => unfold cutL; rw [if_pos h]
theorem cuts_long {w : Nat} {l : List UInt8} (hw : 0 < w) (h : w < l.length) : cuts w l = l.take w :: cuts w (l.drop w) := by
  unfold cuts
  cases hn : l.length with
  | zero => omega
  | succ n =>
    rw [cutL, if_neg (by omega), cutL_fuel hw n (l.drop w).length (l.drop w) (by simp; omega) (Nat.le_refl _)]
theorem cutL_mem {w : Nat} : ∀ (n : Nat) (l : List UInt8), ∀ p ∈ cutL w n l, p.length ≤ l.length
  | 0, l, p, h => by simp [cutL] at h; subst h; exact Nat.le_refl _
  | n + 1, l, p, h => by
    unfold cutL at h
    split at h
    · simp at h; subst h; exact Nat.le_refl _
    · rcases List.mem_cons.1 h with h | h
      · subst h; simp; omega
      · have := cutL_mem n _ p h
        simp at this
        omega
theorem cutL_count {w : Nat} (hw : 0 < w) : ∀ (n : Nat) (l : List UInt8), (cutL w n l).length ≤ l.length + 1
  | 0, l => by simp [cutL]
  | n + 1, l => by
    unfold cutL
    split
    · simp
    · have := cutL_count hw n (l.drop w)
      simp at this ⊢
      omega
/-- one piece of the document's loop -/
theorem cuts_step {w i n : Nat} {l : List UInt8} {Q C : List (List UInt8)} (hw : 0 < w) (hn : l.length = n) (hi : i < n) (h : Q ++ cuts w (l.drop i) = C) :
    (i + w < n → (Q ++ [(l.drop i).take w]) ++ cuts w (l.drop (i + w)) = C) ∧ (n ≤ i + w → Q ++ [(l.drop i).take (n - i)] = C) := by
  constructor
  · intro hlt
    rw [cuts_long hw (by simp; omega), List.drop_drop] at h
    rw [← h]
    simp
  · intro hle
    rw [cuts_short (by simp; omega)] at h
    rw [← h, List.take_of_length_le (by simp; omega)]

/-! with commas between -/
def splitC : List UInt8 → List (List UInt8)
  | [] => [[]]
  | c :: t => if c = 44 then [] :: splitC t else match splitC t with | [] => [[c]] | p :: q => (c :: p) :: q
theorem splitC_none : ∀ {l : List UInt8}, 44 ∉ l → splitC l = [l]
  | [], _ => rfl
  | c :: t, h => by
    have h1 : c ≠ 44 := fun e => h (by simp [e])
    have h2 : 44 ∉ t := fun e => h (by simp [e])
    rw [splitC, if_neg h1, splitC_none h2]
theorem splitC_hit : ∀ {p t : List UInt8}, 44 ∉ p → splitC (p ++ 44 :: t) = p :: splitC t
  | [], t, _ => by simp [splitC]
  | c :: p, t, h => by
    have h1 : c ≠ 44 := fun e => h (by simp [e])
    have h2 : 44 ∉ p := fun e => h (by simp [e])
    rw [List.cons_append, splitC, if_neg h1, splitC_hit h2]
theorem splitC_mem : ∀ (l : List UInt8), ∀ p ∈ splitC l, p.length ≤ l.length
  | [], p, h => by simp [splitC] at h; subst h; exact Nat.le_refl _
  | c :: t, p, h => by
    have ih := splitC_mem t
    unfold splitC at h
    split at h
    · rcases List.mem_cons.1 h with h | h
      · subst h; simp
      · have := ih p h; simp; omega
    · split at h
      · simp at h; subst h; simp
      · rename_i q r e
        rcases List.mem_cons.1 h with h | h
        · subst h
          have := ih q (by rw [e]; simp)
          simp; omega
        · have := ih p (by rw [e]; simp [h])
          simp; omega
theorem splitC_count : ∀ (l : List UInt8), (splitC l).length ≤ l.length + 1
  | [] => by simp [splitC]
  | c :: t => by
    have ih := splitC_count t
    unfold splitC
    split
    · simp; omega
    · split
      · simp
      · rename_i q r e
        rw [e] at ih
        simp at ih ⊢
        omega
theorem splitK_C : ∀ (l : List UInt8), Lib.splitK [44] 0 (Lib.count l [44]) l = splitC l
  | [] => by rw [Lib.count_one]; rfl
  | b :: t => by
    have ih := splitK_C t
    by_cases h : b = 44
    · subst h
      have hix : Lib.index (44 :: t) [44] = 0 := by rw [Lib.index]; simp [List.isPrefixOf]
      rw [Lib.count_cons_eq, Nat.add_comm, Lib.splitK, hix]
      simp [splitC, ih]
    · rw [Lib.count_cons_ne b 44 t h]
      have hp : ([44] : List UInt8).isPrefixOf (b :: t) = false := by simp [List.isPrefixOf]; exact fun e => h e.symm
      have hix : Lib.index (b :: t) [44] = if Lib.index t [44] == -1 then -1 else Lib.index t [44] + 1 := by rw [Lib.index, hp]; simp
      rw [splitC, if_neg h, ← ih]
      cases hc : Lib.count t [44] with
      | zero => rfl
      | succ k =>
        have hm : Lib.index t [44] ≠ -1 := fun e => by rw [Lib.count_miss e] at hc; cases hc
        have hge := Lib.index_ge t [44]
        obtain ⟨j, hj⟩ : ∃ j : Nat, Lib.index t [44] = j := ⟨(Lib.index t [44]).toNat, by omega⟩
        have hm2 : (Lib.index t [44] == -1) = false := by rw [beq_eq_false_iff_ne]; exact hm
        have hm3 : ((Lib.index t [44] + 1) == -1) = false := by rw [beq_eq_false_iff_ne]; omega
        rw [Lib.splitK, Lib.splitK, hix, hm2]
        simp only [Bool.false_eq_true, if_false, hm3]
        have e1 : (Lib.index t [44] + 1).toNat + 0 = j + 1 := by omega
        have e2 : (Lib.index t [44]).toNat + 0 = j := by omega
        have e3 : (Lib.index t [44] + 1).toNat + ([44] : List UInt8).length = j + 1 + 1 := by simp; omega
        have e4 : (Lib.index t [44]).toNat + ([44] : List UInt8).length = j + 1 := by simp; omega
        rw [e1, e2, e3, e4]
        simp
theorem splitB_C (s : ByteArray) : (Lib.splitB ⟨#[44]⟩ 0 (Lib.countB s ⟨#[44]⟩) s).map dl = splitC (dl s) := by
  have h := Lib.splitB_data ⟨#[44]⟩ 0 (Lib.countB s ⟨#[44]⟩) s
  have e : Lib.countB s ⟨#[44]⟩ = Lib.count (dl s) [44] := rfl
  rw [e] at h ⊢
  exact h.trans (splitK_C (dl s))
theorem comma_hit {i b n : Nat} {l : List UInt8} {Q C : List (List UInt8)} (hn : l.length = n) (hb : b ≤ i) (hi : i < n) (hc : l[i]? = some 44) (h : Q ++ splitC (l.drop b) = C) (hno : 44 ∉ (l.drop b).take (i - b)) :
    (Q ++ [(l.drop b).take (i - b)]) ++ splitC (l.drop (i + 1)) = C := by
  have e : l.drop b = (l.drop b).take (i - b) ++ 44 :: l.drop (i + 1) := by
    have h1 : l.drop i = 44 :: l.drop (i + 1) := by
      have := List.drop_eq_getElem_cons (l := l) (i := i) (by omega)
      rw [this, (List.getElem?_eq_some_iff.1 hc).2]
    have h2 : (l.drop b).drop (i - b) = l.drop i := by rw [List.drop_drop]; congr 1; omega
    rw [← h1, ← h2, List.take_append_drop]
  rw [e, splitC_hit hno] at h
  rw [← h]
  simp
theorem comma_miss {i b n : Nat} {l : List UInt8} (hn : l.length = n) (hb : b ≤ i) (hi : i < n) (hc : l[i]? ≠ some 44) (hno : 44 ∉ (l.drop b).take (i - b)) : 44 ∉ (l.drop b).take (i + 1 - b) := by
  intro h
  have e : i + 1 - b = (i - b) + 1 := by omega
  have hl : i - b < (l.drop b).length := by simp; omega
  rw [e, List.take_succ_eq_append_getElem hl] at h
  rcases List.mem_append.1 h with h | h
  · exact hno h
  · simp at h
    have e2 : b + (i - b) = i := by omega
    apply hc
    rw [List.getElem?_eq_getElem (by omega)]
    congr 1
    rw [h]
    congr 1
    omega
theorem comma_end {b n : Nat} {l : List UInt8} {Q C : List (List UInt8)} (hn : l.length = n) (h : Q ++ splitC (l.drop b) = C) (hno : 44 ∉ (l.drop b).take (n - b)) : Q ++ [(l.drop b).take (n - b)] = C := by
  have e : (l.drop b).take (n - b) = l.drop b := List.take_of_length_le (by simp; omega)
  rw [e] at hno ⊢
  rw [splitC_none hno] at h
  exact h
end Cut
end Go.Proofs.YtlmahoogkogpdaaGreatDoor
/- Plain mathematics of sets of flags: rising lists; what it is that flags lie in memory; no walk. -/
namespace Go.Proofs.YtlmahoogkogpdaaGreatDoor
open Go.Sort Go.RowKit
namespace So

/-- l is the set of what stands in L: rising, each once -/
def IsSet (l L : List Int) : Prop := l.Pairwise (· < ·) ∧ ∀ x, x ∈ l ↔ x ∈ L
theorem rising_unique : ∀ {l m : List Int}, l.Pairwise (· < ·) → m.Pairwise (· < ·) → (∀ x, x ∈ l ↔ x ∈ m) → l = m
  | [], [], _, _, _ => rfl
  | [], y :: m, _, _, h => absurd ((h y).2 (by simp)) (by simp)
  | x :: l, [], _, _, h => absurd ((h x).1 (by simp)) (by simp)
  | x :: l, y :: m, h1, h2, h => by
    rw [List.pairwise_cons] at h1 h2
    have e : x = y := by
      have hx := (h x).1 (by simp)
      have hy := (h y).2 (by simp)
      rcases List.mem_cons.1 hx with e | hx
      · exact e
      · rcases List.mem_cons.1 hy with e | hy
        · exact e.symm
        · have := h1.1 y hy
          have := h2.1 x hx
          omega
    subst e
    rw [rising_unique h1.2 h2.2 fun z => ?_]
    constructor
    · intro hz
      rcases List.mem_cons.1 ((h z).1 (by simp [hz])) with e | hz2
      · have := h1.1 z hz; omega
      · exact hz2
    · intro hz
      rcases List.mem_cons.1 ((h z).2 (by simp [hz])) with e | hz2
      · have := h2.1 z hz; omega
      · exact hz2
theorem IsSet.unique {l m L : List Int} (h1 : IsSet l L) (h2 : IsSet m L) : l = m := rising_unique h1.1 h2.1 fun x => (h1.2 x).trans (h2.2 x).symm
theorem IsSet.congr {l L M : List Int} (h : IsSet l L) (e : ∀ x, x ∈ L ↔ x ∈ M) : IsSet l M := ⟨h.1, fun x => (h.2 x).trans (e x)⟩
theorem sub_len : ∀ {l L : List Int}, l.Pairwise (· < ·) → (∀ x ∈ l, x ∈ L) → l.length ≤ L.length
  | [], _, _, _ => Nat.zero_le _
  | x :: t, L, h, hs => by
    rw [List.pairwise_cons] at h
    have hx := hs x (by simp)
    have ih := sub_len (l := t) (L := L.erase x) h.2 fun y hy => by
      have : x < y := h.1 y hy
      exact (List.mem_erase_of_ne (by omega)).2 (hs y (by simp [hy]))
    rw [List.length_erase_of_mem hx] at ih
    have : 0 < L.length := List.length_pos_of_mem hx
    rw [List.length_cons]
    omega
theorem IsSet.len {l L : List Int} (h : IsSet l L) : l.length ≤ L.length := sub_len h.1 fun x hx => (h.2 x).1 hx
/-- a sorted array without its repeats -/
theorem compact_set {d : Array Int} (hs : ∀ i j, i < j → j < d.size → d[i]! ≤ d[j]!) : IsSet (Lib.compactUpTo d d.size) d.toList := by
  constructor
  · unfold Lib.compactUpTo
    rw [List.pairwise_map]
    have hr : (List.range d.size).Pairwise (· < ·) := List.pairwise_lt_range
    have hf := hr.filter (Lib.keeps d)
    refine List.Pairwise.imp_of_mem ?_ hf
    intro i j hi hj hij
    obtain ⟨_, hk⟩ := List.mem_filter.1 hj
    have hjs : j < d.size := List.mem_range.1 (List.mem_filter.1 hj).1
    have hne : d[j]! ≠ d[j - 1]! := by
      unfold Lib.keeps at hk
      have h0 : ¬ j = 0 := by omega
      simpa [h0] using hk
    have h1 : d[j - 1]! ≤ d[j]! := hs (j - 1) j (by omega) hjs
    by_cases e : i = j - 1
    · subst e; omega
    · have := hs i (j - 1) (by omega) (by omega); omega
  · intro x
    unfold Lib.compactUpTo
    constructor
    · intro h
      obtain ⟨i, hi, rfl⟩ := List.mem_map.1 h
      have : i < d.size := List.mem_range.1 (List.mem_filter.1 hi).1
      rw [getElem!_pos d i this]
      simp
    · intro h
      obtain ⟨j, hj, rfl⟩ := List.getElem_of_mem h
      have hj : j < d.size := by simpa using hj
      have key : ∀ n (_ : n < d.size), ∃ i, i ≤ n ∧ Lib.keeps d i = true ∧ d[i]! = d[n]! := by
        intro n
        induction n with
        | zero => intro _; exact ⟨0, Nat.le_refl _, by simp [Lib.keeps], rfl⟩
        | succ n ih =>
          intro hn
          by_cases hk : Lib.keeps d (n + 1) = true
          · exact ⟨n + 1, Nat.le_refl _, hk, rfl⟩
          · obtain ⟨i, h1, h2, h3⟩ := ih (by omega)
            refine ⟨i, by omega, h2, ?_⟩
            rw [h3]
            unfold Lib.keeps at hk
            simp at hk
            exact hk.symm
      obtain ⟨i, h1, h2, h3⟩ := key j hj
      refine List.mem_map.2 ⟨i, List.mem_filter.2 ⟨List.mem_range.2 (by omega), h2⟩, ?_⟩
      rw [h3, getElem!_pos d j hj]
      simp

/-- the set of a list, reckoned -/
def ins (x : Int) : List Int → List Int
  | [] => [x]
  | y :: t => if x < y then x :: y :: t else if x = y then y :: t else y :: ins x t
def setOf (L : List Int) : List Int := L.foldr ins []
theorem ins_mem (x : Int) : ∀ (l : List Int) (z : Int), z ∈ ins x l ↔ z = x ∨ z ∈ l
  | [], z => by simp [ins]
  | y :: t, z => by
    unfold ins
    split
    · simp
    · split
      · rename_i h; subst h; simp
      · rw [List.mem_cons, ins_mem x t z, List.mem_cons]
        constructor
        · rintro (h | h | h)
          · exact .inr (.inl h)
          · exact .inl h
          · exact .inr (.inr h)
        · rintro (h | h | h)
          · exact .inr (.inl h)
          · exact .inl h
          · exact .inr (.inr h)
theorem ins_rising (x : Int) : ∀ {l : List Int}, l.Pairwise (· < ·) → (ins x l).Pairwise (· < ·)
  | [], _ => by simp [ins]
  | y :: t, h => by
    rw [List.pairwise_cons] at h
    unfold ins
    split
    · rename_i hxy
      rw [List.pairwise_cons]
      refine ⟨fun z hz => ?_, List.pairwise_cons.2 h⟩
      rcases List.mem_cons.1 hz with e | hz
      · omega
      · have := h.1 z hz; omega
    · split
      · exact List.pairwise_cons.2 h
      · rw [List.pairwise_cons]
        refine ⟨fun z hz => ?_, ins_rising x h.2⟩
        rcases (ins_mem x t z).1 hz with e | hz
        · omega
        · exact h.1 z hz
theorem setOf_set : ∀ (L : List Int), IsSet (setOf L) L
  | [] => ⟨by simp [setOf], fun x => by simp [setOf]⟩
  | x :: t => by
    have ih := setOf_set t
    refine ⟨ins_rising x ih.1, fun z => ?_⟩
    show z ∈ ins x (setOf t) ↔ _
    rw [ins_mem, ih.2, List.mem_cons]
theorem IsSet.eq {l L : List Int} (h : IsSet l L) : l = setOf L := h.unique (setOf_set L)
theorem setOf_congr {L M : List Int} (h : ∀ x, x ∈ L ↔ x ∈ M) : setOf L = setOf M := ((setOf_set L).congr h).eq
theorem mem_setOf {L : List Int} {x : Int} : x ∈ setOf L ↔ x ∈ L := (setOf_set L).2 x

/-! flags in a block of their own -/
def FRow (n₀ : Nat) (W : World) (v : Value) (l : List Int) : Prop :=
  ∃ g cap cur, v = .slice (some ⟨g, 0, none⟩) l.length cap ∧ n₀ ≤ g ∧ W.heap[g]? = some (.cells cur 45 (0, 0)) ∧ l.length ≤ cap ∧ cap ≤ maxLen ∧ cap = cur.size ∧ cur.toList.take l.length = l.map encF
/-- a list of flags, wherever it lies -/
def FArg (W : World) (v : Value) (l : List Int) : Prop :=
  ∃ ao cap, v = .slice ao l.length cap ∧ l.length ≤ cap ∧ cap ≤ maxLen ∧ (ao = none → cap = 0) ∧ (0 < l.length → ∃ g off, ao = some ⟨g, off, none⟩ ∧ g < W.heap.size ∧ ∀ (j : Nat) x, l[j]? = some x → W.cell? ⟨g, off + j, none⟩ = some (encF x))
theorem FArg.below {W W' : World} {v : Value} {l : List Int} (h : FArg W v l) (hB : Go.RowKit.Below W.heap.size W W') : FArg W' v l := by
  obtain ⟨ao, cap, e, h1, h2, h2', h3⟩ := h
  refine ⟨ao, cap, e, h1, h2, h2', fun h0 => ?_⟩
  obtain ⟨g, off, e2, hg, hc⟩ := h3 h0
  exact ⟨g, off, e2, Nat.lt_of_lt_of_le hg hB.size, fun j x hx => (hB.cell (p := ⟨g, off + j, none⟩) hg).trans (hc j x hx)⟩
theorem FRow.cells {n₀ : Nat} {W : World} {v : Value} {l : List Int} (h : FRow n₀ W v l) : ∃ g cap, v = .slice (some ⟨g, 0, none⟩) l.length cap ∧ n₀ ≤ g ∧ g < W.heap.size ∧ l.length ≤ cap ∧ cap ≤ maxLen ∧ Holds encF W g 0 l.toArray := by
  obtain ⟨g, cap, cur, e, hg, hh, h1, h2, h3, h4⟩ := h
  refine ⟨g, cap, e, hg, (Array.getElem?_eq_some_iff.1 hh).1, h1, h2, fun j hj => ?_⟩
  have hj : j < l.length := by simpa using hj
  have hv : (cur.toList.take l.length)[j]? = some (encF l[j]) := by rw [h4]; simp [hj]
  rw [List.getElem?_take, if_pos hj] at hv
  have e2 : (l.toArray)[j]! = l[j] := by rw [getElem!_pos l.toArray j (by simpa using hj)]; simp
  rw [e2]
  constructor
  · simp only [World.cell?, hh, Nat.zero_add]
    simpa using hv
  · simp [World.frozen?, hh]
theorem FRow.arg {n₀ : Nat} {W : World} {v : Value} {l : List Int} (h : FRow n₀ W v l) : FArg W v l := by
  obtain ⟨g, cap, e, hg, hgs, h1, h2, hH⟩ := h.cells
  refine ⟨_, cap, e, h1, h2, (fun h => by cases h), fun _ => ⟨g, 0, rfl, hgs, fun j x hx => ?_⟩⟩
  have hj : j < l.length := (List.getElem?_eq_some_iff.1 hx).1
  have := (hH j (by simpa using hj)).1
  rw [this]
  congr 2
  rw [getElem!_pos l.toArray j (by simpa using hj)]
  have := List.getElem?_eq_some_iff.1 hx
  obtain ⟨_, e⟩ := this
  simp [e]
theorem FRow.below {n₀ : Nat} {W W' : World} {v : Value} {l : List Int} (h : FRow n₀ W v l) (hB : Go.RowKit.Below W.heap.size W W') : FRow n₀ W' v l := by
  obtain ⟨g, cap, cur, e, hg, hh, r⟩ := h
  exact ⟨g, cap, cur, e, hg, by rw [hB.block g (Array.getElem?_eq_some_iff.1 hh).1]; exact hh, r⟩
theorem FRow.low {n₀ n₁ : Nat} {W : World} {v : Value} {l : List Int} (h : FRow n₀ W v l) (k : n₁ ≤ n₀) : FRow n₁ W v l := by
  obtain ⟨g, cap, cur, e, hg, r⟩ := h
  exact ⟨g, cap, cur, e, Nat.le_trans k hg, r⟩
theorem at_below {n₀ g off : Nat} {W W' : World} {d : Array Int} (h : At encF W g off d W') (hg : n₀ ≤ g) (hn : n₀ ≤ W.heap.size) : Go.RowKit.Below n₀ W W' := by
  obtain ⟨n, os, rfl⟩ := h
  refine ⟨rfl, rfl, rfl, ?_, fun k hk => ?_⟩
  · simp
  · rw [heap_grow_old _ _ (by simp; omega)]
    show (W.heap.modify g _)[k]? = _
    rw [Array.getElem?_modify, if_neg (by omega)]
/-- a row turned in its place -/
theorem FRow.at {n₀ g cap : Nat} {W W' : World} {l : List Int} {d : Array Int} (h : FRow n₀ W (.slice (some ⟨g, 0, none⟩) l.length cap) l) (ha : At encF W g 0 d W') (hd : d.size = l.length) : FRow n₀ W' (.slice (some ⟨g, 0, none⟩) l.length cap) d.toList := by
  obtain ⟨g2, cap2, cur, e, hg, hh, h1, h2, h3, h4⟩ := h
  injection e with e1 _ e3
  injection e1 with e1
  injection e1 with e1 _ _
  subst e1; subst e3
  obtain ⟨n, os, rfl⟩ := ha
  have hgs : g < W.heap.size := (Array.getElem?_eq_some_iff.1 hh).1
  refine ⟨g, cap, putCells encF 0 d cur, by simp [hd], hg, ?_, by simpa [hd] using h1, h2, by simpa [putCells] using h3, ?_⟩
  · rw [heap_grow_old _ _ (by simp; exact hgs)]
    show (W.heap.modify g _)[g]? = _
    rw [Array.getElem?_modify, if_pos rfl, hh]
    rfl
  · apply List.ext_getElem?
    intro k
    rw [List.getElem?_take]
    by_cases hk : k < d.toList.length
    · have hk2 : k < d.size := by simpa using hk
      rw [if_pos hk]
      have hc : k < cur.size := by omega
      simp [putCells, hc, hk2]
    · rw [if_neg hk]
      rw [List.getElem?_eq_none (by simpa using hk)]
theorem FRow.take {n₀ g cap : Nat} {W : World} {l : List Int} (h : FRow n₀ W (.slice (some ⟨g, 0, none⟩) l.length cap) l) {m : List Int} (hm : m <+: l) : FRow n₀ W (.slice (some ⟨g, 0, none⟩) m.length cap) m := by
  obtain ⟨g2, cap2, cur, e, hg, hh, h1, h2, h3, h4⟩ := h
  injection e with e1 _ e3
  injection e1 with e1
  injection e1 with e1 _ _
  subst e1; subst e3
  obtain ⟨t, rfl⟩ := hm
  refine ⟨g, cap, cur, rfl, hg, hh, by simp at h1; omega, h2, h3, ?_⟩
  have := congrArg (List.take m.length) h4
  rw [List.take_take] at this
  simpa using this
theorem FRow.owns {n₀ : Nat} {W : World} {v : Value} {l : List Int} (h : FRow n₀ W v l) : W.ownsRow n₀ 45 1 v l.length (l.map encF) := by
  obtain ⟨g, cap, cur, e, hg, hh, h1, h2, h3, h4⟩ := h
  exact ⟨by simp, .inr ⟨g, cap, cur, e, hg, hh, h1, h2, by omega, by rw [Nat.mul_one]; exact h4⟩⟩
/-- what an append leaves: nil, or a row -/
theorem farg_of_owns {n₀ : Nat} {W : World} {v : Value} {l : List Int} (h : W.ownsRow n₀ 45 1 v l.length (l.map encF)) : FArg W v l ∧ ((v = .slice none 0 0 ∧ l = []) ∨ FRow n₀ W v l) := by
  obtain ⟨_, ⟨rfl, h0⟩ | ⟨g, cap, cur, e, hg, hh, h1, h2, h3, h4⟩⟩ := h
  · have : l = [] := List.eq_nil_of_length_eq_zero h0
    subst this
    exact ⟨⟨none, 0, rfl, Nat.le_refl _, Nat.zero_le _, fun _ => rfl, fun h => absurd h (by simp)⟩, .inl ⟨rfl, rfl⟩⟩
  · rw [Nat.mul_one] at h4
    have hF : FRow n₀ W v l := ⟨g, cap, cur, e, hg, hh, h1, h2, by omega, h4⟩
    exact ⟨hF.arg, .inr hF⟩
end So
end Go.Proofs.YtlmahoogkogpdaaGreatDoor
