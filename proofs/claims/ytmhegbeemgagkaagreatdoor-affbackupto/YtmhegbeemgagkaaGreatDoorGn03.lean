import Derived.Test.YtmhegbeemgagkaaGreatDoorChecked
import Derived.Sort.Walk13a
import Derived.Sort.AssemblyPlain
import Derived.Lib.SplitLaws
import Derived.Lib.SlicesCompact
import Derived.Laws.CopyOwn
import Derived.Deep.CutRange
import Derived.Sort.Walk7
set_option maxHeartbeats 8000000
set_option maxRecDepth 100000
namespace Go.Proofs.YtmhegbeemgagkaaGreatDoor
open Go.Sort Go.RowKit
namespace So

def Hid (p : Prop) : Prop := p
theorem hide {p : Prop} (h : p) : Hid p := h
theorem unhide {p : Prop} (h : Hid p) : p := h
abbrev encF : Int → Value := fun x => Value.int .u16 x
theorem swo : SWO ltInt := ⟨fun x => by simp [ltInt], fun x y z h1 h2 => by simp [ltInt] at *; omega, fun x y z h1 h2 => by simp [ltInt] at *; omega⟩

theorem less_any (x y : Int) (w : World) : Calls Tryz.prog 129 #[.int .u16 x, .int .u16 y] w fun e w' => e = .returned (.bool (ltInt x y)) ∧ w' = w := by
 go_enter Tryz.func129, Tryz.ntmps129
 go_wp2
 go_ret
 exact ⟨rfl, rfl⟩

section
variable {w wr : World} {blk off : Nat} {d dk : Array Int}
theorem at_cells (h : At encF w blk off dk wr) (hH : Holds encF w blk off d) (hs : dk.size = d.size) (hb : blk < w.heap.size) {G : Nat → Int} (hG : ∀ t, G t = dk[t]!) :
  (∀ t, t < d.size → wr.cell? ⟨blk, off + t, none⟩ = some (.int .u16 (G t))) ∧ ∀ t, t < d.size → wr.frozen? ⟨blk, off + t, none⟩ = false := by
 have hh := (h.holds hH hs hb).1
 exact ⟨fun t ht => by rw [hG]; exact (hh t (by omega)).1, fun t ht => (hh t (by omega)).2⟩
theorem at_drewN (h : At encF w blk off dk wr) (m : Nat) : At encF w blk off dk (wr.drewN m) := h.ahead m
theorem at_swap (h : At encF w blk off dk wr) (hH : Holds encF w blk off d) (hs : dk.size = d.size) (hb : blk < w.heap.size) {i j : Nat} (hi : i < dk.size) (hj : j < dk.size) {x y : Value} (hx : x = encF dk[j]!) (hy : y = encF dk[i]!) :
  At encF w blk off (swp dk i j) ((wr.setCell ⟨blk, off + i, none⟩ x).setCell ⟨blk, off + j, none⟩ y) := by
 subst hx; subst hy
 have hh := (h.holds hH hs hb).1
 refine h.step hb (size_swp dk i j) ⟨0, ?_⟩
 rw [ahead_zero]
 rw [← putRow_swp encF wr blk off dk i j hi hj, putRow_self encF wr blk off dk hh]
end
end So
end Go.Proofs.YtmhegbeemgagkaaGreatDoor
namespace Go.Proofs.YtmhegbeemgagkaaGreatDoor
open Go.RowKit
namespace ArgS
def StrsAt (W : World) (v : Value) (L : List ByteArray) : Prop :=
 ∃ ao cap, v = .slice ao L.length cap ∧ L.length ≤ cap ∧ (0 < L.length → ∃ g off, ao = some ⟨g, off, none⟩ ∧ g < W.heap.size ∧ ∀ (j : Nat) x, L[j]? = some x → W.cell? ⟨g, off + j, none⟩ = some (.string x))
theorem StrsAt.form {W : World} {v : Value} {L : List ByteArray} (h : StrsAt W v L) : ∃ ao cap, v = .slice ao L.length cap ∧ L.length ≤ cap ∧ ∀ (j : Nat) x, L[j]? = some x → ∃ g off, ao = some ⟨g, off, none⟩ ∧ g < W.heap.size ∧ W.cell? ⟨g, off + j, none⟩ = some (.string x) := by
 obtain ⟨ao, cap, e, h1, h2⟩ := h
 refine ⟨ao, cap, e, h1, fun j x hx => ?_⟩
 have hj : j < L.length := (List.getElem?_eq_some_iff.1 hx).1
 obtain ⟨g, off, e2, hg, hc⟩ := h2 (by omega)
 exact ⟨g, off, e2, hg, hc j x hx⟩
end ArgS
namespace Cut
def dl (p : ByteArray) : List UInt8 := p.data.toList
def mk (l : List UInt8) : ByteArray := ⟨l.toArray⟩
theorem mk_dl (p : ByteArray) : mk (dl p) = p := by obtain ⟨⟨l⟩⟩ := p; rfl
theorem dl_mk (l : List UInt8) : dl (mk l) = l := by simp [dl, mk]
theorem undl {P : List ByteArray} {D : List (List UInt8)} (h : P.map dl = D) : P = D.map mk := by
 rw [← h, List.map_map]
 have : (mk ∘ dl) = id := by funext p; exact mk_dl p
 rw [this]
 simp
theorem dl_len (p : ByteArray) : (dl p).length = p.size := by obtain ⟨⟨l⟩⟩ := p; rfl
theorem dl_extract (s : ByteArray) (a b : Nat) : dl (s.extract a b) = ((dl s).drop a).take (b - a) := Lib.extract_data s a b

def cutL (w : Nat) : Nat → List UInt8 → List (List UInt8)
 | 0, l => [l]
 | n + 1, l => if l.length ≤ w then [l] else l.take w :: cutL w n (l.drop w)
def cuts (w : Nat) (l : List UInt8) : List (List UInt8) := cutL w l.length l
theorem cutL_fuel {w : Nat} (hw : 0 < w) : ∀ (n m : Nat) (l : List UInt8), l.length ≤ n → l.length ≤ m → cutL w n l = cutL w m l
 | 0, m, l, h, h2 => by
  have : l = [] := List.eq_nil_of_length_eq_zero (by omega)
  subst this
  cases m <;> simp [cutL]
 | n + 1, 0, l, h, h2 => by
  have : l = [] := List.eq_nil_of_length_eq_zero (by omega)
  subst this
  simp [cutL]
 | n + 1, m + 1, l, h, h2 => by
  unfold cutL
  split
  ·rfl
  ·rw [cutL_fuel hw n m (l.drop w) (by simp; omega) (by simp; omega)]
theorem cuts_short {w : Nat} {l : List UInt8} (h : l.length ≤ w) : cuts w l = [l] := by
 unfold cuts
 cases hn : l.length with
 | zero => rfl
 | succ n => unfold cutL; rw [if_pos h]
theorem cuts_long {w : Nat} {l : List UInt8} (hw : 0 < w) (h : w < l.length) : cuts w l = l.take w :: cuts w (l.drop w) := by
 unfold cuts
 cases hn : l.length with
 | zero => omega
 | succ n =>
  rw [cutL, if_neg (by omega), cutL_fuel hw n (l.drop w).length (l.drop w) (by simp; omega) (Nat.le_refl _)]
theorem cutL_mem {w : Nat} : ∀ (n : Nat) (l : List UInt8), ∀ p ∈ cutL w n l, p.length ≤ l.length
 | 0, l, p, h => by simp [cutL] at h; subst h; exact Nat.le_refl _
 | n + 1, l, p, h => by
  unfold cutL at h
  split at h
  ·simp at h; subst h; exact Nat.le_refl _
  ·rcases List.mem_cons.1 h with h | h
   ·subst h; simp; omega
   ·have := cutL_mem n _ p h
    simp at this
    omega
theorem cutL_count {w : Nat} (hw : 0 < w) : ∀ (n : Nat) (l : List UInt8), (cutL w n l).length ≤ l.length + 1
 | 0, l => by simp [cutL]
 | n + 1, l => by
  unfold cutL
  split
  ·simp
  ·have := cutL_count hw n (l.drop w)
   simp at this ⊢
   omega
def splitC : List UInt8 → List (List UInt8)
 | [] => [[]]
 | c :: t => if c = 44 then [] :: splitC t else match splitC t with | [] => [[c]] | p :: q => (c :: p) :: q
theorem splitC_none : ∀ {l : List UInt8}, 44 ∉ l → splitC l = [l]
 | [], _ => rfl
 | c :: t, h => by
  have h1 : c ≠ 44 := fun e => h (by simp [e])
  have h2 : 44 ∉ t := fun e => h (by simp [e])
  rw [splitC, if_neg h1, splitC_none h2]
theorem splitC_hit : ∀ {p t : List UInt8}, 44 ∉ p → splitC (p ++ 44 :: t) = p :: splitC t
 | [], t, _ => by simp [splitC]
 | c :: p, t, h => by
  have h1 : c ≠ 44 := fun e => h (by simp [e])
  have h2 : 44 ∉ p := fun e => h (by simp [e])
  rw [List.cons_append, splitC, if_neg h1, splitC_hit h2]
theorem splitC_mem : ∀ (l : List UInt8), ∀ p ∈ splitC l, p.length ≤ l.length
 | [], p, h => by simp [splitC] at h; subst h; exact Nat.le_refl _
 | c :: t, p, h => by
  have ih := splitC_mem t
  unfold splitC at h
  split at h
  ·rcases List.mem_cons.1 h with h | h
   ·subst h; simp
   ·have := ih p h; simp; omega
  ·split at h
   ·simp at h; subst h; simp
   ·rename_i q r e
    rcases List.mem_cons.1 h with h | h
    ·subst h
     have := ih q (by rw [e]; simp)
     simp; omega
    ·have := ih p (by rw [e]; simp [h])
     simp; omega
theorem splitC_count : ∀ (l : List UInt8), (splitC l).length ≤ l.length + 1
 | [] => by simp [splitC]
 | c :: t => by
  have ih := splitC_count t
  unfold splitC
  split
  ·simp; omega
  ·split
   ·simp
   ·rename_i q r e
    rw [e] at ih
    simp at ih ⊢
    omega
theorem splitK_C : ∀ (l : List UInt8), Lib.splitK [44] 0 (Lib.count l [44]) l = splitC l
 | [] => by rw [Lib.count_one]; rfl
 | b :: t => by
  have ih := splitK_C t
  by_cases h : b = 44
  ·subst h
   have hix : Lib.index (44 :: t) [44] = 0 := by rw [Lib.index]; simp [List.isPrefixOf]
   rw [Lib.count_cons_eq, Nat.add_comm, Lib.splitK, hix]
   simp [splitC, ih]
  ·rw [Lib.count_cons_ne b 44 t h]
   have hp : ([44] : List UInt8).isPrefixOf (b :: t) = false := by simp [List.isPrefixOf]; exact fun e => h e.symm
   have hix : Lib.index (b :: t) [44] = if Lib.index t [44] == -1 then -1 else Lib.index t [44] + 1 := by rw [Lib.index, hp]; simp
   rw [splitC, if_neg h, ← ih]
   cases hc : Lib.count t [44] with
   | zero => rfl
   | succ k =>
    have hm : Lib.index t [44] ≠ -1 := fun e => by rw [Lib.count_miss e] at hc; cases hc
    have hge := Lib.index_ge t [44]
    obtain ⟨j, hj⟩ : ∃ j : Nat, Lib.index t [44] = j := ⟨(Lib.index t [44]).toNat, by omega⟩
    have hm2 : (Lib.index t [44] == -1) = false := by rw [beq_eq_false_iff_ne]; exact hm
    have hm3 : ((Lib.index t [44] + 1) == -1) = false := by rw [beq_eq_false_iff_ne]; omega
    rw [Lib.splitK, Lib.splitK, hix, hm2]
    simp only [Bool.false_eq_true, if_false, hm3]
    have e1 : (Lib.index t [44] + 1).toNat + 0 = j + 1 := by omega
    have e2 : (Lib.index t [44]).toNat + 0 = j := by omega
    have e3 : (Lib.index t [44] + 1).toNat + ([44] : List UInt8).length = j + 1 + 1 := by simp; omega
    have e4 : (Lib.index t [44]).toNat + ([44] : List UInt8).length = j + 1 := by simp; omega
    rw [e1, e2, e3, e4]
    simp
theorem splitB_C (s : ByteArray) : (Lib.splitB ⟨#[44]⟩ 0 (Lib.countB s ⟨#[44]⟩) s).map dl = splitC (dl s) := by
 have h := Lib.splitB_data ⟨#[44]⟩ 0 (Lib.countB s ⟨#[44]⟩) s
 have e : Lib.countB s ⟨#[44]⟩ = Lib.count (dl s) [44] := rfl
 rw [e] at h ⊢
 exact h.trans (splitK_C (dl s))
end Cut
open Go.Sort
namespace So

def IsSet (l L : List Int) : Prop := l.Pairwise (· < ·) ∧ ∀ x, x ∈ l ↔ x ∈ L
theorem rising_unique : ∀ {l m : List Int}, l.Pairwise (· < ·) → m.Pairwise (· < ·) → (∀ x, x ∈ l ↔ x ∈ m) → l = m
 | [], [], _, _, _ => rfl
 | [], y :: m, _, _, h => absurd ((h y).2 (by simp)) (by simp)
 | x :: l, [], _, _, h => absurd ((h x).1 (by simp)) (by simp)
 | x :: l, y :: m, h1, h2, h => by
  rw [List.pairwise_cons] at h1 h2
  have e : x = y := by
   have hx := (h x).1 (by simp)
   have hy := (h y).2 (by simp)
   rcases List.mem_cons.1 hx with e | hx
   ·exact e
   ·rcases List.mem_cons.1 hy with e | hy
    ·exact e.symm
    ·have := h1.1 y hy
     have := h2.1 x hx
     omega
  subst e
  rw [rising_unique h1.2 h2.2 fun z => ?_]
  constructor
  ·intro hz
   rcases List.mem_cons.1 ((h z).1 (by simp [hz])) with e | hz2
   ·have := h1.1 z hz; omega
   ·exact hz2
  ·intro hz
   rcases List.mem_cons.1 ((h z).2 (by simp [hz])) with e | hz2
   ·have := h2.1 z hz; omega
   ·exact hz2
theorem IsSet.unique {l m L : List Int} (h1 : IsSet l L) (h2 : IsSet m L) : l = m := rising_unique h1.1 h2.1 fun x => (h1.2 x).trans (h2.2 x).symm
theorem IsSet.congr {l L M : List Int} (h : IsSet l L) (e : ∀ x, x ∈ L ↔ x ∈ M) : IsSet l M := ⟨h.1, fun x => (h.2 x).trans (e x)⟩
theorem sub_len : ∀ {l L : List Int}, l.Pairwise (· < ·) → (∀ x ∈ l, x ∈ L) → l.length ≤ L.length
 | [], _, _, _ => Nat.zero_le _
 | x :: t, L, h, hs => by
  rw [List.pairwise_cons] at h
  have hx := hs x (by simp)
  have ih := sub_len (l := t) (L := L.erase x) h.2 fun y hy => by
   have : x < y := h.1 y hy
   exact (List.mem_erase_of_ne (by omega)).2 (hs y (by simp [hy]))
  rw [List.length_erase_of_mem hx] at ih
  have : 0 < L.length := List.length_pos_of_mem hx
  rw [List.length_cons]
  omega
theorem IsSet.len {l L : List Int} (h : IsSet l L) : l.length ≤ L.length := sub_len h.1 fun x hx => (h.2 x).1 hx
theorem compact_set {d : Array Int} (hs : ∀ i j, i < j → j < d.size → d[i]! ≤ d[j]!) : IsSet (Lib.compactUpTo d d.size) d.toList := by
 constructor
 ·unfold Lib.compactUpTo
  rw [List.pairwise_map]
  have hr : (List.range d.size).Pairwise (· < ·) := List.pairwise_lt_range
  have hf := hr.filter (Lib.keeps d)
  refine List.Pairwise.imp_of_mem ?_ hf
  intro i j hi hj hij
  obtain ⟨_, hk⟩ := List.mem_filter.1 hj
  have hjs : j < d.size := List.mem_range.1 (List.mem_filter.1 hj).1
  have hne : d[j]! ≠ d[j - 1]! := by
   unfold Lib.keeps at hk
   have h0 : ¬ j = 0 := by omega
   simpa [h0] using hk
  have h1 : d[j - 1]! ≤ d[j]! := hs (j - 1) j (by omega) hjs
  by_cases e : i = j - 1
  ·subst e; omega
  ·have := hs i (j - 1) (by omega) (by omega); omega
 ·intro x
  unfold Lib.compactUpTo
  constructor
  ·intro h
   obtain ⟨i, hi, rfl⟩ := List.mem_map.1 h
   have : i < d.size := List.mem_range.1 (List.mem_filter.1 hi).1
   rw [getElem!_pos d i this]
   simp
  ·intro h
   obtain ⟨j, hj, rfl⟩ := List.getElem_of_mem h
   have hj : j < d.size := by simpa using hj
   have key : ∀ n (_ : n < d.size), ∃ i, i ≤ n ∧ Lib.keeps d i = true ∧ d[i]! = d[n]! := by
    intro n
    induction n with
    | zero => intro _; exact ⟨0, Nat.le_refl _, by simp [Lib.keeps], rfl⟩
    | succ n ih =>
     intro hn
     by_cases hk : Lib.keeps d (n + 1) = true
     ·exact ⟨n + 1, Nat.le_refl _, hk, rfl⟩
     ·obtain ⟨i, h1, h2, h3⟩ := ih (by omega)
      refine ⟨i, by omega, h2, ?_⟩
      rw [h3]
      unfold Lib.keeps at hk
      simp at hk
      exact hk.symm
   obtain ⟨i, h1, h2, h3⟩ := key j hj
   refine List.mem_map.2 ⟨i, List.mem_filter.2 ⟨List.mem_range.2 (by omega), h2⟩, ?_⟩
   rw [h3, getElem!_pos d j hj]
   simp

def ins (x : Int) : List Int → List Int
 | [] => [x]
 | y :: t => if x < y then x :: y :: t else if x = y then y :: t else y :: ins x t
def setOf (L : List Int) : List Int := L.foldr ins []
theorem ins_mem (x : Int) : ∀ (l : List Int) (z : Int), z ∈ ins x l ↔ z = x ∨ z ∈ l
 | [], z => by simp [ins]
 | y :: t, z => by
  unfold ins
  split
  ·simp
  ·split
   ·rename_i h; subst h; simp
   ·rw [List.mem_cons, ins_mem x t z, List.mem_cons]
    constructor
    ·rintro (h | h | h)
     ·exact .inr (.inl h)
     ·exact .inl h
     ·exact .inr (.inr h)
    ·rintro (h | h | h)
     ·exact .inr (.inl h)
     ·exact .inl h
     ·exact .inr (.inr h)
theorem ins_rising (x : Int) : ∀ {l : List Int}, l.Pairwise (· < ·) → (ins x l).Pairwise (· < ·)
 | [], _ => by simp [ins]
 | y :: t, h => by
  rw [List.pairwise_cons] at h
  unfold ins
  split
  ·rename_i hxy
   rw [List.pairwise_cons]
   refine ⟨fun z hz => ?_, List.pairwise_cons.2 h⟩
   rcases List.mem_cons.1 hz with e | hz
   ·omega
   ·have := h.1 z hz; omega
  ·split
   ·exact List.pairwise_cons.2 h
   ·rw [List.pairwise_cons]
    refine ⟨fun z hz => ?_, ins_rising x h.2⟩
    rcases (ins_mem x t z).1 hz with e | hz
    ·omega
    ·exact h.1 z hz
theorem setOf_set : ∀ (L : List Int), IsSet (setOf L) L
 | [] => ⟨by simp [setOf], fun x => by simp [setOf]⟩
 | x :: t => by
  have ih := setOf_set t
  refine ⟨ins_rising x ih.1, fun z => ?_⟩
  show z ∈ ins x (setOf t) ↔ _
  rw [ins_mem, ih.2, List.mem_cons]
theorem IsSet.eq {l L : List Int} (h : IsSet l L) : l = setOf L := h.unique (setOf_set L)
theorem setOf_congr {L M : List Int} (h : ∀ x, x ∈ L ↔ x ∈ M) : setOf L = setOf M := ((setOf_set L).congr h).eq
theorem mem_setOf {L : List Int} {x : Int} : x ∈ setOf L ↔ x ∈ L := (setOf_set L).2 x

def FRow (n₀ : Nat) (W : World) (v : Value) (l : List Int) : Prop :=
 ∃ g cap cur, v = .slice (some ⟨g, 0, none⟩) l.length cap ∧ n₀ ≤ g ∧ W.heap[g]? = some (.cells cur 34 (0, 0)) ∧ l.length ≤ cap ∧ cap ≤ maxLen ∧ cap = cur.size ∧ cur.toList.take l.length = l.map encF
def FArg (W : World) (v : Value) (l : List Int) : Prop :=
 ∃ ao cap, v = .slice ao l.length cap ∧ l.length ≤ cap ∧ cap ≤ maxLen ∧ (ao = none → cap = 0) ∧ (0 < l.length → ∃ g off, ao = some ⟨g, off, none⟩ ∧ g < W.heap.size ∧ ∀ (j : Nat) x, l[j]? = some x → W.cell? ⟨g, off + j, none⟩ = some (encF x))
theorem FArg.below {W W' : World} {v : Value} {l : List Int} (h : FArg W v l) (hB : Go.RowKit.Below W.heap.size W W') : FArg W' v l := by
 obtain ⟨ao, cap, e, h1, h2, h2', h3⟩ := h
 refine ⟨ao, cap, e, h1, h2, h2', fun h0 => ?_⟩
 obtain ⟨g, off, e2, hg, hc⟩ := h3 h0
 exact ⟨g, off, e2, Nat.lt_of_lt_of_le hg hB.size, fun j x hx => (hB.cell (p := ⟨g, off + j, none⟩) hg).trans (hc j x hx)⟩
theorem FRow.cells {n₀ : Nat} {W : World} {v : Value} {l : List Int} (h : FRow n₀ W v l) : ∃ g cap, v = .slice (some ⟨g, 0, none⟩) l.length cap ∧ n₀ ≤ g ∧ g < W.heap.size ∧ l.length ≤ cap ∧ cap ≤ maxLen ∧ Holds encF W g 0 l.toArray := by
 obtain ⟨g, cap, cur, e, hg, hh, h1, h2, h3, h4⟩ := h
 refine ⟨g, cap, e, hg, (Array.getElem?_eq_some_iff.1 hh).1, h1, h2, fun j hj => ?_⟩
 have hj : j < l.length := by simpa using hj
 have hv : (cur.toList.take l.length)[j]? = some (encF l[j]) := by rw [h4]; simp [hj]
 rw [List.getElem?_take, if_pos hj] at hv
 have e2 : (l.toArray)[j]! = l[j] := by rw [getElem!_pos l.toArray j (by simpa using hj)]; simp
 rw [e2]
 constructor
 ·simp only [World.cell?, hh, Nat.zero_add]
  simpa using hv
 ·simp [World.frozen?, hh]
theorem FRow.arg {n₀ : Nat} {W : World} {v : Value} {l : List Int} (h : FRow n₀ W v l) : FArg W v l := by
 obtain ⟨g, cap, e, hg, hgs, h1, h2, hH⟩ := h.cells
 refine ⟨_, cap, e, h1, h2, (fun h => by cases h), fun _ => ⟨g, 0, rfl, hgs, fun j x hx => ?_⟩⟩
 have hj : j < l.length := (List.getElem?_eq_some_iff.1 hx).1
 have := (hH j (by simpa using hj)).1
 rw [this]
 congr 2
 rw [getElem!_pos l.toArray j (by simpa using hj)]
 have := List.getElem?_eq_some_iff.1 hx
 obtain ⟨_, e⟩ := this
 simp [e]
theorem FRow.below {n₀ : Nat} {W W' : World} {v : Value} {l : List Int} (h : FRow n₀ W v l) (hB : Go.RowKit.Below W.heap.size W W') : FRow n₀ W' v l := by
 obtain ⟨g, cap, cur, e, hg, hh, r⟩ := h
 exact ⟨g, cap, cur, e, hg, by rw [hB.block g (Array.getElem?_eq_some_iff.1 hh).1]; exact hh, r⟩
theorem FRow.low {n₀ n₁ : Nat} {W : World} {v : Value} {l : List Int} (h : FRow n₀ W v l) (k : n₁ ≤ n₀) : FRow n₁ W v l := by
 obtain ⟨g, cap, cur, e, hg, r⟩ := h
 exact ⟨g, cap, cur, e, Nat.le_trans k hg, r⟩
theorem at_below {n₀ g off : Nat} {W W' : World} {d : Array Int} (h : At encF W g off d W') (hg : n₀ ≤ g) (hn : n₀ ≤ W.heap.size) : Go.RowKit.Below n₀ W W' := by
 obtain ⟨n, os, rfl⟩ := h
 refine ⟨rfl, rfl, rfl, ?_, fun k hk => ?_⟩
 ·simp
 ·rw [heap_grow_old _ _ (by simp; omega)]
  show (W.heap.modify g _)[k]? = _
  rw [Array.getElem?_modify, if_neg (by omega)]
theorem FRow.at {n₀ g cap : Nat} {W W' : World} {l : List Int} {d : Array Int} (h : FRow n₀ W (.slice (some ⟨g, 0, none⟩) l.length cap) l) (ha : At encF W g 0 d W') (hd : d.size = l.length) : FRow n₀ W' (.slice (some ⟨g, 0, none⟩) l.length cap) d.toList := by
 obtain ⟨g2, cap2, cur, e, hg, hh, h1, h2, h3, h4⟩ := h
 injection e with e1 _ e3
 injection e1 with e1
 injection e1 with e1 _ _
 subst e1; subst e3
 obtain ⟨n, os, rfl⟩ := ha
 have hgs : g < W.heap.size := (Array.getElem?_eq_some_iff.1 hh).1
 refine ⟨g, cap, putCells encF 0 d cur, by simp [hd], hg, ?_, by simpa [hd] using h1, h2, by simpa [putCells] using h3, ?_⟩
 ·rw [heap_grow_old _ _ (by simp; exact hgs)]
  show (W.heap.modify g _)[g]? = _
  rw [Array.getElem?_modify, if_pos rfl, hh]
  rfl
 ·apply List.ext_getElem?
  intro k
  rw [List.getElem?_take]
  by_cases hk : k < d.toList.length
  ·have hk2 : k < d.size := by simpa using hk
   rw [if_pos hk]
   have hc : k < cur.size := by omega
   simp [putCells, hc, hk2]
  ·rw [if_neg hk]
   rw [List.getElem?_eq_none (by simpa using hk)]
theorem FRow.take {n₀ g cap : Nat} {W : World} {l : List Int} (h : FRow n₀ W (.slice (some ⟨g, 0, none⟩) l.length cap) l) {m : List Int} (hm : m <+: l) : FRow n₀ W (.slice (some ⟨g, 0, none⟩) m.length cap) m := by
 obtain ⟨g2, cap2, cur, e, hg, hh, h1, h2, h3, h4⟩ := h
 injection e with e1 _ e3
 injection e1 with e1
 injection e1 with e1 _ _
 subst e1; subst e3
 obtain ⟨t, rfl⟩ := hm
 refine ⟨g, cap, cur, rfl, hg, hh, by simp at h1; omega, h2, h3, ?_⟩
 have := congrArg (List.take m.length) h4
 rw [List.take_take] at this
 simpa using this
theorem FRow.owns {n₀ : Nat} {W : World} {v : Value} {l : List Int} (h : FRow n₀ W v l) : W.ownsRow n₀ 34 1 v l.length (l.map encF) := by
 obtain ⟨g, cap, cur, e, hg, hh, h1, h2, h3, h4⟩ := h
 exact ⟨by simp, .inr ⟨g, cap, cur, e, hg, hh, h1, h2, by omega, by rw [Nat.mul_one]; exact h4⟩⟩

structure PI (p : Int → Int → Bool) (a b i j : Nat) (d dk : Array Int) : Prop where
 size : b ≤ d.size
 perm : PermIn a b d dk
 ai : a < i
 ij : i ≤ j + 1
 jb : j < b
 lo : ∀ t, a < t → t < i → p dk[a]! dk[t]! = true
 hi : ∀ t, j < t → t < b → p dk[a]! dk[t]! = false
variable {p : Int → Int → Bool} {a b i j : Nat} {d dk : Array Int}
theorem PI.start (hb : b ≤ d.size) (hab : a < b) (hp : PermIn a b d dk) : PI p a b (a + 1) (b - 1) d dk :=
 ⟨hb, hp, by omega, by omega, by omega, fun t h1 h2 => by omega, fun t h1 h2 => by omega⟩
theorem PI.up (h : PI p a b i j d dk) (hij : i ≤ j) (hp : p dk[a]! dk[i]! = true) : PI p a b (i + 1) j d dk :=
 ⟨h.size, h.perm, by have := h.ai; omega, by omega, h.jb, fun t h1 h2 => by
  by_cases e : t = i
  ·subst e; exact hp
  ·exact h.lo t h1 (by omega), h.hi⟩
theorem PI.down (h : PI p a b i j d dk) (hij : i ≤ j) (hp : p dk[a]! dk[j]! = false) : PI p a b i (j - 1) d dk :=
 ⟨h.size, h.perm, h.ai, by have := h.ai; omega, by have := h.jb; omega, h.lo, fun t h1 h2 => by
  by_cases e : t = j
  ·subst e; exact hp
  ·exact h.hi t (by omega) h2⟩
theorem PI.sized (h : PI p a b i j d dk) : dk.size = d.size := h.perm.1
theorem PI.swap (h : PI p a b i j d dk) (hij : i ≤ j) (h1 : p dk[a]! dk[i]! = false) (h2 : p dk[a]! dk[j]! = true) : i < j ∧ PI p a b (i + 1) (j - 1) d (swp dk i j) := by
 have hne : i ≠ j := fun e => by
  subst e
  rw [h1] at h2
  cases h2
 have hai := h.ai
 have hjb := h.jb
 have hs := h.sized
 have hz := h.size
 have ea : (swp dk i j)[a]! = dk[a]! := swp_other dk i j a (by omega) (by omega)
 refine ⟨by omega, hz, permIn_trans _ _ _ _ _ h.perm (swp_permIn dk a b i j (by omega) (by omega) (by omega) (by omega) (by omega)), by omega, by omega, by omega, fun t t1 t2 => ?_, fun t t1 t2 => ?_⟩
 ·rw [ea]
  by_cases e : t = i
  ·subst e
   rw [swp_left dk t j (by omega) hne]
   exact h2
  ·rw [swp_other dk i j t e (by omega)]
   exact h.lo t t1 (by omega)
 ·rw [ea]
  by_cases e : t = j
  ·subst e
   rw [swp_right dk i t (by omega)]
   exact h1
  ·rw [swp_other dk i j t (by omega) e]
   exact h.hi t (by omega) t2
theorem PI.done (h : PI p a b i j d dk) (hij : ¬ i ≤ j) : a ≤ j ∧ j < b ∧ PermIn a b d (swp dk j a) ∧ (∀ t, a ≤ t → t < j → p (swp dk j a)[j]! (swp dk j a)[t]! = true) ∧ ∀ t, j < t → t < b → p (swp dk j a)[j]! (swp dk j a)[t]! = false := by
 have hai := h.ai
 have hjb := h.jb
 have hs := h.sized
 have hz := h.size
 have hij2 := h.ij
 have e : i = j + 1 := by omega
 subst e
 have ej : (swp dk j a)[j]! = dk[a]! := by
  by_cases e : j = a
  ·subst e; exact swp_right dk j j (by omega)
  ·exact swp_left dk j a (by omega) e
 refine ⟨by omega, hjb, permIn_trans _ _ _ _ _ h.perm (swp_permIn dk a b j a (by omega) (by omega) (by omega) (by omega) (by omega)), fun t t1 t2 => ?_, fun t t1 t2 => ?_⟩
 ·rw [ej]
  by_cases e : t = a
  ·subst e
   rw [swp_right dk j t (by omega)]
   exact h.lo j (by omega) (by omega)
  ·rw [swp_other dk j a t (by omega) e]
   exact h.lo t (by omega) (by omega)
 ·rw [ej, swp_other dk j a t (by omega) (by omega)]
  exact h.hi t t1 t2
theorem PI.done_eq (h : PI p a b i j d dk) (hij : ¬ i ≤ j) : a < i ∧ i ≤ b ∧ PermIn a b d dk ∧ (∀ t, a < t → t < i → p dk[a]! dk[t]! = true) ∧ ∀ t, i ≤ t → t < b → p dk[a]! dk[t]! = false := by
 have hjb := h.jb
 have hij2 := h.ij
 exact ⟨h.ai, by omega, h.perm, h.lo, fun t t1 t2 => h.hi t (by omega) t2⟩
end So
namespace So
def pE (v x : Int) : Bool := !ltInt v x

set_option maxRecDepth 1000000 in
set_option maxHeartbeats 16000000 in
theorem equal_any (blk off cap len a b pv : Nat) (d : Array Int) (w : World) (hlen : d.size = len) (hH : Holds encF w blk off d) (hblk : blk < w.heap.size) (hap : a ≤ pv) (hpb : pv < b) (hb : b ≤ len) (hsz : len < 4611686018427387904) :
  Calls Tryz.prog 130 #[.slice (some ⟨blk, off, none⟩) len cap, .int .i64 a, .int .i64 b, .int .i64 pv] w fun e w' =>
   ∃ (m : Nat) (d' : Array Int), e = .returned (.int .i64 m) ∧ At encF w blk off d' w' ∧ a < m ∧ m ≤ b ∧ PermIn a b d d' ∧ d'[a]! = d[pv]! ∧ (∀ t, a < t → t < m → pE d'[a]! d'[t]! = true) ∧ ∀ t, m ≤ t → t < b → pE d'[a]! d'[t]! = false := by
 have HAT := hide (At.refl hH)
 have HH := hide hH
 clear hH
 go_enter Tryz.func130, Tryz.ntmps130
 go_wp2_with fail
 go_cut [] from 11 (fun wc => Hid (At encF w blk off (swp d a pv) wc))
 case first =>
  obtain ⟨G, hG⟩ : ∃ G : Nat → Int, ∀ t, G t = d[t]! := ⟨fun t => d[t]!, fun _ => rfl⟩
  obtain ⟨hc, hf⟩ := at_cells (unhide HAT) (unhide HH) rfl hblk hG
  rw [hlen] at hc hf
  have HG := hide hG
  clear hG
  by_cases e : a = pv
  ·subst e
   go_region
   all_goals go_wp2_with fail
   go_meet
   case rel => exact hide (at_swap (at_drewN (unhide HAT) 1) (unhide HH) rfl hblk (by omega) (by omega) (by rw [unhide HG]) (by rw [unhide HG]))
  ·go_region
   all_goals go_wp2_with fail
   go_meet
   case rel => exact hide (at_swap (at_drewN (unhide HAT) 1) (unhide HH) rfl hblk (by omega) (by omega) (by rw [unhide HG]) (by rw [unhide HG]))
 case rest =>
  have HX0 := hcut
  have HP0 : Hid (PI pE a b (a + 1) (b - 1) d (swp d a pv)) := PI.start (by omega) (by omega) (swp_permIn d a b a pv (by omega) (by omega) hap hpb (by omega))
  have HV0 : Hid ((swp d a pv)[a]! = d[pv]!) := by
   by_cases e : a = pv
   ·subst e; exact swp_right d a a (by omega)
   ·exact swp_left d a pv (by omega) e
  clear hcut
  go_wp2_with fail
  go_loopg [9, 10] b (fun k s9 s10 wr => ∃ (i j : Nat) (dk : Array Int), s9 = .int .i64 i ∧ s10 = .int .i64 j ∧ j + 1 - i ≤ k ∧ dk.size = len ∧ a < i ∧ i ≤ j + 1 ∧ j < b ∧ Hid (PI pE a b i j d dk) ∧ Hid (dk[a]! = d[pv]!) ∧ Hid (At encF w blk off dk wr))
  case atStart => exact ⟨a + 1, b - 1, swp d a pv, by go_num, by congr 1; omega, by omega, by rw [size_swp]; exact hlen, by omega, by omega, by omega, HP0, HV0, HX0⟩
  case round =>
   obtain ⟨i0, j0, dk, rfl, rfl, hk0, hsk, hai0, hij0, hjb0, HPI0, HV, HXX⟩ := hrel
   obtain ⟨V, hV⟩ : ∃ V, V = wr := ⟨_, rfl⟩
   subst hV
   go_wp2_with fail
   go_loopg [9] b (fun k2 s9 wr => ∃ i : Nat, s9 = .int .i64 i ∧ j0 + 1 - i ≤ k2 ∧ i0 ≤ i ∧ a < i ∧ i ≤ j0 + 1 ∧ Hid (PI pE a b i j0 d dk) ∧ Hid (At encF w blk off dk wr))
   case atStart => exact ⟨i0, rfl, by omega, Nat.le_refl _, hai0, hij0, HPI0, HXX⟩
   case round =>
    obtain ⟨i, rfl, hk2, hii, hai, hij1, HPI, HX⟩ := hrel
    obtain ⟨j, hj⟩ : ∃ j, j = j0 := ⟨_, rfl⟩
    subst hj
    obtain ⟨G, hG⟩ : ∃ G : Nat → Int, ∀ t, G t = dk[t]! := ⟨fun t => dk[t]!, fun _ => rfl⟩
    obtain ⟨hc, hf⟩ := at_cells (unhide HX) (unhide HH) (by omega) hblk hG
    rw [hlen] at hc hf
    have HG := hide hG
    clear hG
    go_wp2_with fail
    go_cut [43] from 29 to 45 (fun c wx => ∃ bb : Bool, c = .bool bb ∧ Hid (bb = true → i ≤ j ∧ pE dk[a]! dk[i]! = true) ∧ Hid (bb = false → i ≤ j → pE dk[a]! dk[i]! = false) ∧ Hid (At encF w blk off dk wx))
    case first =>
     by_cases hij : i ≤ j
     ·have hijz : decide ((i : Int) ≤ (j : Int)) = true := decide_eq_true (by omega)
      go_quiet (first | (go_at_call 129; refine Calls.quiet_of_same (less_any _ _ _)))
      go_wp2
      go_meet
      case rel => exact ⟨_, rfl, hide (fun h => ⟨hij, by simp only [pE, ← unhide HG] at h ⊢; simpa using h⟩), hide (fun h _ => by simp only [pE, ← unhide HG] at h ⊢; simpa using h), hide (at_drewN (unhide HX) _)⟩
     ·have hijz : decide ((i : Int) ≤ (j : Int)) = false := decide_eq_false (by omega)
      go_quiet (first | (go_at_call 129; refine Calls.quiet_of_same (less_any _ _ _)))
      go_wp2
      go_meet
      case rel => exact ⟨_, rfl, hide (fun h => by cases h), hide (fun _ h => absurd h hij), hide (at_drewN (unhide HX) _)⟩
    case rest =>
     obtain ⟨bb, rfl, HT, HF, HX2⟩ := hcut
     cases bb
     ·have HNI : Hid (i ≤ j → pE dk[a]! dk[i]! = false) := unhide HF rfl
      clear HT HF HX hc hf HG
      obtain ⟨V2, hV2⟩ : ∃ V, V = wc := ⟨_, rfl⟩
      subst hV2
      obtain ⟨j1, hj1⟩ : ∃ j1, j1 = j := ⟨_, rfl⟩
      subst hj1
      go_wp2_with fail
      go_loopg [10] b (fun k3 s10 wr => ∃ j : Nat, s10 = .int .i64 j ∧ j + 1 - i ≤ k3 ∧ j ≤ j1 ∧ i ≤ j + 1 ∧ j < b ∧ Hid (PI pE a b i j d dk) ∧ Hid (At encF w blk off dk wr))
      case atStart => exact ⟨j1, rfl, by omega, Nat.le_refl _, hij1, hjb0, HPI, HX2⟩
      case round =>
       obtain ⟨j, rfl, hk3, hjj, hij2, hjb, HPI2, HX⟩ := hrel
       obtain ⟨G, hG⟩ : ∃ G : Nat → Int, ∀ t, G t = dk[t]! := ⟨fun t => dk[t]!, fun _ => rfl⟩
       obtain ⟨hc, hf⟩ := at_cells (unhide HX) (unhide HH) (by omega) hblk hG
       rw [hlen] at hc hf
       have HG := hide hG
       clear hG
       go_wp2_with fail
       go_cut [59] from 46 to 61 (fun c wx => ∃ bb : Bool, c = .bool bb ∧ Hid (bb = true → i ≤ j ∧ pE dk[a]! dk[j]! = false) ∧ Hid (bb = false → i ≤ j → pE dk[a]! dk[j]! = true) ∧ Hid (At encF w blk off dk wx))
       case first =>
        by_cases hij : i ≤ j
        ·have hijz : decide ((i : Int) ≤ (j : Int)) = true := decide_eq_true (by omega)
         go_quiet (first | (go_at_call 129; refine Calls.quiet_of_same (less_any _ _ _)))
         go_wp2
         go_meet
         case rel => exact ⟨_, rfl, hide (fun h => ⟨hij, by simp only [pE, ← unhide HG] at h ⊢; simpa using h⟩), hide (fun h _ => by simp only [pE, ← unhide HG] at h ⊢; simpa using h), hide (at_drewN (unhide HX) _)⟩
        ·have hijz : decide ((i : Int) ≤ (j : Int)) = false := decide_eq_false (by omega)
         go_quiet (first | (go_at_call 129; refine Calls.quiet_of_same (less_any _ _ _)))
         go_wp2
         go_meet
         case rel => exact ⟨_, rfl, hide (fun h => by cases h), hide (fun _ h => absurd h hij), hide (at_drewN (unhide HX) _)⟩
       case rest =>
        obtain ⟨bb, rfl, HT, HF, HX3⟩ := hcut
        cases bb
        ·have HNJ : Hid (i ≤ j → pE dk[a]! dk[j]! = true) := unhide HF rfl
         clear HT HF HX hc hf HG HX2 HPI
         obtain ⟨V3, hV3⟩ : ∃ V, V = wc := ⟨_, rfl⟩
         subst hV3
         by_cases hij : i ≤ j
         ·have hijz : ¬ (j : Int) < (i : Int) := by omega
          obtain ⟨hlt, hsw⟩ := (unhide HPI2).swap hij (unhide HNI (by omega)) (unhide HNJ hij)
          have HSW := hide hsw
          have HV2 : Hid ((swp dk i j)[a]! = d[pv]!) := by rw [Hid, swp_other dk i j a (by omega) (by omega)]; exact unhide HV
          clear hsw
          obtain ⟨G, hG⟩ : ∃ G : Nat → Int, ∀ t, G t = dk[t]! := ⟨fun t => dk[t]!, fun _ => rfl⟩
          obtain ⟨hc, hf⟩ := at_cells (unhide HX3) (unhide HH) (by omega) hblk hG
          rw [hlen] at hc hf
          have HG := hide hG
          clear hG
          go_wp2_with fail
          go_region
          all_goals go_wp2_with fail
          go_roundg (j - 1 + 1 - (i + 1))
          case measure => omega
          case rel => exact ⟨i + 1, j - 1, swp dk i j, by go_num, by congr 1; omega, Nat.le_refl _, by rw [size_swp]; exact hsk, by omega, by omega, by omega, HSW, HV2, hide (at_swap (at_drewN (unhide HX3) 1) (unhide HH) (by omega) hblk (by omega) (by omega) (by rw [unhide HG]) (by rw [unhide HG]))⟩
         ·have hijz : (j : Int) < (i : Int) := by omega
          have HD := hide ((unhide HPI2).done_eq hij)
          go_wp2_with fail
          go_ret
          obtain ⟨q1, q2, q3, q4, q5⟩ := unhide HD
          exact ⟨i, dk, rfl, unhide HX3, q1, q2, q3, unhide HV, q4, q5⟩
        ·obtain ⟨hij, hp⟩ := unhide HT rfl
         have HPI3 := hide ((unhide HPI2).down hij hp)
         clear hp
         go_wp2_with fail
         go_roundg (j - 1 + 1 - i)
         case measure => omega
         case rel => exact ⟨j - 1, by congr 1; omega, Nat.le_refl _, by omega, by omega, by omega, HPI3, HX3⟩
     ·obtain ⟨hij, hp⟩ := unhide HT rfl
      have HPI2 := hide ((unhide HPI).up hij hp)
      clear hp
      go_wp2_with fail
      go_roundg (j + 1 - (i + 1))
      case measure => omega
      case rel => exact ⟨i + 1, by go_num, Nat.le_refl _, by omega, by omega, by omega, HPI2, HX2⟩
def pL (v x : Int) : Bool := ltInt x v

set_option maxRecDepth 1000000 in
set_option maxHeartbeats 16000000 in
theorem part_any (blk off cap len a b pv : Nat) (d : Array Int) (w : World) (hlen : d.size = len) (hH : Holds encF w blk off d) (hblk : blk < w.heap.size) (hap : a ≤ pv) (hpb : pv < b) (hb : b ≤ len) (hsz : len < 4611686018427387904) :
  Calls Tryz.prog 131 #[.slice (some ⟨blk, off, none⟩) len cap, .int .i64 a, .int .i64 b, .int .i64 pv] w fun e w' =>
   ∃ (m : Nat) (ok : Bool) (d' : Array Int), e = .returned (.tuple #[.int .i64 m, .bool ok]) ∧ At encF w blk off d' w' ∧ a ≤ m ∧ m < b ∧ PermIn a b d d' ∧ (∀ t, a ≤ t → t < m → pL d'[m]! d'[t]! = true) ∧ ∀ t, m < t → t < b → pL d'[m]! d'[t]! = false := by
 have HAT := hide (At.refl hH)
 have HH := hide hH
 clear hH
 go_enter Tryz.func131, Tryz.ntmps131
 go_wp2_with fail
 go_cut [] from 12 (fun wc => Hid (At encF w blk off (swp d a pv) wc))
 case first =>
  obtain ⟨G, hG⟩ : ∃ G : Nat → Int, ∀ t, G t = d[t]! := ⟨fun t => d[t]!, fun _ => rfl⟩
  obtain ⟨hc, hf⟩ := at_cells (unhide HAT) (unhide HH) rfl hblk hG
  rw [hlen] at hc hf
  have HG := hide hG
  clear hG
  by_cases e : a = pv
  ·subst e
   go_region
   all_goals go_wp2_with fail
   go_meet
   case rel => exact hide (at_swap (at_drewN (unhide HAT) 1) (unhide HH) rfl hblk (by omega) (by omega) (by rw [unhide HG]) (by rw [unhide HG]))
  ·go_region
   all_goals go_wp2_with fail
   go_meet
   case rel => exact hide (at_swap (at_drewN (unhide HAT) 1) (unhide HH) rfl hblk (by omega) (by omega) (by rw [unhide HG]) (by rw [unhide HG]))
 case rest =>
  have HX0 := hcut
  obtain ⟨i0, hi0⟩ : ∃ i0, i0 = a + 1 := ⟨_, rfl⟩
  obtain ⟨j0, hj0⟩ : ∃ j0, j0 = b - 1 := ⟨_, rfl⟩
  have HPI0 : Hid (PI pL a b i0 j0 d (swp d a pv)) := by subst hi0; subst hj0; exact PI.start (by omega) (by omega) (swp_permIn d a b a pv (by omega) (by omega) hap hpb (by omega))
  have hsk : (swp d a pv).size = len := by rw [size_swp]; exact hlen
  have HXX : Hid (At encF w blk off (swp d a pv) wc) := hcut
  clear hcut HX0
  have hai0 : a < i0 := by omega
  have hij0 : i0 ≤ j0 + 1 := by omega
  have hjb0 : j0 < b := by omega
  have hi0z : (a : Int) + 1 = (i0 : Int) := by omega
  have hj0z : (b : Int) - 1 = (j0 : Int) := by omega
  clear hi0 hj0
  generalize swp d a pv = dk at *
  obtain ⟨V, hV⟩ : ∃ V, V = wc := ⟨_, rfl⟩
  subst hV
  go_wp2_with fail
  go_loopg [10] b (fun k2 s9 wr => ∃ i : Nat, s9 = .int .i64 i ∧ j0 + 1 - i ≤ k2 ∧ i0 ≤ i ∧ a < i ∧ i ≤ j0 + 1 ∧ Hid (PI pL a b i j0 d dk) ∧ Hid (At encF w blk off dk wr))
  case atStart => exact ⟨i0, rfl, by omega, Nat.le_refl _, hai0, hij0, HPI0, HXX⟩
  case round =>
   obtain ⟨i, rfl, hk2, hii, hai, hij1, HPI, HX⟩ := hrel
   obtain ⟨j, hj⟩ : ∃ j, j = j0 := ⟨_, rfl⟩
   subst hj
   obtain ⟨G, hG⟩ : ∃ G : Nat → Int, ∀ t, G t = dk[t]! := ⟨fun t => dk[t]!, fun _ => rfl⟩
   obtain ⟨hc, hf⟩ := at_cells (unhide HX) (unhide HH) (by omega) hblk hG
   rw [hlen] at hc hf
   have HG := hide hG
   clear hG
   go_wp2_with fail
   go_cut [43] from 30 to 45 (fun c wx => ∃ bb : Bool, c = .bool bb ∧ Hid (bb = true → i ≤ j ∧ pL dk[a]! dk[i]! = true) ∧ Hid (bb = false → i ≤ j → pL dk[a]! dk[i]! = false) ∧ Hid (At encF w blk off dk wx))
   case first =>
    by_cases hij : i ≤ j
    ·have hijz : decide ((i : Int) ≤ (j : Int)) = true := decide_eq_true (by omega)
     go_quiet (first | (go_at_call 129; refine Calls.quiet_of_same (less_any _ _ _)))
     go_wp2
     go_meet
     case rel => exact ⟨_, rfl, hide (fun h => ⟨hij, by simp only [pL, ← unhide HG] at h ⊢; simpa using h⟩), hide (fun h _ => by simp only [pL, ← unhide HG] at h ⊢; simpa using h), hide (at_drewN (unhide HX) _)⟩
    ·have hijz : decide ((i : Int) ≤ (j : Int)) = false := decide_eq_false (by omega)
     go_quiet (first | (go_at_call 129; refine Calls.quiet_of_same (less_any _ _ _)))
     go_wp2
     go_meet
     case rel => exact ⟨_, rfl, hide (fun h => by cases h), hide (fun _ h => absurd h hij), hide (at_drewN (unhide HX) _)⟩
   case rest =>
    obtain ⟨bb, rfl, HT, HF, HX2⟩ := hcut
    cases bb
    ·have HNI : Hid (i ≤ j → pL dk[a]! dk[i]! = false) := unhide HF rfl
     clear HT HF HX hc hf HG
     obtain ⟨V2, hV2⟩ : ∃ V, V = wc := ⟨_, rfl⟩
     subst hV2
     obtain ⟨j1, hj1⟩ : ∃ j1, j1 = j := ⟨_, rfl⟩
     subst hj1
     go_wp2_with fail
     go_loopg [11] b (fun k3 s10 wr => ∃ j : Nat, s10 = .int .i64 j ∧ j + 1 - i ≤ k3 ∧ j ≤ j1 ∧ i ≤ j + 1 ∧ j < b ∧ Hid (PI pL a b i j d dk) ∧ Hid (At encF w blk off dk wr))
     case atStart => exact ⟨j1, rfl, by omega, Nat.le_refl _, hij1, hjb0, HPI, HX2⟩
     case round =>
      obtain ⟨j, rfl, hk3, hjj, hij2, hjb, HPI2, HX⟩ := hrel
      obtain ⟨G, hG⟩ : ∃ G : Nat → Int, ∀ t, G t = dk[t]! := ⟨fun t => dk[t]!, fun _ => rfl⟩
      obtain ⟨hc, hf⟩ := at_cells (unhide HX) (unhide HH) (by omega) hblk hG
      rw [hlen] at hc hf
      have HG := hide hG
      clear hG
      go_wp2_with fail
      go_cut [60] from 46 to 62 (fun c wx => ∃ bb : Bool, c = .bool bb ∧ Hid (bb = true → i ≤ j ∧ pL dk[a]! dk[j]! = false) ∧ Hid (bb = false → i ≤ j → pL dk[a]! dk[j]! = true) ∧ Hid (At encF w blk off dk wx))
      case first =>
       by_cases hij : i ≤ j
       ·have hijz : decide ((i : Int) ≤ (j : Int)) = true := decide_eq_true (by omega)
        go_quiet (first | (go_at_call 129; refine Calls.quiet_of_same (less_any _ _ _)))
        go_wp2
        go_meet
        case rel => exact ⟨_, rfl, hide (fun h => ⟨hij, by simp only [pL, ← unhide HG] at h ⊢; simpa using h⟩), hide (fun h _ => by simp only [pL, ← unhide HG] at h ⊢; simpa using h), hide (at_drewN (unhide HX) _)⟩
       ·have hijz : decide ((i : Int) ≤ (j : Int)) = false := decide_eq_false (by omega)
        go_quiet (first | (go_at_call 129; refine Calls.quiet_of_same (less_any _ _ _)))
        go_wp2
        go_meet
        case rel => exact ⟨_, rfl, hide (fun h => by cases h), hide (fun _ h => absurd h hij), hide (at_drewN (unhide HX) _)⟩
      case rest =>
       obtain ⟨bb, rfl, HT, HF, HX3⟩ := hcut
       cases bb
       ·have HNJ : Hid (i ≤ j → pL dk[a]! dk[j]! = true) := unhide HF rfl
        clear HT HF HX hc hf HG HX2 HPI
        obtain ⟨V3, hV3⟩ : ∃ V, V = wc := ⟨_, rfl⟩
        subst hV3
        by_cases hij : i ≤ j
        ·have hijz : ¬ (j : Int) < (i : Int) := by omega
         obtain ⟨hlt, hsw⟩ := (unhide HPI2).swap hij (unhide HNI (by omega)) (unhide HNJ hij)
         have HSW := hide hsw
         clear hsw
         obtain ⟨G, hG⟩ : ∃ G : Nat → Int, ∀ t, G t = dk[t]! := ⟨fun t => dk[t]!, fun _ => rfl⟩
         obtain ⟨hc, hf⟩ := at_cells (unhide HX3) (unhide HH) (by omega) hblk hG
         rw [hlen] at hc hf
         have HG := hide hG
         clear hG
         have HY : Hid (∀ W2, W2 = ((V3.setCell ⟨blk, off + i, none⟩ (.int .u16 (G j))).setCell ⟨blk, off + j, none⟩ (.int .u16 (G i))).drew → At encF w blk off (swp dk i j) W2) := by
          intro W2 h2
          subst h2
          exact at_swap (at_drewN (unhide HX3) 1) (unhide HH) (by omega) hblk (by omega) (by omega) (by rw [unhide HG]) (by rw [unhide HG])
         have hsk2 : (swp dk i j).size = len := by rw [size_swp]; exact hsk
         generalize swp dk i j = dq at *
         go_wp2_with fail
         go_region
         all_goals go_wp2_with fail
         have HX9 := hide (unhide HY _ rfl)
         clear hc hf HY HG
         go_loopg [10, 11] b (fun k s9 s10 wr => ∃ (i j : Nat) (dk : Array Int), s9 = .int .i64 i ∧ s10 = .int .i64 j ∧ j + 1 - i ≤ k ∧ dk.size = len ∧ a < i ∧ i ≤ j + 1 ∧ j < b ∧ Hid (PI pL a b i j d dk) ∧ Hid (At encF w blk off dk wr))
         case atStart => exact ⟨i + 1, j - 1, dq, by go_num, by congr 1; omega, by omega, hsk2, by omega, by omega, by omega, HSW, HX9⟩
         case round =>
          obtain ⟨i0, j0, dk, rfl, rfl, hk0, hsk, hai0, hij0, hjb0, HPI0, HXX⟩ := hrel
          obtain ⟨V, hV⟩ : ∃ V, V = wr := ⟨_, rfl⟩
          subst hV
          go_wp2_with fail
          go_loopg [10] b (fun k2 s9 wr => ∃ i : Nat, s9 = .int .i64 i ∧ j0 + 1 - i ≤ k2 ∧ i0 ≤ i ∧ a < i ∧ i ≤ j0 + 1 ∧ Hid (PI pL a b i j0 d dk) ∧ Hid (At encF w blk off dk wr))
          case atStart => exact ⟨i0, rfl, by omega, Nat.le_refl _, hai0, hij0, HPI0, HXX⟩
          case round =>
           obtain ⟨i, rfl, hk2, hii, hai, hij1, HPI, HX⟩ := hrel
           obtain ⟨j, hj⟩ : ∃ j, j = j0 := ⟨_, rfl⟩
           subst hj
           obtain ⟨G, hG⟩ : ∃ G : Nat → Int, ∀ t, G t = dk[t]! := ⟨fun t => dk[t]!, fun _ => rfl⟩
           obtain ⟨hc, hf⟩ := at_cells (unhide HX) (unhide HH) (by omega) hblk hG
           rw [hlen] at hc hf
           have HG := hide hG
           clear hG
           go_wp2_with fail
           go_cut [112] from 99 to 114 (fun c wx => ∃ bb : Bool, c = .bool bb ∧ Hid (bb = true → i ≤ j ∧ pL dk[a]! dk[i]! = true) ∧ Hid (bb = false → i ≤ j → pL dk[a]! dk[i]! = false) ∧ Hid (At encF w blk off dk wx))
           case first =>
            by_cases hij : i ≤ j
            ·have hijz : decide ((i : Int) ≤ (j : Int)) = true := decide_eq_true (by omega)
             go_quiet (first | (go_at_call 129; refine Calls.quiet_of_same (less_any _ _ _)))
             go_wp2
             go_meet
             case rel => exact ⟨_, rfl, hide (fun h => ⟨hij, by simp only [pL, ← unhide HG] at h ⊢; simpa using h⟩), hide (fun h _ => by simp only [pL, ← unhide HG] at h ⊢; simpa using h), hide (at_drewN (unhide HX) _)⟩
            ·have hijz : decide ((i : Int) ≤ (j : Int)) = false := decide_eq_false (by omega)
             go_quiet (first | (go_at_call 129; refine Calls.quiet_of_same (less_any _ _ _)))
             go_wp2
             go_meet
             case rel => exact ⟨_, rfl, hide (fun h => by cases h), hide (fun _ h => absurd h hij), hide (at_drewN (unhide HX) _)⟩
           case rest =>
            obtain ⟨bb, rfl, HT, HF, HX2⟩ := hcut
            cases bb
            ·have HNI : Hid (i ≤ j → pL dk[a]! dk[i]! = false) := unhide HF rfl
             clear HT HF HX hc hf HG
             obtain ⟨V2, hV2⟩ : ∃ V, V = wc := ⟨_, rfl⟩
             subst hV2
             obtain ⟨j1, hj1⟩ : ∃ j1, j1 = j := ⟨_, rfl⟩
             subst hj1
             go_wp2_with fail
             go_loopg [11] b (fun k3 s10 wr => ∃ j : Nat, s10 = .int .i64 j ∧ j + 1 - i ≤ k3 ∧ j ≤ j1 ∧ i ≤ j + 1 ∧ j < b ∧ Hid (PI pL a b i j d dk) ∧ Hid (At encF w blk off dk wr))
             case atStart => exact ⟨j1, rfl, by omega, Nat.le_refl _, hij1, hjb0, HPI, HX2⟩
             case round =>
              obtain ⟨j, rfl, hk3, hjj, hij2, hjb, HPI2, HX⟩ := hrel
              obtain ⟨G, hG⟩ : ∃ G : Nat → Int, ∀ t, G t = dk[t]! := ⟨fun t => dk[t]!, fun _ => rfl⟩
              obtain ⟨hc, hf⟩ := at_cells (unhide HX) (unhide HH) (by omega) hblk hG
              rw [hlen] at hc hf
              have HG := hide hG
              clear hG
              go_wp2_with fail
              go_cut [129] from 115 to 131 (fun c wx => ∃ bb : Bool, c = .bool bb ∧ Hid (bb = true → i ≤ j ∧ pL dk[a]! dk[j]! = false) ∧ Hid (bb = false → i ≤ j → pL dk[a]! dk[j]! = true) ∧ Hid (At encF w blk off dk wx))
              case first =>
               by_cases hij : i ≤ j
               ·have hijz : decide ((i : Int) ≤ (j : Int)) = true := decide_eq_true (by omega)
                go_quiet (first | (go_at_call 129; refine Calls.quiet_of_same (less_any _ _ _)))
                go_wp2
                go_meet
                case rel => exact ⟨_, rfl, hide (fun h => ⟨hij, by simp only [pL, ← unhide HG] at h ⊢; simpa using h⟩), hide (fun h _ => by simp only [pL, ← unhide HG] at h ⊢; simpa using h), hide (at_drewN (unhide HX) _)⟩
               ·have hijz : decide ((i : Int) ≤ (j : Int)) = false := decide_eq_false (by omega)
                go_quiet (first | (go_at_call 129; refine Calls.quiet_of_same (less_any _ _ _)))
                go_wp2
                go_meet
                case rel => exact ⟨_, rfl, hide (fun h => by cases h), hide (fun _ h => absurd h hij), hide (at_drewN (unhide HX) _)⟩
              case rest =>
               obtain ⟨bb, rfl, HT, HF, HX3⟩ := hcut
               cases bb
               ·have HNJ : Hid (i ≤ j → pL dk[a]! dk[j]! = true) := unhide HF rfl
                clear HT HF HX hc hf HG HX2 HPI
                obtain ⟨V3, hV3⟩ : ∃ V, V = wc := ⟨_, rfl⟩
                subst hV3
                by_cases hij : i ≤ j
                ·have hijz : ¬ (j : Int) < (i : Int) := by omega
                 obtain ⟨hlt, hsw⟩ := (unhide HPI2).swap hij (unhide HNI (by omega)) (unhide HNJ hij)
                 have HSW := hide hsw
                 clear hsw
                 obtain ⟨G, hG⟩ : ∃ G : Nat → Int, ∀ t, G t = dk[t]! := ⟨fun t => dk[t]!, fun _ => rfl⟩
                 obtain ⟨hc, hf⟩ := at_cells (unhide HX3) (unhide HH) (by omega) hblk hG
                 rw [hlen] at hc hf
                 have HG := hide hG
                 clear hG
                 go_wp2_with fail
                 go_region
                 all_goals go_wp2_with fail
                 go_roundg (j - 1 + 1 - (i + 1))
                 case measure => omega
                 case rel => exact ⟨i + 1, j - 1, swp dk i j, by go_num, by congr 1; omega, Nat.le_refl _, by rw [size_swp]; exact hsk, by omega, by omega, by omega, HSW, hide (at_swap (at_drewN (unhide HX3) 1) (unhide HH) (by omega) hblk (by omega) (by omega) (by rw [unhide HG]) (by rw [unhide HG]))⟩
                ·have hijz : (j : Int) < (i : Int) := by omega
                 obtain ⟨G, hG⟩ : ∃ G : Nat → Int, ∀ t, G t = dk[t]! := ⟨fun t => dk[t]!, fun _ => rfl⟩
                 obtain ⟨hc, hf⟩ := at_cells (unhide HX3) (unhide HH) (by omega) hblk hG
                 rw [hlen] at hc hf
                 have HG := hide hG
                 clear hG
                 have HD := hide ((unhide HPI2).done hij)
                 by_cases ej : j = a
                 ·subst ej
                  go_wp2_with fail
                  go_region
                  all_goals go_wp2_with fail
                  go_ret2
                  obtain ⟨q1, q2, q3, q4, q5⟩ := unhide HD
                  exact ⟨j, false, swp dk j j, rfl, at_swap (at_drewN (unhide HX3) 1) (unhide HH) (by omega) hblk (by omega) (by omega) (by rw [unhide HG]) (by rw [unhide HG]), q1, q2, q3, q4, q5⟩
                 ·go_wp2_with fail
                  go_region
                  all_goals go_wp2_with fail
                  go_ret2
                  obtain ⟨q1, q2, q3, q4, q5⟩ := unhide HD
                  exact ⟨j, false, swp dk j a, rfl, at_swap (at_drewN (unhide HX3) 1) (unhide HH) (by omega) hblk (by omega) (by omega) (by rw [unhide HG]) (by rw [unhide HG]), q1, q2, q3, q4, q5⟩
               ·obtain ⟨hij, hp⟩ := unhide HT rfl
                have HPI3 := hide ((unhide HPI2).down hij hp)
                clear hp
                go_wp2_with fail
                go_roundg (j - 1 + 1 - i)
                case measure => omega
                case rel => exact ⟨j - 1, by congr 1; omega, Nat.le_refl _, by omega, by omega, by omega, HPI3, HX3⟩
            ·obtain ⟨hij, hp⟩ := unhide HT rfl
             have HPI2 := hide ((unhide HPI).up hij hp)
             clear hp
             go_wp2_with fail
             go_roundg (j + 1 - (i + 1))
             case measure => omega
             case rel => exact ⟨i + 1, by go_num, Nat.le_refl _, by omega, by omega, by omega, HPI2, HX2⟩
        ·have hijz : (j : Int) < (i : Int) := by omega
         obtain ⟨G, hG⟩ : ∃ G : Nat → Int, ∀ t, G t = dk[t]! := ⟨fun t => dk[t]!, fun _ => rfl⟩
         obtain ⟨hc, hf⟩ := at_cells (unhide HX3) (unhide HH) (by omega) hblk hG
         rw [hlen] at hc hf
         have HG := hide hG
         clear hG
         have HD := hide ((unhide HPI2).done hij)
         by_cases ej : j = a
         ·subst ej
          go_wp2_with fail
          go_region
          all_goals go_wp2_with fail
          go_ret2
          obtain ⟨q1, q2, q3, q4, q5⟩ := unhide HD
          exact ⟨j, true, swp dk j j, rfl, at_swap (at_drewN (unhide HX3) 1) (unhide HH) (by omega) hblk (by omega) (by omega) (by rw [unhide HG]) (by rw [unhide HG]), q1, q2, q3, q4, q5⟩
         ·go_wp2_with fail
          go_region
          all_goals go_wp2_with fail
          go_ret2
          obtain ⟨q1, q2, q3, q4, q5⟩ := unhide HD
          exact ⟨j, true, swp dk j a, rfl, at_swap (at_drewN (unhide HX3) 1) (unhide HH) (by omega) hblk (by omega) (by omega) (by rw [unhide HG]) (by rw [unhide HG]), q1, q2, q3, q4, q5⟩
       ·obtain ⟨hij, hp⟩ := unhide HT rfl
        have HPI3 := hide ((unhide HPI2).down hij hp)
        clear hp
        go_wp2_with fail
        go_roundg (j - 1 + 1 - i)
        case measure => omega
        case rel => exact ⟨j - 1, by congr 1; omega, Nat.le_refl _, by omega, by omega, by omega, HPI3, HX3⟩
    ·obtain ⟨hij, hp⟩ := unhide HT rfl
     have HPI2 := hide ((unhide HPI).up hij hp)
     clear hp
     go_wp2_with fail
     go_roundg (j + 1 - (i + 1))
     case measure => omega
     case rel => exact ⟨i + 1, by go_num, Nat.le_refl _, by omega, by omega, by omega, HPI2, HX2⟩

theorem lt_false {x y : Int} : ltInt x y = false ↔ y ≤ x := by simp [ltInt]
theorem lt_true {x y : Int} : ltInt x y = true ↔ x < y := by simp [ltInt]
theorem sorted_iff {a b : Nat} {d : Array Int} : SortedIn ltInt a b d ↔ ∀ i j, a ≤ i → i < j → j < b → d[i]! ≤ d[j]! :=
 ⟨fun h i j h1 h2 h3 => lt_false.1 (h i j h1 h2 h3), fun h i j h1 h2 h3 => lt_false.2 (h i j h1 h2 h3)⟩
structure Kont (a b : Nat) (d : Array Int) (i j : Nat) (dk : Array Int) : Prop where
 below : Go.Sort.Below ltInt i j dk
 ai : a ≤ i
 ij : i ≤ j
 jb : j ≤ b
 size : b ≤ d.size
 sized : dk.size = d.size
 go : ∀ R, PermIn i j dk R → SortedIn ltInt i j R → PermIn a b d R ∧ SortedIn ltInt a b R
variable {a b i j : Nat} {d dk : Array Int}
theorem Kont.start (hb : b ≤ d.size) (hab : a ≤ b) (h : Go.Sort.Below ltInt a b d) : Kont a b d a b d := ⟨h, Nat.le_refl _, hab, Nat.le_refl _, hb, rfl, fun _ h1 h2 => ⟨h1, h2⟩⟩
theorem Kont.perm (h : Kont a b d i j dk) {d1 : Array Int} (hp : PermIn i j dk d1) : Kont a b d i j d1 := by
 have h1 := h.jb
 have h2 := h.size
 have h3 := h.sized
 exact ⟨h.below.permA permIn_all (by omega) hp, h.ai, h.ij, h.jb, h.size, by rw [hp.1, h3], fun R hR hS => h.go R (permIn_trans _ _ _ _ _ hp hR) hS⟩
theorem Kont.equal (h : Kont a b d i j dk) {pv m : Nat} {d4 : Array Int} (hi0 : 0 < i) (hnl : ltInt dk[i - 1]! dk[pv]! = false) (him : i < m) (hmj : m ≤ j) (hp : PermIn i j dk d4) (he : d4[i]! = dk[pv]!)
  (hlo : ∀ t, i < t → t < m → pE d4[i]! d4[t]! = true) (hhi : ∀ t, m ≤ t → t < j → pE d4[i]! d4[t]! = false) : Kont a b d m j d4 := by
 have h1 := h.jb
 have h2 := h.size
 have h3 := h.sized
 have h4 := h.ai
 have hs4 : d4.size = d.size := by rw [hp.1, h3]
 rw [he] at hlo hhi
 have lo : ∀ t, i < t → t < m → d4[t]! ≤ dk[pv]! := fun t t1 t2 => by
  have := hlo t t1 t2
  simp only [pE, Bool.not_eq_true'] at this
  exact lt_false.1 this
 have hi : ∀ t, m ≤ t → t < j → dk[pv]! < d4[t]! := fun t t1 t2 => by
  have := hhi t t1 t2
  simp only [pE, Bool.not_eq_false'] at this
  exact lt_true.1 this
 have ge : ∀ t, i ≤ t → t < j → dk[pv]! ≤ dk[t]! := fun t t1 t2 => by
  rcases h.below with hb | hb
  ·omega
  ·have := lt_false.1 (hb t t1 t2)
   have := lt_false.1 hnl
   omega
 have ge4 := permIn_all dk d4 i j (fun x => dk[pv]! ≤ x) (by omega) hp ge
 refine ⟨.inr fun t t1 t2 => lt_false.2 ?_, by omega, hmj, h1, h2, hs4, fun R hR hS => ?_⟩
 ·have a1 := hi t t1 t2
  by_cases e : m - 1 = i
  ·rw [e, he]; omega
  ·have := lo (m - 1) (by omega) (by omega); omega
 ·have eR : ∀ t, t < m → R[t]! = d4[t]! := fun t ht => hR.2.1 t (.inl ht)
  have hiR := permIn_all d4 R m j (fun x => dk[pv]! < x) (by omega) hR hi
  refine h.go R (permIn_trans _ _ _ _ _ hp (permIn_mono _ _ m j i j (by omega) (Nat.le_refl _) (by omega) hR)) (sorted_iff.2 fun x y x1 x2 x3 => ?_)
  have val : ∀ t, i ≤ t → t < m → R[t]! = dk[pv]! := fun t t1 t2 => by
   rw [eR t t2]
   have g1 := ge4 t t1 (by omega)
   by_cases e : t = i
   ·subst e; exact he
   ·have := lo t (by omega) t2; omega
  by_cases hx : x < m
  ·rw [val x x1 hx]
   by_cases hy : y < m
   ·rw [val y (by omega) hy]; omega
   ·have := hiR y (by omega) x3; omega
  ·exact sorted_iff.1 hS x y (by omega) x2 x3
structure Split (i j m : Nat) (dk d4 : Array Int) : Prop where
 im : i ≤ m
 mj : m < j
 perm : PermIn i j dk d4
 lo : ∀ t, i ≤ t → t < m → d4[t]! < d4[m]!
 hi : ∀ t, m < t → t < j → d4[m]! ≤ d4[t]!
theorem Split.of {m : Nat} {d4 : Array Int} (h1 : i ≤ m) (h2 : m < j) (h3 : PermIn i j dk d4) (h4 : ∀ t, i ≤ t → t < m → pL d4[m]! d4[t]! = true) (h5 : ∀ t, m < t → t < j → pL d4[m]! d4[t]! = false) : Split i j m dk d4 :=
 ⟨h1, h2, h3, fun t t1 t2 => lt_true.1 (h4 t t1 t2), fun t t1 t2 => lt_false.1 (h5 t t1 t2)⟩
theorem Kont.glue (h : Kont a b d i j dk) {m : Nat} {d4 R : Array Int} (hs : Split i j m dk d4)
  (hp : PermIn i j d4 R) (hm : R[m]! = d4[m]!) (h1 : ∀ t, i ≤ t → t < m → R[t]! < d4[m]!) (h2 : ∀ t, m < t → t < j → d4[m]! ≤ R[t]!) (s1 : SortedIn ltInt i m R) (s2 : SortedIn ltInt (m + 1) j R) : PermIn a b d R ∧ SortedIn ltInt a b R := by
 refine h.go R (permIn_trans _ _ _ _ _ hs.perm hp) (sorted_iff.2 fun x y x1 x2 x3 => ?_)
 by_cases hx : x < m
 ·by_cases hy : y < m
  ·exact sorted_iff.1 s1 x y x1 x2 hy
  ·have a1 := h1 x x1 hx
   by_cases e : y = m
   ·subst e; rw [hm]; omega
   ·have := h2 y (by omega) x3; omega
 ·by_cases e : x = m
  ·subst e; rw [hm]; exact h2 y x2 x3
  ·exact sorted_iff.1 s2 x y (by omega) x2 x3
theorem sorted_congr {x y : Nat} {R L : Array Int} (h : SortedIn ltInt x y L) (e : ∀ t, x ≤ t → t < y → R[t]! = L[t]!) : SortedIn ltInt x y R :=
 sorted_iff.2 fun s t s1 s2 s3 => by rw [e s s1 (by omega), e t (by omega) s3]; exact sorted_iff.1 h s t s1 s2 s3
theorem Kont.left (h : Kont a b d i j dk) {m : Nat} {d4 : Array Int} (hs : Split i j m dk d4) : Go.Sort.Below ltInt i m d4 ∧ ∀ L, PermIn i m d4 L → SortedIn ltInt i m L → Kont a b d (m + 1) j L := by
 have g1 := h.jb
 have g2 := h.size
 have g3 := h.sized
 have g4 := h.ai
 have g5 := hs.im
 have g6 := hs.mj
 have hs4 : d4.size = d.size := by rw [hs.perm.1, g3]
 refine ⟨?_, fun L hL hSL => ?_⟩
 ·rcases (h.perm hs.perm).below with hb | hb
  ·exact .inl hb
  ·exact .inr fun t t1 t2 => hb t t1 (by omega)
 ·have eL : ∀ t, m ≤ t → L[t]! = d4[t]! := fun t ht => hL.2.1 t (.inr ht)
  have hsL : L.size = d.size := by rw [hL.1, hs4]
  refine ⟨.inr fun t t1 t2 => lt_false.2 (by rw [Nat.add_sub_cancel, eL t (by omega), eL m (Nat.le_refl _)]; exact hs.hi t (by omega) t2), by omega, by omega, g1, g2, hsL, fun R hR hS => ?_⟩
  have eR : ∀ t, t ≤ m → R[t]! = L[t]! := fun t ht => hR.2.1 t (.inl (by omega))
  have loL := permIn_all d4 L i m (fun x => x < d4[m]!) (by omega) hL hs.lo
  have hiR := permIn_all L R (m + 1) j (fun x => d4[m]! ≤ x) (by omega) hR (fun t t1 t2 => by rw [eL t (by omega)]; exact hs.hi t (by omega) t2)
  exact h.glue hs (permIn_trans _ _ _ _ _ (permIn_mono _ _ i m i j (Nat.le_refl _) (by omega) (by omega) hL) (permIn_mono _ _ (m + 1) j i j (by omega) (Nat.le_refl _) (by omega) hR))
   (by rw [eR m (Nat.le_refl _), eL m (Nat.le_refl _)]) (fun t t1 t2 => by rw [eR t (by omega)]; exact loL t t1 t2) (fun t t1 t2 => hiR t (by omega) t2) (sorted_congr hSL fun t t1 t2 => eR t (by omega)) hS
theorem Kont.right (h : Kont a b d i j dk) {m : Nat} {d4 : Array Int} (hs : Split i j m dk d4) : Go.Sort.Below ltInt (m + 1) j d4 ∧ ∀ L, PermIn (m + 1) j d4 L → SortedIn ltInt (m + 1) j L → Kont a b d i m L := by
 have g1 := h.jb
 have g2 := h.size
 have g3 := h.sized
 have g4 := h.ai
 have g5 := hs.im
 have g6 := hs.mj
 have hs4 : d4.size = d.size := by rw [hs.perm.1, g3]
 refine ⟨.inr fun t t1 t2 => lt_false.2 (by rw [Nat.add_sub_cancel]; exact hs.hi t (by omega) t2), fun L hL hSL => ?_⟩
 have eL : ∀ t, t ≤ m → L[t]! = d4[t]! := fun t ht => hL.2.1 t (.inl (by omega))
 have hsL : L.size = d.size := by rw [hL.1, hs4]
 refine ⟨?_, by omega, by omega, by omega, g2, hsL, fun R hR hS => ?_⟩
 ·rcases (h.perm hs.perm).below with hb | hb
  ·exact .inl hb
  ·exact .inr fun t t1 t2 => by rw [eL t (by omega), eL (i - 1) (by omega)]; exact hb t t1 (by omega)
 ·have eR : ∀ t, m ≤ t → R[t]! = L[t]! := fun t ht => hR.2.1 t (.inr ht)
  have hiL := permIn_all d4 L (m + 1) j (fun x => d4[m]! ≤ x) (by omega) hL (fun t t1 t2 => hs.hi t (by omega) t2)
  have loR := permIn_all L R i m (fun x => x < d4[m]!) (by omega) hR (fun t t1 t2 => by rw [eL t (by omega)]; exact hs.lo t t1 t2)
  exact h.glue hs (permIn_trans _ _ _ _ _ (permIn_mono _ _ (m + 1) j i j (by omega) (Nat.le_refl _) (by omega) hL) (permIn_mono _ _ i m i j (Nat.le_refl _) (by omega) (by omega) hR))
   (by rw [eR m (Nat.le_refl _), eL m (Nat.le_refl _)]) loR (fun t t1 t2 => by rw [eR t (by omega)]; exact hiL t (by omega) t2) hS (sorted_congr hSL fun t t1 t2 => eR t (by omega))
end So
namespace So

set_option maxRecDepth 1000000 in
theorem insertion_any (blk off cap len a b : Nat) (d : Array Int) (w : World) (hlen : d.size = len) (hH : Holds encF w blk off d) (hblk : blk < w.heap.size) (hab : a ≤ b) (hb : b ≤ len) (hsz : len < 4611686018427387904) :
  Calls Tryz.prog 123 #[.slice (some ⟨blk, off, none⟩) len cap, .int .i64 a, .int .i64 b] w fun e w' =>
   e = .returned (.tuple #[]) ∧ At encF w blk off (insertionSort ltInt d a b) w' := by
 have HAT := hide (At.refl hH)
 have HH := hide hH
 clear hH
 go_enter Tryz.func123, Tryz.ntmps123
 go_wp2
 go_loopw [6] (fun vi wr => ∃ (i : Nat) (dk : Array Int), vi = .int .i64 i ∧ a < i ∧ i ≤ b + 1 ∧ dk.size = len ∧ Hid (At encF w blk off dk wr) ∧ Hid (insOuter ltInt a b i dk = insertionSort ltInt d a b)) (fun vi _ => b + 1 - (intOf vi).toNat)
 case atStart => exact ⟨a + 1, d, by go_num, by omega, by omega, hlen, HAT, rfl⟩
 case round =>
  obtain ⟨i, dk, rfl, hai, hib, hsk, HA, HO⟩ := hrel
  by_cases hlt : i < b
  ·have hltz : (i : Int) < (b : Int) := by omega
   go_wp2
   go_loopw [7] (fun vj w2 => ∃ (j : Nat) (dj : Array Int), vj = .int .i64 j ∧ a ≤ j ∧ j ≤ i ∧ dj.size = len ∧ Hid (At encF w blk off dj w2) ∧ Hid (insInner ltInt a j dj = insInner ltInt a i dk)) (fun vj _ => (intOf vj).toNat)
   case atStart => exact ⟨i, dk, rfl, by omega, Nat.le_refl _, hsk, HA, rfl⟩
   case round =>
    obtain ⟨j, dj, rfl, haj, hji, hsj, HB, HI⟩ := hrel
    obtain ⟨G, hG⟩ : ∃ G : Nat → Int, ∀ t, G t = dj[t]! := ⟨fun t => dj[t]!, fun _ => rfl⟩
    obtain ⟨hc, hf⟩ := at_cells (unhide HB) (unhide HH) (by omega) hblk hG
    rw [hlen] at hc hf
    have HG := hide hG
    clear hG
    have OUT : Hid ((j ≤ a ∨ ltInt (G j) (G (j - 1)) = false) → insOuter ltInt a b (i + 1) dj = insertionSort ltInt d a b) := fun hs => by
     rw [← unhide HO, insOuter_go _ _ _ _ _ hlt, ← unhide HI, insInner_stop _ _ _ _ (by rw [unhide HG, unhide HG] at hs; exact hs)]
    by_cases hja : a < j
    ·have hjaz : decide ((a : Int) < (j : Int)) = true := decide_eq_true (by omega)
     go_wp2
     go_quiet (first | (go_at_call 129; refine Calls.quiet_of_same (less_any _ _ _)))
     go_wp2
     ·have hl : ltInt (G j) (G (j - 1)) = true := by assumption
      go_region
      all_goals go_wp2
      go_roundw
      case rel =>
       refine ⟨j - 1, swp dj j (j - 1), by congr 1; omega, by omega, by omega, by rw [size_swp]; exact hsj, ?_, ?_⟩
       ·exact hide (at_swap (at_drewN (unhide HB) _) (unhide HH) (by omega) hblk (by omega) (by omega) (by rw [unhide HG]) (by rw [unhide HG]))
       ·refine hide ?_
        rw [← unhide HI, insInner_go ltInt a j dj hja (by rw [← unhide HG, ← unhide HG]; exact hl)]
      case measure => simp [intOf]; omega
     ·have hl : ltInt (G j) (G (j - 1)) = false := by assumption
      go_roundw
      case rel => exact ⟨i + 1, dj, by go_num, by omega, by omega, hsj, hide (at_drewN (unhide HB) _), hide (unhide OUT (.inr hl))⟩
      case measure => simp [intOf]; omega
    ·have hjaz : decide ((a : Int) < (j : Int)) = false := decide_eq_false (by omega)
     go_wp2
     go_quiet (first | (go_at_call 129; refine Calls.quiet_of_same (less_any _ _ _)))
     go_wp2
     go_roundw
     case rel => exact ⟨i + 1, dj, by go_num, by omega, by omega, hsj, hide (at_drewN (unhide HB) _), hide (unhide OUT (.inl (by omega)))⟩
     case measure => simp [intOf]; omega
  ·have hltz : ¬ (i : Int) < (b : Int) := by omega
   have HE : Hid (dk = insertionSort ltInt d a b) := by
    rw [Hid, ← unhide HO, insOuter_stop _ _ _ _ _ hlt]
   go_wp2
   go_end0
   exact ⟨rfl, by rw [← unhide HE]; exact unhide HA⟩

set_option maxRecDepth 1000000 in
theorem reverse_any (blk off cap len a b : Nat) (d : Array Int) (w : World) (hlen : d.size = len) (hH : Holds encF w blk off d) (hblk : blk < w.heap.size) (hab : a ≤ b) (hb : b ≤ len) (hsz : len < 4611686018427387904) :
  Calls Tryz.prog 127 #[.slice (some ⟨blk, off, none⟩) len cap, .int .i64 a, .int .i64 b] w fun e w' =>
   e = .returned (.tuple #[]) ∧ ∃ d', At encF w blk off d' w' ∧ PermIn a b d d' := by
 have HAT := hide (At.refl hH)
 have HH := hide hH
 clear hH
 go_enter Tryz.func127, Tryz.ntmps127
 go_wp2
 go_loopw [6, 7] (fun vi vj wr => ∃ (i : Nat) (jz : Int) (dk : Array Int), vi = .int .i64 i ∧ vj = .int .i64 jz ∧ a ≤ i ∧ i ≤ b ∧ jz < b ∧ -1 ≤ jz ∧ dk.size = len ∧ Hid (At encF w blk off dk wr) ∧ Hid (PermIn a b d dk)) (fun vi vj _ => (intOf vj - intOf vi).toNat)
 case atStart => exact ⟨a, (b : Int) - 1, d, rfl, rfl, by omega, by omega, by omega, by omega, hlen, HAT, hide (permIn_refl _ _ _)⟩
 case round =>
  obtain ⟨i, jz, dk, rfl, rfl, hai, hib, hjb, hj1, hsk, HA, HP⟩ := hrel
  by_cases hlt : (i : Int) < jz
  ·obtain ⟨j, rfl⟩ : ∃ j : Nat, jz = j := ⟨jz.toNat, by omega⟩
   obtain ⟨G, hG⟩ : ∃ G : Nat → Int, ∀ t, G t = dk[t]! := ⟨fun t => dk[t]!, fun _ => rfl⟩
   obtain ⟨hc, hf⟩ := at_cells (unhide HA) (unhide HH) (by omega) hblk hG
   rw [hlen] at hc hf
   have HG := hide hG
   clear hG
   go_wp2_with fail
   go_region
   all_goals go_wp2
   go_roundw
   case rel =>
    refine ⟨i + 1, (j : Int) - 1, swp dk i j, by go_num, rfl, by omega, by omega, by omega, by omega, by rw [size_swp]; exact hsk, ?_, hide (permIn_trans _ _ _ _ _ (unhide HP) (swp_permIn dk a b i j hai (by omega) (by omega) (by omega) (by omega)))⟩
    exact hide (at_swap (at_drewN (unhide HA) 1) (unhide HH) (by omega) hblk (by omega) (by omega) (by rw [unhide HG]) (by rw [unhide HG]))
   case measure => simp [intOf]; omega
  ·go_wp2
   go_end0
   exact ⟨rfl, dk, unhide HA, unhide HP⟩

def Cnt (w : World) (s : Nat) (W : World) : Prop := ∃ n, W = grow (Sort.ahead w n) #[Obj.cells #[.int .i64 (s : Int)] 3]
section
variable {w W : World} {s : Nat}
theorem Cnt.cell (h : Cnt w s W) : W.cell? ⟨w.heap.size, 0, none⟩ = some (.int .i64 (s : Int)) ∧ W.frozen? ⟨w.heap.size, 0, none⟩ = false := by
 obtain ⟨n, rfl⟩ := h
 exact ⟨grow_one_cell (Sort.ahead w n) _ 3, grow_one_frozen (Sort.ahead w n) _ 3⟩
theorem Cnt.drewN (h : Cnt w s W) (q : Nat) : Cnt w s (W.drewN q) := by
 obtain ⟨n, rfl⟩ := h
 exact ⟨n + q, by rw [← ahead_ahead]; rfl⟩
theorem Cnt.set (h : Cnt w s W) (t : Nat) : Cnt w t (W.setCell ⟨w.heap.size, 0, none⟩ (.int .i64 (t : Int))) := by
 obtain ⟨n, rfl⟩ := h
 exact ⟨n, setCell_grow_one (Sort.ahead w n) _ _ 3⟩
theorem Cnt.holds (h : Cnt w s W) {blk off : Nat} {d : Array Int} (hH : Holds encF w blk off d) (hb : blk < w.heap.size) : Holds encF W blk off d := by
 obtain ⟨n, rfl⟩ := h
 exact holds_grow encF _ _ blk off d (by simpa using hb) (holds_ahead encF w n blk off d hH)
theorem Cnt.grown (h : Cnt w s W) : ∃ n os, W = grow (Sort.ahead w n) os := by
 obtain ⟨n, rfl⟩ := h
 exact ⟨n, _, rfl⟩
theorem Cnt.new (w : World) : Cnt w 0 (w.alloc (.cells #[.int .i64 0] 3)) := ⟨0, by rw [alloc_eq_grow, ahead_zero]; rfl⟩
end

set_option maxRecDepth 1000000 in
theorem order2_any (blk off cap len x y s lo hi : Nat) (d : Array Int) (w W : World) (hlen : d.size = len) (hH : Holds encF w blk off d) (hblk : blk < w.heap.size) (hC : Cnt w s W) (hs : s ≤ 1000) (hx : lo ≤ x ∧ x < hi) (hy : lo ≤ y ∧ y < hi) (hhi : hi ≤ len) (_hsz : len < 4611686018427387904) :
  Calls Tryz.prog 185 #[.slice (some ⟨blk, off, none⟩) len cap, .int .i64 x, .int .i64 y, .pointer (some ⟨w.heap.size, 0, none⟩)] W fun e w' =>
   ∃ x' y' s' : Nat, e = .returned (.tuple #[.int .i64 x', .int .i64 y']) ∧ (lo ≤ x' ∧ x' < hi) ∧ (lo ≤ y' ∧ y' < hi) ∧ s' ≤ s + 1 ∧ Cnt w s' w' := by
 have hh := hC.holds hH hblk
 obtain ⟨G, hG⟩ : ∃ G : Nat → Int, ∀ t, G t = d[t]! := ⟨fun t => d[t]!, fun _ => rfl⟩
 have hc : ∀ t, t < len → W.cell? ⟨blk, off + t, none⟩ = some (.int .u16 (G t)) := fun t ht => by rw [hG]; exact (hh t (by omega)).1
 obtain ⟨hn1, hn2⟩ := hC.cell
 have HC := hide hC
 clear hG hh hH hC
 have hxl : x < len := by omega
 have hyl : y < len := by omega
 obtain ⟨B, hB⟩ : ∃ B, B = w.heap.size := ⟨_, rfl⟩
 have HSET : Hid (∀ q, Cnt w (s + 1) ((W.drewN q).setCell ⟨B, 0, none⟩ (.int .i64 ((s : Int) + 1)))) := fun q => by
  have := ((unhide HC).drewN q).set (s + 1)
  rw [hB]
  exact this
 rw [← hB] at hn1 hn2 ⊢
 clear hB hblk
 go_enter Tryz.func185, Tryz.ntmps185
 go_wp2_with fail
 go_quiet (first | (go_at_call 129; refine Calls.quiet_of_same (less_any _ _ _)))
 go_wp2
 ·go_ret2
  exact ⟨y, x, s + 1, rfl, hy, hx, Nat.le_refl _, unhide HSET _⟩
 ·go_ret2
  exact ⟨x, y, s, rfl, hx, hy, by omega, (unhide HC).drewN _⟩

set_option maxRecDepth 1000000 in
theorem median_any (blk off cap len x y z s lo hi : Nat) (d : Array Int) (w W : World) (hlen : d.size = len) (hH : Holds encF w blk off d) (hblk : blk < w.heap.size) (hC : Cnt w s W) (hs : s ≤ 900) (hx : lo ≤ x ∧ x < hi) (hy : lo ≤ y ∧ y < hi) (hz : lo ≤ z ∧ z < hi) (hhi : hi ≤ len) (hsz : len < 4611686018427387904) :
  Calls Tryz.prog 162 #[.slice (some ⟨blk, off, none⟩) len cap, .int .i64 x, .int .i64 y, .int .i64 z, .pointer (some ⟨w.heap.size, 0, none⟩)] W fun e w' =>
   ∃ m s' : Nat, e = .returned (.int .i64 m) ∧ (lo ≤ m ∧ m < hi) ∧ s' ≤ s + 3 ∧ Cnt w s' w' := by
 have HO := hide (fun (x y s : Nat) W h1 h2 h3 h4 => order2_any blk off cap len x y s lo hi d w W hlen hH hblk h1 h2 h3 h4 hhi hsz)
 have HC := hide hC
 obtain ⟨B, hB⟩ : ∃ B, B = w.heap.size := ⟨_, rfl⟩
 rw [← hB] at HO ⊢
 clear hH hC hB hblk
 go_enter Tryz.func162, Tryz.ntmps162
 go_wp2_with (go_at_call 185; first
  | (refine (unhide HO x y s _ (unhide HC) (by omega) hx hy).mono ?_; rintro e w1 ⟨x1, y1, s1, rfl, hx1, hy1, hs1, hC1⟩; have HC1 := hide hC1; clear hC1 HC)
  | (refine (unhide HO y1 z s1 _ (unhide HC1) (by omega) hy1 hz).mono ?_; rintro e w2 ⟨x2, y2, s2, rfl, hx2, hy2, hs2, hC2⟩; have HC2 := hide hC2; clear hC2 HC1)
  | (refine (unhide HO x1 x2 s2 _ (unhide HC2) (by omega) hx1 hx2).mono ?_; rintro e w3 ⟨x3, y3, s3, rfl, hx3, hy3, hs3, hC3⟩; have HC3 := hide hC3; clear hC3 HC2))
 go_ret
 exact ⟨y3, s3, rfl, hy3, by omega, unhide HC3⟩

set_option maxRecDepth 1000000 in
theorem medianAdj_any (blk off cap len x s lo hi : Nat) (d : Array Int) (w W : World) (hlen : d.size = len) (hH : Holds encF w blk off d) (hblk : blk < w.heap.size) (hC : Cnt w s W) (hs : s ≤ 900) (hx : lo + 1 ≤ x ∧ x + 1 < hi) (hhi : hi ≤ len) (hsz : len < 4611686018427387904) :
  Calls Tryz.prog 161 #[.slice (some ⟨blk, off, none⟩) len cap, .int .i64 x, .pointer (some ⟨w.heap.size, 0, none⟩)] W fun e w' =>
   ∃ m s' : Nat, e = .returned (.int .i64 m) ∧ (lo ≤ m ∧ m < hi) ∧ s' ≤ s + 3 ∧ Cnt w s' w' := by
 obtain ⟨p, hp⟩ : ∃ p : Nat, p = x - 1 := ⟨_, rfl⟩
 obtain ⟨n, hn⟩ : ∃ n : Nat, n = x + 1 := ⟨_, rfl⟩
 have hpz : (x : Int) - 1 = (p : Int) := by omega
 have hnz : (x : Int) + 1 = (n : Int) := by omega
 have HM := hide (median_any blk off cap len p x n s lo hi d w W hlen hH hblk hC hs (by omega) (by omega) (by omega) hhi hsz)
 obtain ⟨B, hB⟩ : ∃ B, B = w.heap.size := ⟨_, rfl⟩
 rw [← hB] at HM ⊢
 clear hH hC hB hblk hp hn
 go_enter Tryz.func161, Tryz.ntmps161
 go_wp2_with (go_at_call 162; refine (unhide HM).mono ?_; rintro e w1 ⟨m, s', rfl, hm, hs', hC'⟩)
 go_ret
 exact ⟨m, s', rfl, hm, hs', hC'⟩

set_option maxRecDepth 1000000 in
theorem pivot_any (blk off cap len a b : Nat) (d : Array Int) (w : World) (hlen : d.size = len) (hH : Holds encF w blk off d) (hblk : blk < w.heap.size) (hab : a < b) (hb : b ≤ len) (hsz : len < 4611686018427387904) :
  Calls Tryz.prog 126 #[.slice (some ⟨blk, off, none⟩) len cap, .int .i64 a, .int .i64 b] w fun e w' =>
   ∃ (m : Nat) (h : Int), e = .returned (.tuple #[.int .i64 m, .int .i64 h]) ∧ (a ≤ m ∧ m < b) ∧ ∃ n os, w' = grow (Sort.ahead w n) os := by
 obtain ⟨l, hl⟩ : ∃ l, l = b - a := ⟨_, rfl⟩
 obtain ⟨q, hq⟩ : ∃ q, q = l / 4 := ⟨_, rfl⟩
 obtain ⟨i, hi⟩ : ∃ i, i = a + q := ⟨_, rfl⟩
 obtain ⟨j, hj⟩ : ∃ j, j = a + q * 2 := ⟨_, rfl⟩
 obtain ⟨k, hk⟩ : ∃ k, k = a + q * 3 := ⟨_, rfl⟩
 have hlz : (b : Int) - (a : Int) = (l : Int) := by omega
 have hqz : (l : Int).tdiv 4 = (q : Int) := by rw [Int.tdiv_eq_ediv_of_nonneg (by omega)]; omega
 have hqz2 : (l : Int) / 4 = (q : Int) := by omega
 have hiz : (a : Int) + (q : Int) = (i : Int) := by omega
 have hjz : (a : Int) + (q : Int) * 2 = (j : Int) := by omega
 have hkz : (a : Int) + (q : Int) * 3 = (k : Int) := by omega
 have hjr : a ≤ j ∧ j < b := by omega
 have h8 : 8 ≤ l → (a ≤ i ∧ i < b) ∧ (a ≤ k ∧ k < b) := by omega
 have h50 : 50 ≤ l → (a + 1 ≤ i ∧ i + 1 < b) ∧ (a + 1 ≤ j ∧ j + 1 < b) ∧ (a + 1 ≤ k ∧ k + 1 < b) := by omega
 have hql : q ≤ l := by omega
 have hll : l ≤ len := by omega
 have HA := hide (fun (x s : Nat) W h1 h2 h3 => medianAdj_any blk off cap len x s a b d w W hlen hH hblk h1 h2 h3 hb hsz)
 have HM := hide (fun (x y z s : Nat) W h1 h2 h3 h4 h5 => median_any blk off cap len x y z s a b d w W hlen hH hblk h1 h2 h3 h4 h5 hb hsz)
 have HN := hide (Cnt.new w)
 clear hl hq hi hj hk hH
 go_enter Tryz.func126, Tryz.ntmps126
 by_cases c8 : 8 ≤ l
 ·have c8z : (8 : Int) ≤ (l : Int) := by omega
  by_cases c50 : 50 ≤ l
  ·have c50z : (50 : Int) ≤ (l : Int) := by omega
   obtain ⟨r1, r2, r3⟩ := h50 c50
   go_wp2_with (first
    | (go_at_call 161; first
     | (refine (unhide HA i 0 _ (unhide HN) (by omega) r1).mono ?_; rintro e w1 ⟨m1, s1, rfl, hm1, hs1, hC1⟩; have HC1 := hide hC1; clear hC1 HN)
     | (refine (unhide HA j s1 _ (unhide HC1) (by omega) r2).mono ?_; rintro e w2 ⟨m2, s2, rfl, hm2, hs2, hC2⟩; have HC2 := hide hC2; clear hC2 HC1)
     | (refine (unhide HA k s2 _ (unhide HC2) (by omega) r3).mono ?_; rintro e w3 ⟨m3, s3, rfl, hm3, hs3, hC3⟩; have HC3 := hide hC3; clear hC3 HC2))
    | (go_at_call 162; refine (unhide HM m1 m2 m3 s3 _ (unhide HC3) (by omega) hm1 hm2 hm3).mono ?_; rintro e w4 ⟨m4, s4, rfl, hm4, hs4, hC4⟩; have HC4 := hide hC4; obtain ⟨cc, _⟩ := hC4.cell; clear hC4 HC3))
   all_goals go_ret2
   all_goals exact ⟨m4, _, rfl, hm4, (unhide HC4).grown⟩
  ·have c50z : ¬ (50 : Int) ≤ (l : Int) := by omega
   obtain ⟨r1, r3⟩ := h8 c8
   go_wp2_with (go_at_call 162; refine (unhide HM i j k 0 _ (unhide HN) (by omega) r1 hjr r3).mono ?_; rintro e w4 ⟨m4, s4, rfl, hm4, hs4, hC4⟩; have HC4 := hide hC4; obtain ⟨cc, _⟩ := hC4.cell; clear hC4 HN)
   all_goals go_ret2
   all_goals exact ⟨m4, _, rfl, hm4, (unhide HC4).grown⟩
 ·have c8z : ¬ (8 : Int) ≤ (l : Int) := by omega
  go_wp2
  go_ret2
  exact ⟨j, ⟨_, rfl⟩, hjr, (unhide HN).grown⟩
end So
end Go.Proofs.YtmhegbeemgagkaaGreatDoor
