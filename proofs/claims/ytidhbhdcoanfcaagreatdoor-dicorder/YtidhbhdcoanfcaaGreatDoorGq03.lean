import Derived.Test.YtidhbhdcoanfcaaGreatDoorChecked
import Derived.Sort.WalkA
import Derived.Sort.Walk13a
import Derived.Sort.AssemblyPlain
import Derived.Lib.SplitLaws
import Derived.Lib.SlicesCompact
import Derived.Laws.CopyOwn
import Derived.Deep.CutRange
set_option maxHeartbeats 8000000
set_option maxRecDepth 100000
namespace Go.Proofs.YtidhbhdcoanfcaaGreatDoor
open Go.Sort Go.RowKit
namespace So

def Hid (p : Prop) : Prop := p
theorem hide {p : Prop} (h : p) : Hid p := h
theorem unhide {p : Prop} (h : Hid p) : p := h
abbrev encF : Int → Value := fun x => Value.int .u16 x
theorem swo : SWO ltInt := ⟨fun x => by simp [ltInt], fun x y z h1 h2 => by simp [ltInt] at *; omega, fun x y z h1 h2 => by simp [ltInt] at *; omega⟩

theorem less_any (x y : Int) (w : World) : Calls Tryz.prog 184 #[.int .u16 x, .int .u16 y] w fun e w' => e = .returned (.bool (ltInt x y)) ∧ w' = w := by
 go_enter Tryz.func184, Tryz.ntmps184
 go_wp2
 go_ret
 exact ⟨rfl, rfl⟩

section
variable {w wr : World} {blk off : Nat} {d dk : Array Int}
theorem at_cells (h : At encF w blk off dk wr) (hH : Holds encF w blk off d) (hs : dk.size = d.size) (hb : blk < w.heap.size) {G : Nat → Int} (hG : ∀ t, G t = dk[t]!) :
  (∀ t, t < d.size → wr.cell? ⟨blk, off + t, none⟩ = some (.int .u16 (G t))) ∧ ∀ t, t < d.size → wr.frozen? ⟨blk, off + t, none⟩ = false := by
 have hh := (h.holds hH hs hb).1
 exact ⟨fun t ht => by rw [hG]; exact (hh t (by omega)).1, fun t ht => (hh t (by omega)).2⟩
theorem at_drewN (h : At encF w blk off dk wr) (m : Nat) : At encF w blk off dk (wr.drewN m) := h.ahead m
theorem at_swap (h : At encF w blk off dk wr) (hH : Holds encF w blk off d) (hs : dk.size = d.size) (hb : blk < w.heap.size) {i j : Nat} (hi : i < dk.size) (hj : j < dk.size) {x y : Value} (hx : x = encF dk[j]!) (hy : y = encF dk[i]!) :
  At encF w blk off (swp dk i j) ((wr.setCell ⟨blk, off + i, none⟩ x).setCell ⟨blk, off + j, none⟩ y) := by
 subst hx; subst hy
 have hh := (h.holds hH hs hb).1
 refine h.step hb (size_swp dk i j) ⟨0, ?_⟩
 rw [ahead_zero]
 rw [← putRow_swp encF wr blk off dk i j hi hj, putRow_self encF wr blk off dk hh]
end
end So
end Go.Proofs.YtidhbhdcoanfcaaGreatDoor
namespace Go.Proofs.YtidhbhdcoanfcaaGreatDoor
open Go.RowKit
namespace ArgS
def StrsAt (W : World) (v : Value) (L : List ByteArray) : Prop :=
 ∃ ao cap, v = .slice ao L.length cap ∧ L.length ≤ cap ∧ (0 < L.length → ∃ g off, ao = some ⟨g, off, none⟩ ∧ g < W.heap.size ∧ ∀ (j : Nat) x, L[j]? = some x → W.cell? ⟨g, off + j, none⟩ = some (.string x))
theorem StrsAt.form {W : World} {v : Value} {L : List ByteArray} (h : StrsAt W v L) : ∃ ao cap, v = .slice ao L.length cap ∧ L.length ≤ cap ∧ ∀ (j : Nat) x, L[j]? = some x → ∃ g off, ao = some ⟨g, off, none⟩ ∧ g < W.heap.size ∧ W.cell? ⟨g, off + j, none⟩ = some (.string x) := by
 obtain ⟨ao, cap, e, h1, h2⟩ := h
 refine ⟨ao, cap, e, h1, fun j x hx => ?_⟩
 have hj : j < L.length := (List.getElem?_eq_some_iff.1 hx).1
 obtain ⟨g, off, e2, hg, hc⟩ := h2 (by omega)
 exact ⟨g, off, e2, hg, hc j x hx⟩
end ArgS
namespace Cut
def dl (p : ByteArray) : List UInt8 := p.data.toList
def mk (l : List UInt8) : ByteArray := ⟨l.toArray⟩
theorem mk_dl (p : ByteArray) : mk (dl p) = p := by obtain ⟨⟨l⟩⟩ := p; rfl
theorem dl_mk (l : List UInt8) : dl (mk l) = l := by simp [dl, mk]
theorem undl {P : List ByteArray} {D : List (List UInt8)} (h : P.map dl = D) : P = D.map mk := by
 rw [← h, List.map_map]
 have : (mk ∘ dl) = id := by funext p; exact mk_dl p
 rw [this]
 simp
theorem dl_len (p : ByteArray) : (dl p).length = p.size := by obtain ⟨⟨l⟩⟩ := p; rfl
theorem dl_extract (s : ByteArray) (a b : Nat) : dl (s.extract a b) = ((dl s).drop a).take (b - a) := Lib.extract_data s a b

def cutL (w : Nat) : Nat → List UInt8 → List (List UInt8)
 | 0, l => [l]
 | n + 1, l => if l.length ≤ w then [l] else l.take w :: cutL w n (l.drop w)
def cuts (w : Nat) (l : List UInt8) : List (List UInt8) := cutL w l.length l
theorem cutL_fuel {w : Nat} (hw : 0 < w) : ∀ (n m : Nat) (l : List UInt8), l.length ≤ n → l.length ≤ m → cutL w n l = cutL w m l
 | 0, m, l, h, h2 => by
  have : l = [] := List.eq_nil_of_length_eq_zero (by omega)
  subst this
  cases m <;> simp [cutL]
 | n + 1, 0, l, h, h2 => by
  have : l = [] := List.eq_nil_of_length_eq_zero (by omega)
  subst this
  simp [cutL]
 | n + 1, m + 1, l, h, h2 => by
  unfold cutL
  split
  ·rfl
  ·rw [cutL_fuel hw n m (l.drop w) (by simp; omega) (by simp; omega)]
theorem cuts_short {w : Nat} {l : List UInt8} (h : l.length ≤ w) : cuts w l = [l] := by
 unfold cuts
 cases hn : l.length with
 | zero => rfl
 | succ n => unfold cutL; rw [if_pos h]
theorem cuts_long {w : Nat} {l : List UInt8} (hw : 0 < w) (h : w < l.length) : cuts w l = l.take w :: cuts w (l.drop w) := by
 unfold cuts
 cases hn : l.length with
 | zero => omega
 | succ n =>
  rw [cutL, if_neg (by omega), cutL_fuel hw n (l.drop w).length (l.drop w) (by simp; omega) (Nat.le_refl _)]
theorem cutL_mem {w : Nat} : ∀ (n : Nat) (l : List UInt8), ∀ p ∈ cutL w n l, p.length ≤ l.length
 | 0, l, p, h => by simp [cutL] at h; subst h; exact Nat.le_refl _
 | n + 1, l, p, h => by
  unfold cutL at h
  split at h
  ·simp at h; subst h; exact Nat.le_refl _
  ·rcases List.mem_cons.1 h with h | h
   ·subst h; simp; omega
   ·have := cutL_mem n _ p h
    simp at this
    omega
theorem cutL_count {w : Nat} (hw : 0 < w) : ∀ (n : Nat) (l : List UInt8), (cutL w n l).length ≤ l.length + 1
 | 0, l => by simp [cutL]
 | n + 1, l => by
  unfold cutL
  split
  ·simp
  ·have := cutL_count hw n (l.drop w)
   simp at this ⊢
   omega
def splitC : List UInt8 → List (List UInt8)
 | [] => [[]]
 | c :: t => if c = 44 then [] :: splitC t else match splitC t with | [] => [[c]] | p :: q => (c :: p) :: q
theorem splitC_mem : ∀ (l : List UInt8), ∀ p ∈ splitC l, p.length ≤ l.length
 | [], p, h => by simp [splitC] at h; subst h; exact Nat.le_refl _
 | c :: t, p, h => by
  have ih := splitC_mem t
  unfold splitC at h
  split at h
  ·rcases List.mem_cons.1 h with h | h
   ·subst h; simp
   ·have := ih p h; simp; omega
  ·split at h
   ·simp at h; subst h; simp
   ·rename_i q r e
    rcases List.mem_cons.1 h with h | h
    ·subst h
     have := ih q (by rw [e]; simp)
     simp; omega
    ·have := ih p (by rw [e]; simp [h])
     simp; omega
theorem splitC_count : ∀ (l : List UInt8), (splitC l).length ≤ l.length + 1
 | [] => by simp [splitC]
 | c :: t => by
  have ih := splitC_count t
  unfold splitC
  split
  ·simp; omega
  ·split
   ·simp
   ·rename_i q r e
    rw [e] at ih
    simp at ih ⊢
    omega
theorem splitK_C : ∀ (l : List UInt8), Lib.splitK [44] 0 (Lib.count l [44]) l = splitC l
 | [] => by rw [Lib.count_one]; rfl
 | b :: t => by
  have ih := splitK_C t
  by_cases h : b = 44
  ·subst h
   have hix : Lib.index (44 :: t) [44] = 0 := by rw [Lib.index]; simp [List.isPrefixOf]
   rw [Lib.count_cons_eq, Nat.add_comm, Lib.splitK, hix]
   simp [splitC, ih]
  ·rw [Lib.count_cons_ne b 44 t h]
   have hp : ([44] : List UInt8).isPrefixOf (b :: t) = false := by simp [List.isPrefixOf]; exact fun e => h e.symm
   have hix : Lib.index (b :: t) [44] = if Lib.index t [44] == -1 then -1 else Lib.index t [44] + 1 := by rw [Lib.index, hp]; simp
   rw [splitC, if_neg h, ← ih]
   cases hc : Lib.count t [44] with
   | zero => rfl
   | succ k =>
    have hm : Lib.index t [44] ≠ -1 := fun e => by rw [Lib.count_miss e] at hc; cases hc
    have hge := Lib.index_ge t [44]
    obtain ⟨j, hj⟩ : ∃ j : Nat, Lib.index t [44] = j := ⟨(Lib.index t [44]).toNat, by omega⟩
    have hm2 : (Lib.index t [44] == -1) = false := by rw [beq_eq_false_iff_ne]; exact hm
    have hm3 : ((Lib.index t [44] + 1) == -1) = false := by rw [beq_eq_false_iff_ne]; omega
    rw [Lib.splitK, Lib.splitK, hix, hm2]
    simp only [Bool.false_eq_true, if_false, hm3]
    have e1 : (Lib.index t [44] + 1).toNat + 0 = j + 1 := by omega
    have e2 : (Lib.index t [44]).toNat + 0 = j := by omega
    have e3 : (Lib.index t [44] + 1).toNat + ([44] : List UInt8).length = j + 1 + 1 := by simp; omega
    have e4 : (Lib.index t [44]).toNat + ([44] : List UInt8).length = j + 1 := by simp; omega
    rw [e1, e2, e3, e4]
    simp
theorem splitB_C (s : ByteArray) : (Lib.splitB ⟨#[44]⟩ 0 (Lib.countB s ⟨#[44]⟩) s).map dl = splitC (dl s) := by
 have h := Lib.splitB_data ⟨#[44]⟩ 0 (Lib.countB s ⟨#[44]⟩) s
 have e : Lib.countB s ⟨#[44]⟩ = Lib.count (dl s) [44] := rfl
 rw [e] at h ⊢
 exact h.trans (splitK_C (dl s))
end Cut
open Go.Sort
namespace So

def IsSet (l L : List Int) : Prop := l.Pairwise (· < ·) ∧ ∀ x, x ∈ l ↔ x ∈ L
theorem rising_unique : ∀ {l m : List Int}, l.Pairwise (· < ·) → m.Pairwise (· < ·) → (∀ x, x ∈ l ↔ x ∈ m) → l = m
 | [], [], _, _, _ => rfl
 | [], y :: m, _, _, h => absurd ((h y).2 (by simp)) (by simp)
 | x :: l, [], _, _, h => absurd ((h x).1 (by simp)) (by simp)
 | x :: l, y :: m, h1, h2, h => by
  rw [List.pairwise_cons] at h1 h2
  have e : x = y := by
   have hx := (h x).1 (by simp)
   have hy := (h y).2 (by simp)
   rcases List.mem_cons.1 hx with e | hx
   ·exact e
   ·rcases List.mem_cons.1 hy with e | hy
    ·exact e.symm
    ·have := h1.1 y hy
     have := h2.1 x hx
     omega
  subst e
  rw [rising_unique h1.2 h2.2 fun z => ?_]
  constructor
  ·intro hz
   rcases List.mem_cons.1 ((h z).1 (by simp [hz])) with e | hz2
   ·have := h1.1 z hz; omega
   ·exact hz2
  ·intro hz
   rcases List.mem_cons.1 ((h z).2 (by simp [hz])) with e | hz2
   ·have := h2.1 z hz; omega
   ·exact hz2
theorem IsSet.unique {l m L : List Int} (h1 : IsSet l L) (h2 : IsSet m L) : l = m := rising_unique h1.1 h2.1 fun x => (h1.2 x).trans (h2.2 x).symm
theorem IsSet.congr {l L M : List Int} (h : IsSet l L) (e : ∀ x, x ∈ L ↔ x ∈ M) : IsSet l M := ⟨h.1, fun x => (h.2 x).trans (e x)⟩
theorem sub_len : ∀ {l L : List Int}, l.Pairwise (· < ·) → (∀ x ∈ l, x ∈ L) → l.length ≤ L.length
 | [], _, _, _ => Nat.zero_le _
 | x :: t, L, h, hs => by
  rw [List.pairwise_cons] at h
  have hx := hs x (by simp)
  have ih := sub_len (l := t) (L := L.erase x) h.2 fun y hy => by
   have : x < y := h.1 y hy
   exact (List.mem_erase_of_ne (by omega)).2 (hs y (by simp [hy]))
  rw [List.length_erase_of_mem hx] at ih
  have : 0 < L.length := List.length_pos_of_mem hx
  rw [List.length_cons]
  omega
theorem IsSet.len {l L : List Int} (h : IsSet l L) : l.length ≤ L.length := sub_len h.1 fun x hx => (h.2 x).1 hx
theorem compact_set {d : Array Int} (hs : ∀ i j, i < j → j < d.size → d[i]! ≤ d[j]!) : IsSet (Lib.compactUpTo d d.size) d.toList := by
 constructor
 ·unfold Lib.compactUpTo
  rw [List.pairwise_map]
  have hr : (List.range d.size).Pairwise (· < ·) := List.pairwise_lt_range
  have hf := hr.filter (Lib.keeps d)
  refine List.Pairwise.imp_of_mem ?_ hf
  intro i j hi hj hij
  obtain ⟨_, hk⟩ := List.mem_filter.1 hj
  have hjs : j < d.size := List.mem_range.1 (List.mem_filter.1 hj).1
  have hne : d[j]! ≠ d[j - 1]! := by
   unfold Lib.keeps at hk
   have h0 : ¬ j = 0 := by omega
   simpa [h0] using hk
  have h1 : d[j - 1]! ≤ d[j]! := hs (j - 1) j (by omega) hjs
  by_cases e : i = j - 1
  ·subst e; omega
  ·have := hs i (j - 1) (by omega) (by omega); omega
 ·intro x
  unfold Lib.compactUpTo
  constructor
  ·intro h
   obtain ⟨i, hi, rfl⟩ := List.mem_map.1 h
   have : i < d.size := List.mem_range.1 (List.mem_filter.1 hi).1
   rw [getElem!_pos d i this]
   simp
  ·intro h
   obtain ⟨j, hj, rfl⟩ := List.getElem_of_mem h
   have hj : j < d.size := by simpa using hj
   have key : ∀ n (_ : n < d.size), ∃ i, i ≤ n ∧ Lib.keeps d i = true ∧ d[i]! = d[n]! := by
    intro n
    induction n with
    | zero => intro _; exact ⟨0, Nat.le_refl _, by simp [Lib.keeps], rfl⟩
    | succ n ih =>
     intro hn
     by_cases hk : Lib.keeps d (n + 1) = true
     ·exact ⟨n + 1, Nat.le_refl _, hk, rfl⟩
     ·obtain ⟨i, h1, h2, h3⟩ := ih (by omega)
      refine ⟨i, by omega, h2, ?_⟩
      rw [h3]
      unfold Lib.keeps at hk
      simp at hk
      exact hk.symm
   obtain ⟨i, h1, h2, h3⟩ := key j hj
   refine List.mem_map.2 ⟨i, List.mem_filter.2 ⟨List.mem_range.2 (by omega), h2⟩, ?_⟩
   rw [h3, getElem!_pos d j hj]
   simp

def ins (x : Int) : List Int → List Int
 | [] => [x]
 | y :: t => if x < y then x :: y :: t else if x = y then y :: t else y :: ins x t
def setOf (L : List Int) : List Int := L.foldr ins []
theorem ins_mem (x : Int) : ∀ (l : List Int) (z : Int), z ∈ ins x l ↔ z = x ∨ z ∈ l
 | [], z => by simp [ins]
 | y :: t, z => by
  unfold ins
  split
  ·simp
  ·split
   ·rename_i h; subst h; simp
   ·rw [List.mem_cons, ins_mem x t z, List.mem_cons]
    constructor
    ·rintro (h | h | h)
     ·exact .inr (.inl h)
     ·exact .inl h
     ·exact .inr (.inr h)
    ·rintro (h | h | h)
     ·exact .inr (.inl h)
     ·exact .inl h
     ·exact .inr (.inr h)
theorem ins_rising (x : Int) : ∀ {l : List Int}, l.Pairwise (· < ·) → (ins x l).Pairwise (· < ·)
 | [], _ => by simp [ins]
 | y :: t, h => by
  rw [List.pairwise_cons] at h
  unfold ins
  split
  ·rename_i hxy
   rw [List.pairwise_cons]
   refine ⟨fun z hz => ?_, List.pairwise_cons.2 h⟩
   rcases List.mem_cons.1 hz with e | hz
   ·omega
   ·have := h.1 z hz; omega
  ·split
   ·exact List.pairwise_cons.2 h
   ·rw [List.pairwise_cons]
    refine ⟨fun z hz => ?_, ins_rising x h.2⟩
    rcases (ins_mem x t z).1 hz with e | hz
    ·omega
    ·exact h.1 z hz
theorem setOf_set : ∀ (L : List Int), IsSet (setOf L) L
 | [] => ⟨by simp [setOf], fun x => by simp [setOf]⟩
 | x :: t => by
  have ih := setOf_set t
  refine ⟨ins_rising x ih.1, fun z => ?_⟩
  show z ∈ ins x (setOf t) ↔ _
  rw [ins_mem, ih.2, List.mem_cons]
theorem IsSet.eq {l L : List Int} (h : IsSet l L) : l = setOf L := h.unique (setOf_set L)
theorem setOf_congr {L M : List Int} (h : ∀ x, x ∈ L ↔ x ∈ M) : setOf L = setOf M := ((setOf_set L).congr h).eq
theorem mem_setOf {L : List Int} {x : Int} : x ∈ setOf L ↔ x ∈ L := (setOf_set L).2 x

def FRow (n₀ : Nat) (W : World) (v : Value) (l : List Int) : Prop :=
 ∃ g cap cur, v = .slice (some ⟨g, 0, none⟩) l.length cap ∧ n₀ ≤ g ∧ W.heap[g]? = some (.cells cur 36 (0, 0)) ∧ l.length ≤ cap ∧ cap ≤ maxLen ∧ cap = cur.size ∧ cur.toList.take l.length = l.map encF
def FArg (W : World) (v : Value) (l : List Int) : Prop :=
 ∃ ao cap, v = .slice ao l.length cap ∧ l.length ≤ cap ∧ cap ≤ maxLen ∧ (ao = none → cap = 0) ∧ (0 < l.length → ∃ g off, ao = some ⟨g, off, none⟩ ∧ g < W.heap.size ∧ ∀ (j : Nat) x, l[j]? = some x → W.cell? ⟨g, off + j, none⟩ = some (encF x))
theorem FArg.below {W W' : World} {v : Value} {l : List Int} (h : FArg W v l) (hB : Go.RowKit.Below W.heap.size W W') : FArg W' v l := by
 obtain ⟨ao, cap, e, h1, h2, h2', h3⟩ := h
 refine ⟨ao, cap, e, h1, h2, h2', fun h0 => ?_⟩
 obtain ⟨g, off, e2, hg, hc⟩ := h3 h0
 exact ⟨g, off, e2, Nat.lt_of_lt_of_le hg hB.size, fun j x hx => (hB.cell (p := ⟨g, off + j, none⟩) hg).trans (hc j x hx)⟩
theorem FRow.cells {n₀ : Nat} {W : World} {v : Value} {l : List Int} (h : FRow n₀ W v l) : ∃ g cap, v = .slice (some ⟨g, 0, none⟩) l.length cap ∧ n₀ ≤ g ∧ g < W.heap.size ∧ l.length ≤ cap ∧ cap ≤ maxLen ∧ Holds encF W g 0 l.toArray := by
 obtain ⟨g, cap, cur, e, hg, hh, h1, h2, h3, h4⟩ := h
 refine ⟨g, cap, e, hg, (Array.getElem?_eq_some_iff.1 hh).1, h1, h2, fun j hj => ?_⟩
 have hj : j < l.length := by simpa using hj
 have hv : (cur.toList.take l.length)[j]? = some (encF l[j]) := by rw [h4]; simp [hj]
 rw [List.getElem?_take, if_pos hj] at hv
 have e2 : (l.toArray)[j]! = l[j] := by rw [getElem!_pos l.toArray j (by simpa using hj)]; simp
 rw [e2]
 constructor
 ·simp only [World.cell?, hh, Nat.zero_add]
  simpa using hv
 ·simp [World.frozen?, hh]
theorem FRow.arg {n₀ : Nat} {W : World} {v : Value} {l : List Int} (h : FRow n₀ W v l) : FArg W v l := by
 obtain ⟨g, cap, e, hg, hgs, h1, h2, hH⟩ := h.cells
 refine ⟨_, cap, e, h1, h2, (fun h => by cases h), fun _ => ⟨g, 0, rfl, hgs, fun j x hx => ?_⟩⟩
 have hj : j < l.length := (List.getElem?_eq_some_iff.1 hx).1
 have := (hH j (by simpa using hj)).1
 rw [this]
 congr 2
 rw [getElem!_pos l.toArray j (by simpa using hj)]
 have := List.getElem?_eq_some_iff.1 hx
 obtain ⟨_, e⟩ := this
 simp [e]
theorem FRow.below {n₀ : Nat} {W W' : World} {v : Value} {l : List Int} (h : FRow n₀ W v l) (hB : Go.RowKit.Below W.heap.size W W') : FRow n₀ W' v l := by
 obtain ⟨g, cap, cur, e, hg, hh, r⟩ := h
 exact ⟨g, cap, cur, e, hg, by rw [hB.block g (Array.getElem?_eq_some_iff.1 hh).1]; exact hh, r⟩
theorem FRow.low {n₀ n₁ : Nat} {W : World} {v : Value} {l : List Int} (h : FRow n₀ W v l) (k : n₁ ≤ n₀) : FRow n₁ W v l := by
 obtain ⟨g, cap, cur, e, hg, r⟩ := h
 exact ⟨g, cap, cur, e, Nat.le_trans k hg, r⟩
theorem at_below {n₀ g off : Nat} {W W' : World} {d : Array Int} (h : At encF W g off d W') (hg : n₀ ≤ g) (hn : n₀ ≤ W.heap.size) : Go.RowKit.Below n₀ W W' := by
 obtain ⟨n, os, rfl⟩ := h
 refine ⟨rfl, rfl, rfl, ?_, fun k hk => ?_⟩
 ·simp
 ·rw [heap_grow_old _ _ (by simp; omega)]
  show (W.heap.modify g _)[k]? = _
  rw [Array.getElem?_modify, if_neg (by omega)]
theorem FRow.at {n₀ g cap : Nat} {W W' : World} {l : List Int} {d : Array Int} (h : FRow n₀ W (.slice (some ⟨g, 0, none⟩) l.length cap) l) (ha : At encF W g 0 d W') (hd : d.size = l.length) : FRow n₀ W' (.slice (some ⟨g, 0, none⟩) l.length cap) d.toList := by
 obtain ⟨g2, cap2, cur, e, hg, hh, h1, h2, h3, h4⟩ := h
 injection e with e1 _ e3
 injection e1 with e1
 injection e1 with e1 _ _
 subst e1; subst e3
 obtain ⟨n, os, rfl⟩ := ha
 have hgs : g < W.heap.size := (Array.getElem?_eq_some_iff.1 hh).1
 refine ⟨g, cap, putCells encF 0 d cur, by simp [hd], hg, ?_, by simpa [hd] using h1, h2, by simpa [putCells] using h3, ?_⟩
 ·rw [heap_grow_old _ _ (by simp; exact hgs)]
  show (W.heap.modify g _)[g]? = _
  rw [Array.getElem?_modify, if_pos rfl, hh]
  rfl
 ·apply List.ext_getElem?
  intro k
  rw [List.getElem?_take]
  by_cases hk : k < d.toList.length
  ·have hk2 : k < d.size := by simpa using hk
   rw [if_pos hk]
   have hc : k < cur.size := by omega
   simp [putCells, hc, hk2]
  ·rw [if_neg hk]
   rw [List.getElem?_eq_none (by simpa using hk)]
theorem FRow.take {n₀ g cap : Nat} {W : World} {l : List Int} (h : FRow n₀ W (.slice (some ⟨g, 0, none⟩) l.length cap) l) {m : List Int} (hm : m <+: l) : FRow n₀ W (.slice (some ⟨g, 0, none⟩) m.length cap) m := by
 obtain ⟨g2, cap2, cur, e, hg, hh, h1, h2, h3, h4⟩ := h
 injection e with e1 _ e3
 injection e1 with e1
 injection e1 with e1 _ _
 subst e1; subst e3
 obtain ⟨t, rfl⟩ := hm
 refine ⟨g, cap, cur, rfl, hg, hh, by simp at h1; omega, h2, h3, ?_⟩
 have := congrArg (List.take m.length) h4
 rw [List.take_take] at this
 simpa using this
theorem FRow.owns {n₀ : Nat} {W : World} {v : Value} {l : List Int} (h : FRow n₀ W v l) : W.ownsRow n₀ 36 1 v l.length (l.map encF) := by
 obtain ⟨g, cap, cur, e, hg, hh, h1, h2, h3, h4⟩ := h
 exact ⟨by simp, .inr ⟨g, cap, cur, e, hg, hh, h1, h2, by omega, by rw [Nat.mul_one]; exact h4⟩⟩

structure PI (p : Int → Int → Bool) (a b i j : Nat) (d dk : Array Int) : Prop where
 size : b ≤ d.size
 perm : PermIn a b d dk
 ai : a < i
 ij : i ≤ j + 1
 jb : j < b
 lo : ∀ t, a < t → t < i → p dk[a]! dk[t]! = true
 hi : ∀ t, j < t → t < b → p dk[a]! dk[t]! = false
variable {p : Int → Int → Bool} {a b i j : Nat} {d dk : Array Int}
theorem PI.start (hb : b ≤ d.size) (hab : a < b) (hp : PermIn a b d dk) : PI p a b (a + 1) (b - 1) d dk :=
 ⟨hb, hp, by omega, by omega, by omega, fun t h1 h2 => by omega, fun t h1 h2 => by omega⟩
theorem PI.up (h : PI p a b i j d dk) (hij : i ≤ j) (hp : p dk[a]! dk[i]! = true) : PI p a b (i + 1) j d dk :=
 ⟨h.size, h.perm, by have := h.ai; omega, by omega, h.jb, fun t h1 h2 => by
  by_cases e : t = i
  ·subst e; exact hp
  ·exact h.lo t h1 (by omega), h.hi⟩
theorem PI.down (h : PI p a b i j d dk) (hij : i ≤ j) (hp : p dk[a]! dk[j]! = false) : PI p a b i (j - 1) d dk :=
 ⟨h.size, h.perm, h.ai, by have := h.ai; omega, by have := h.jb; omega, h.lo, fun t h1 h2 => by
  by_cases e : t = j
  ·subst e; exact hp
  ·exact h.hi t (by omega) h2⟩
theorem PI.sized (h : PI p a b i j d dk) : dk.size = d.size := h.perm.1
theorem PI.swap (h : PI p a b i j d dk) (hij : i ≤ j) (h1 : p dk[a]! dk[i]! = false) (h2 : p dk[a]! dk[j]! = true) : i < j ∧ PI p a b (i + 1) (j - 1) d (swp dk i j) := by
 have hne : i ≠ j := fun e => by
  subst e
  rw [h1] at h2
  cases h2
 have hai := h.ai
 have hjb := h.jb
 have hs := h.sized
 have hz := h.size
 have ea : (swp dk i j)[a]! = dk[a]! := swp_other dk i j a (by omega) (by omega)
 refine ⟨by omega, hz, permIn_trans _ _ _ _ _ h.perm (swp_permIn dk a b i j (by omega) (by omega) (by omega) (by omega) (by omega)), by omega, by omega, by omega, fun t t1 t2 => ?_, fun t t1 t2 => ?_⟩
 ·rw [ea]
  by_cases e : t = i
  ·subst e
   rw [swp_left dk t j (by omega) hne]
   exact h2
  ·rw [swp_other dk i j t e (by omega)]
   exact h.lo t t1 (by omega)
 ·rw [ea]
  by_cases e : t = j
  ·subst e
   rw [swp_right dk i t (by omega)]
   exact h1
  ·rw [swp_other dk i j t (by omega) e]
   exact h.hi t (by omega) t2
theorem PI.done (h : PI p a b i j d dk) (hij : ¬ i ≤ j) : a ≤ j ∧ j < b ∧ PermIn a b d (swp dk j a) ∧ (∀ t, a ≤ t → t < j → p (swp dk j a)[j]! (swp dk j a)[t]! = true) ∧ ∀ t, j < t → t < b → p (swp dk j a)[j]! (swp dk j a)[t]! = false := by
 have hai := h.ai
 have hjb := h.jb
 have hs := h.sized
 have hz := h.size
 have hij2 := h.ij
 have e : i = j + 1 := by omega
 subst e
 have ej : (swp dk j a)[j]! = dk[a]! := by
  by_cases e : j = a
  ·subst e; exact swp_right dk j j (by omega)
  ·exact swp_left dk j a (by omega) e
 refine ⟨by omega, hjb, permIn_trans _ _ _ _ _ h.perm (swp_permIn dk a b j a (by omega) (by omega) (by omega) (by omega) (by omega)), fun t t1 t2 => ?_, fun t t1 t2 => ?_⟩
 ·rw [ej]
  by_cases e : t = a
  ·subst e
   rw [swp_right dk j t (by omega)]
   exact h.lo j (by omega) (by omega)
  ·rw [swp_other dk j a t (by omega) e]
   exact h.lo t (by omega) (by omega)
 ·rw [ej, swp_other dk j a t (by omega) (by omega)]
  exact h.hi t t1 t2
theorem PI.done_eq (h : PI p a b i j d dk) (hij : ¬ i ≤ j) : a < i ∧ i ≤ b ∧ PermIn a b d dk ∧ (∀ t, a < t → t < i → p dk[a]! dk[t]! = true) ∧ ∀ t, i ≤ t → t < b → p dk[a]! dk[t]! = false := by
 have hjb := h.jb
 have hij2 := h.ij
 exact ⟨h.ai, by omega, h.perm, h.lo, fun t t1 t2 => h.hi t (by omega) t2⟩
end So
namespace So
def pE (v x : Int) : Bool := !ltInt v x

set_option maxRecDepth 1000000 in
set_option maxHeartbeats 16000000 in
theorem equal_any (blk off cap len a b pv : Nat) (d : Array Int) (w : World) (hlen : d.size = len) (hH : Holds encF w blk off d) (hblk : blk < w.heap.size) (hap : a ≤ pv) (hpb : pv < b) (hb : b ≤ len) (hsz : len < 4611686018427387904) :
  Calls Tryz.prog 185 #[.slice (some ⟨blk, off, none⟩) len cap, .int .i64 a, .int .i64 b, .int .i64 pv] w fun e w' =>
   ∃ (m : Nat) (d' : Array Int), e = .returned (.int .i64 m) ∧ At encF w blk off d' w' ∧ a < m ∧ m ≤ b ∧ PermIn a b d d' ∧ d'[a]! = d[pv]! ∧ (∀ t, a < t → t < m → pE d'[a]! d'[t]! = true) ∧ ∀ t, m ≤ t → t < b → pE d'[a]! d'[t]! = false := by
 have HAT := hide (At.refl hH)
 have HH := hide hH
 clear hH
 go_enter Tryz.func185, Tryz.ntmps185
 go_wp2_with fail
 go_cut [] from 11 (fun wc => Hid (At encF w blk off (swp d a pv) wc))
 case first =>
  obtain ⟨G, hG⟩ : ∃ G : Nat → Int, ∀ t, G t = d[t]! := ⟨fun t => d[t]!, fun _ => rfl⟩
  obtain ⟨hc, hf⟩ := at_cells (unhide HAT) (unhide HH) rfl hblk hG
  rw [hlen] at hc hf
  have HG := hide hG
  clear hG
  by_cases e : a = pv
  ·subst e
   go_region
   all_goals go_wp2_with fail
   go_meet
   case rel => exact hide (at_swap (at_drewN (unhide HAT) 1) (unhide HH) rfl hblk (by omega) (by omega) (by rw [unhide HG]) (by rw [unhide HG]))
  ·go_region
   all_goals go_wp2_with fail
   go_meet
   case rel => exact hide (at_swap (at_drewN (unhide HAT) 1) (unhide HH) rfl hblk (by omega) (by omega) (by rw [unhide HG]) (by rw [unhide HG]))
 case rest =>
  have HX0 := hcut
  have HP0 : Hid (PI pE a b (a + 1) (b - 1) d (swp d a pv)) := PI.start (by omega) (by omega) (swp_permIn d a b a pv (by omega) (by omega) hap hpb (by omega))
  have HV0 : Hid ((swp d a pv)[a]! = d[pv]!) := by
   by_cases e : a = pv
   ·subst e; exact swp_right d a a (by omega)
   ·exact swp_left d a pv (by omega) e
  clear hcut
  go_wp2_with fail
  go_loopg [9, 10] b (fun k s9 s10 wr => ∃ (i j : Nat) (dk : Array Int), s9 = .int .i64 i ∧ s10 = .int .i64 j ∧ j + 1 - i ≤ k ∧ dk.size = len ∧ a < i ∧ i ≤ j + 1 ∧ j < b ∧ Hid (PI pE a b i j d dk) ∧ Hid (dk[a]! = d[pv]!) ∧ Hid (At encF w blk off dk wr))
  case atStart => exact ⟨a + 1, b - 1, swp d a pv, by go_num, by congr 1; omega, by omega, by rw [size_swp]; exact hlen, by omega, by omega, by omega, HP0, HV0, HX0⟩
  case round =>
   obtain ⟨i0, j0, dk, rfl, rfl, hk0, hsk, hai0, hij0, hjb0, HPI0, HV, HXX⟩ := hrel
   obtain ⟨V, hV⟩ : ∃ V, V = wr := ⟨_, rfl⟩
   subst hV
   go_wp2_with fail
   go_loopg [9] b (fun k2 s9 wr => ∃ i : Nat, s9 = .int .i64 i ∧ j0 + 1 - i ≤ k2 ∧ i0 ≤ i ∧ a < i ∧ i ≤ j0 + 1 ∧ Hid (PI pE a b i j0 d dk) ∧ Hid (At encF w blk off dk wr))
   case atStart => exact ⟨i0, rfl, by omega, Nat.le_refl _, hai0, hij0, HPI0, HXX⟩
   case round =>
    obtain ⟨i, rfl, hk2, hii, hai, hij1, HPI, HX⟩ := hrel
    obtain ⟨j, hj⟩ : ∃ j, j = j0 := ⟨_, rfl⟩
    subst hj
    obtain ⟨G, hG⟩ : ∃ G : Nat → Int, ∀ t, G t = dk[t]! := ⟨fun t => dk[t]!, fun _ => rfl⟩
    obtain ⟨hc, hf⟩ := at_cells (unhide HX) (unhide HH) (by omega) hblk hG
    rw [hlen] at hc hf
    have HG := hide hG
    clear hG
    go_wp2_with fail
    go_cut [43] from 29 to 45 (fun c wx => ∃ bb : Bool, c = .bool bb ∧ Hid (bb = true → i ≤ j ∧ pE dk[a]! dk[i]! = true) ∧ Hid (bb = false → i ≤ j → pE dk[a]! dk[i]! = false) ∧ Hid (At encF w blk off dk wx))
    case first =>
     by_cases hij : i ≤ j
     ·have hijz : decide ((i : Int) ≤ (j : Int)) = true := decide_eq_true (by omega)
      go_quiet (first | (go_at_call 184; refine Calls.quiet_of_same (less_any _ _ _)))
      go_wp2
      go_meet
      case rel => exact ⟨_, rfl, hide (fun h => ⟨hij, by simp only [pE, ← unhide HG] at h ⊢; simpa using h⟩), hide (fun h _ => by simp only [pE, ← unhide HG] at h ⊢; simpa using h), hide (at_drewN (unhide HX) _)⟩
     ·have hijz : decide ((i : Int) ≤ (j : Int)) = false := decide_eq_false (by omega)
      go_quiet (first | (go_at_call 184; refine Calls.quiet_of_same (less_any _ _ _)))
      go_wp2
      go_meet
      case rel => exact ⟨_, rfl, hide (fun h => by cases h), hide (fun _ h => absurd h hij), hide (at_drewN (unhide HX) _)⟩
    case rest =>
     obtain ⟨bb, rfl, HT, HF, HX2⟩ := hcut
     cases bb
     ·have HNI : Hid (i ≤ j → pE dk[a]! dk[i]! = false) := unhide HF rfl
      clear HT HF HX hc hf HG
      obtain ⟨V2, hV2⟩ : ∃ V, V = wc := ⟨_, rfl⟩
      subst hV2
      obtain ⟨j1, hj1⟩ : ∃ j1, j1 = j := ⟨_, rfl⟩
      subst hj1
      go_wp2_with fail
      go_loopg [10] b (fun k3 s10 wr => ∃ j : Nat, s10 = .int .i64 j ∧ j + 1 - i ≤ k3 ∧ j ≤ j1 ∧ i ≤ j + 1 ∧ j < b ∧ Hid (PI pE a b i j d dk) ∧ Hid (At encF w blk off dk wr))
      case atStart => exact ⟨j1, rfl, by omega, Nat.le_refl _, hij1, hjb0, HPI, HX2⟩
      case round =>
       obtain ⟨j, rfl, hk3, hjj, hij2, hjb, HPI2, HX⟩ := hrel
       obtain ⟨G, hG⟩ : ∃ G : Nat → Int, ∀ t, G t = dk[t]! := ⟨fun t => dk[t]!, fun _ => rfl⟩
       obtain ⟨hc, hf⟩ := at_cells (unhide HX) (unhide HH) (by omega) hblk hG
       rw [hlen] at hc hf
       have HG := hide hG
       clear hG
       go_wp2_with fail
       go_cut [59] from 46 to 61 (fun c wx => ∃ bb : Bool, c = .bool bb ∧ Hid (bb = true → i ≤ j ∧ pE dk[a]! dk[j]! = false) ∧ Hid (bb = false → i ≤ j → pE dk[a]! dk[j]! = true) ∧ Hid (At encF w blk off dk wx))
       case first =>
        by_cases hij : i ≤ j
        ·have hijz : decide ((i : Int) ≤ (j : Int)) = true := decide_eq_true (by omega)
         go_quiet (first | (go_at_call 184; refine Calls.quiet_of_same (less_any _ _ _)))
         go_wp2
         go_meet
         case rel => exact ⟨_, rfl, hide (fun h => ⟨hij, by simp only [pE, ← unhide HG] at h ⊢; simpa using h⟩), hide (fun h _ => by simp only [pE, ← unhide HG] at h ⊢; simpa using h), hide (at_drewN (unhide HX) _)⟩
        ·have hijz : decide ((i : Int) ≤ (j : Int)) = false := decide_eq_false (by omega)
         go_quiet (first | (go_at_call 184; refine Calls.quiet_of_same (less_any _ _ _)))
         go_wp2
         go_meet
         case rel => exact ⟨_, rfl, hide (fun h => by cases h), hide (fun _ h => absurd h hij), hide (at_drewN (unhide HX) _)⟩
       case rest =>
        obtain ⟨bb, rfl, HT, HF, HX3⟩ := hcut
        cases bb
        ·have HNJ : Hid (i ≤ j → pE dk[a]! dk[j]! = true) := unhide HF rfl
         clear HT HF HX hc hf HG HX2 HPI
         obtain ⟨V3, hV3⟩ : ∃ V, V = wc := ⟨_, rfl⟩
         subst hV3
         by_cases hij : i ≤ j
         ·have hijz : ¬ (j : Int) < (i : Int) := by omega
          obtain ⟨hlt, hsw⟩ := (unhide HPI2).swap hij (unhide HNI (by omega)) (unhide HNJ hij)
          have HSW := hide hsw
          have HV2 : Hid ((swp dk i j)[a]! = d[pv]!) := by rw [Hid, swp_other dk i j a (by omega) (by omega)]; exact unhide HV
          clear hsw
          obtain ⟨G, hG⟩ : ∃ G : Nat → Int, ∀ t, G t = dk[t]! := ⟨fun t => dk[t]!, fun _ => rfl⟩
          obtain ⟨hc, hf⟩ := at_cells (unhide HX3) (unhide HH) (by omega) hblk hG
          rw [hlen] at hc hf
          have HG := hide hG
          clear hG
          go_wp2_with fail
          go_region
          all_goals go_wp2_with fail
          go_roundg (j - 1 + 1 - (i + 1))
          case measure => omega
          case rel => exact ⟨i + 1, j - 1, swp dk i j, by go_num, by congr 1; omega, Nat.le_refl _, by rw [size_swp]; exact hsk, by omega, by omega, by omega, HSW, HV2, hide (at_swap (at_drewN (unhide HX3) 1) (unhide HH) (by omega) hblk (by omega) (by omega) (by rw [unhide HG]) (by rw [unhide HG]))⟩
         ·have hijz : (j : Int) < (i : Int) := by omega
          have HD := hide ((unhide HPI2).done_eq hij)
          go_wp2_with fail
          go_ret
          obtain ⟨q1, q2, q3, q4, q5⟩ := unhide HD
          exact ⟨i, dk, rfl, unhide HX3, q1, q2, q3, unhide HV, q4, q5⟩
        ·obtain ⟨hij, hp⟩ := unhide HT rfl
         have HPI3 := hide ((unhide HPI2).down hij hp)
         clear hp
         go_wp2_with fail
         go_roundg (j - 1 + 1 - i)
         case measure => omega
         case rel => exact ⟨j - 1, by congr 1; omega, Nat.le_refl _, by omega, by omega, by omega, HPI3, HX3⟩
     ·obtain ⟨hij, hp⟩ := unhide HT rfl
      have HPI2 := hide ((unhide HPI).up hij hp)
      clear hp
      go_wp2_with fail
      go_roundg (j + 1 - (i + 1))
      case measure => omega
      case rel => exact ⟨i + 1, by go_num, Nat.le_refl _, by omega, by omega, by omega, HPI2, HX2⟩

set_option maxRecDepth 1000000 in
theorem insertion_any (blk off cap len a b : Nat) (d : Array Int) (w : World) (hlen : d.size = len) (hH : Holds encF w blk off d) (hblk : blk < w.heap.size) (hab : a ≤ b) (hb : b ≤ len) (hsz : len < 4611686018427387904) :
  Calls Tryz.prog 178 #[.slice (some ⟨blk, off, none⟩) len cap, .int .i64 a, .int .i64 b] w fun e w' =>
   e = .returned (.tuple #[]) ∧ At encF w blk off (insertionSort ltInt d a b) w' := by
 have HAT := hide (At.refl hH)
 have HH := hide hH
 clear hH
 go_enter Tryz.func178, Tryz.ntmps178
 go_wp2
 go_loopw [6] (fun vi wr => ∃ (i : Nat) (dk : Array Int), vi = .int .i64 i ∧ a < i ∧ i ≤ b + 1 ∧ dk.size = len ∧ Hid (At encF w blk off dk wr) ∧ Hid (insOuter ltInt a b i dk = insertionSort ltInt d a b)) (fun vi _ => b + 1 - (intOf vi).toNat)
 case atStart => exact ⟨a + 1, d, by go_num, by omega, by omega, hlen, HAT, rfl⟩
 case round =>
  obtain ⟨i, dk, rfl, hai, hib, hsk, HA, HO⟩ := hrel
  by_cases hlt : i < b
  ·have hltz : (i : Int) < (b : Int) := by omega
   go_wp2
   go_loopw [7] (fun vj w2 => ∃ (j : Nat) (dj : Array Int), vj = .int .i64 j ∧ a ≤ j ∧ j ≤ i ∧ dj.size = len ∧ Hid (At encF w blk off dj w2) ∧ Hid (insInner ltInt a j dj = insInner ltInt a i dk)) (fun vj _ => (intOf vj).toNat)
   case atStart => exact ⟨i, dk, rfl, by omega, Nat.le_refl _, hsk, HA, rfl⟩
   case round =>
    obtain ⟨j, dj, rfl, haj, hji, hsj, HB, HI⟩ := hrel
    obtain ⟨G, hG⟩ : ∃ G : Nat → Int, ∀ t, G t = dj[t]! := ⟨fun t => dj[t]!, fun _ => rfl⟩
    obtain ⟨hc, hf⟩ := at_cells (unhide HB) (unhide HH) (by omega) hblk hG
    rw [hlen] at hc hf
    have HG := hide hG
    clear hG
    have OUT : Hid ((j ≤ a ∨ ltInt (G j) (G (j - 1)) = false) → insOuter ltInt a b (i + 1) dj = insertionSort ltInt d a b) := fun hs => by
     rw [← unhide HO, insOuter_go _ _ _ _ _ hlt, ← unhide HI, insInner_stop _ _ _ _ (by rw [unhide HG, unhide HG] at hs; exact hs)]
    by_cases hja : a < j
    ·have hjaz : decide ((a : Int) < (j : Int)) = true := decide_eq_true (by omega)
     go_wp2
     go_quiet (first | (go_at_call 184; refine Calls.quiet_of_same (less_any _ _ _)))
     go_wp2
     ·have hl : ltInt (G j) (G (j - 1)) = true := by assumption
      go_region
      all_goals go_wp2
      go_roundw
      case rel =>
       refine ⟨j - 1, swp dj j (j - 1), by congr 1; omega, by omega, by omega, by rw [size_swp]; exact hsj, ?_, ?_⟩
       ·exact hide (at_swap (at_drewN (unhide HB) _) (unhide HH) (by omega) hblk (by omega) (by omega) (by rw [unhide HG]) (by rw [unhide HG]))
       ·refine hide ?_
        rw [← unhide HI, insInner_go ltInt a j dj hja (by rw [← unhide HG, ← unhide HG]; exact hl)]
      case measure => simp [intOf]; omega
     ·have hl : ltInt (G j) (G (j - 1)) = false := by assumption
      go_roundw
      case rel => exact ⟨i + 1, dj, by go_num, by omega, by omega, hsj, hide (at_drewN (unhide HB) _), hide (unhide OUT (.inr hl))⟩
      case measure => simp [intOf]; omega
    ·have hjaz : decide ((a : Int) < (j : Int)) = false := decide_eq_false (by omega)
     go_wp2
     go_quiet (first | (go_at_call 184; refine Calls.quiet_of_same (less_any _ _ _)))
     go_wp2
     go_roundw
     case rel => exact ⟨i + 1, dj, by go_num, by omega, by omega, hsj, hide (at_drewN (unhide HB) _), hide (unhide OUT (.inl (by omega)))⟩
     case measure => simp [intOf]; omega
  ·have hltz : ¬ (i : Int) < (b : Int) := by omega
   have HE : Hid (dk = insertionSort ltInt d a b) := by
    rw [Hid, ← unhide HO, insOuter_stop _ _ _ _ _ hlt]
   go_wp2
   go_end0
   exact ⟨rfl, by rw [← unhide HE]; exact unhide HA⟩

set_option maxRecDepth 1000000 in
theorem reverse_any (blk off cap len a b : Nat) (d : Array Int) (w : World) (hlen : d.size = len) (hH : Holds encF w blk off d) (hblk : blk < w.heap.size) (hab : a ≤ b) (hb : b ≤ len) (hsz : len < 4611686018427387904) :
  Calls Tryz.prog 182 #[.slice (some ⟨blk, off, none⟩) len cap, .int .i64 a, .int .i64 b] w fun e w' =>
   e = .returned (.tuple #[]) ∧ ∃ d', At encF w blk off d' w' ∧ PermIn a b d d' := by
 have HAT := hide (At.refl hH)
 have HH := hide hH
 clear hH
 go_enter Tryz.func182, Tryz.ntmps182
 go_wp2
 go_loopw [6, 7] (fun vi vj wr => ∃ (i : Nat) (jz : Int) (dk : Array Int), vi = .int .i64 i ∧ vj = .int .i64 jz ∧ a ≤ i ∧ i ≤ b ∧ jz < b ∧ -1 ≤ jz ∧ dk.size = len ∧ Hid (At encF w blk off dk wr) ∧ Hid (PermIn a b d dk)) (fun vi vj _ => (intOf vj - intOf vi).toNat)
 case atStart => exact ⟨a, (b : Int) - 1, d, rfl, rfl, by omega, by omega, by omega, by omega, hlen, HAT, hide (permIn_refl _ _ _)⟩
 case round =>
  obtain ⟨i, jz, dk, rfl, rfl, hai, hib, hjb, hj1, hsk, HA, HP⟩ := hrel
  by_cases hlt : (i : Int) < jz
  ·obtain ⟨j, rfl⟩ : ∃ j : Nat, jz = j := ⟨jz.toNat, by omega⟩
   obtain ⟨G, hG⟩ : ∃ G : Nat → Int, ∀ t, G t = dk[t]! := ⟨fun t => dk[t]!, fun _ => rfl⟩
   obtain ⟨hc, hf⟩ := at_cells (unhide HA) (unhide HH) (by omega) hblk hG
   rw [hlen] at hc hf
   have HG := hide hG
   clear hG
   go_wp2_with fail
   go_region
   all_goals go_wp2
   go_roundw
   case rel =>
    refine ⟨i + 1, (j : Int) - 1, swp dk i j, by go_num, rfl, by omega, by omega, by omega, by omega, by rw [size_swp]; exact hsk, ?_, hide (permIn_trans _ _ _ _ _ (unhide HP) (swp_permIn dk a b i j hai (by omega) (by omega) (by omega) (by omega)))⟩
    exact hide (at_swap (at_drewN (unhide HA) 1) (unhide HH) (by omega) hblk (by omega) (by omega) (by rw [unhide HG]) (by rw [unhide HG]))
   case measure => simp [intOf]; omega
  ·go_wp2
   go_end0
   exact ⟨rfl, dk, unhide HA, unhide HP⟩
end So
end Go.Proofs.YtidhbhdcoanfcaaGreatDoor
