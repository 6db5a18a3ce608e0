import Derived.Test.YtmhegbeemgagkaaGreatDoorJk1
namespace Go.Proofs.YtmhegbeemgagkaaGreatDoor
namespace Af
open RowB
theorem wF_some : ∀ {A : List (List Int)} {k i : Nat} {S : List Int}, wF k A S = some i → ∃ j, i = k + j ∧ A[j]? = some S
 | [], _, _, _, h => by cases h
 | a :: t, k, i, S, h => by
  unfold wF at h
  split at h
  ·rename_i e
   injection h with h
   exact ⟨0, by omega, by rw [e]; rfl⟩
  ·obtain ⟨j, e, hj⟩ := wF_some h
   exact ⟨j + 1, by omega, by simpa using hj⟩
theorem wF_mem : ∀ {A : List (List Int)} {k : Nat} {S : List Int}, S ∈ A → ∃ i, wF k A S = some i
 | [], _, _, h => by cases h
 | a :: t, k, S, h => by
  unfold wF
  by_cases e : a = S
  ·exact ⟨k, by rw [if_pos e]⟩
  ·rw [if_neg e]
   rcases List.mem_cons.1 h with q | q
   ·exact absurd q.symm e
   ·exact wF_mem q
theorem set_ne {L : List Int} (h : L ≠ []) : So.setOf L ≠ [] := by
 cases L with
 | nil => exact absurd rfl h
 | cons x t =>
  intro e
  have : x ∈ So.setOf (x :: t) := So.mem_setOf.2 (by simp)
  rw [e] at this
  cases this
theorem made_back {F : Fil} {L : List Int} {t : ByteArray} (hne : L ≠ []) (hb : ∀ x ∈ L, 0 ≤ x ∧ x ≤ 65535) (h : wV F L = .tuple #[.string t, .int .i64 0]) (hf : F.aliases.length ≤ 1024) :
  flgE F t.data.toList = 0 ∧ flgS F t.data.toList = So.setOf L ∧ t.size ≤ 1048576 := by
 unfold wV at h
 by_cases ha : F.aliases = []
 ·rw [if_pos ha] at h
  obtain ⟨e1, e2⟩ : Cut.mk (Shw.showT F.kind (So.setOf L)) = t ∧ Shw.showE F.kind (So.setOf L) = 0 := by
   simp only [Value.tuple.injEq, Array.mk.injEq, List.cons.injEq, Value.string.injEq, Value.int.injEq, and_true, true_and] at h
   exact h
  have e3 := e2
  unfold Shw.showE at e3
  have hk : One.isK F.kind = true := by
   cases hk : One.isK F.kind
   ·rw [hk] at e3; cases e3
   ·rfl
  rw [hk, if_pos rfl] at e3
  have hall : (So.setOf L).all (Shw.okF F.kind) = true := by
   cases hq : (So.setOf L).all (Shw.okF F.kind)
   ·rw [hq] at e3; cases e3
   ·rfl
  rw [hall, if_pos rfl] at e3
  have hl : (So.setOf L).length ≤ 64 := by
   by_cases q : 64 < (So.setOf L).length
   ·rw [if_pos q] at e3; cases e3
   ·omega
  have hok : ∀ x ∈ So.setOf L, Shw.okF F.kind x = true := fun x hx => List.all_eq_true.1 hall x hx
  have hbs : ∀ x ∈ So.setOf L, 0 ≤ x ∧ x ≤ 65535 := fun x hx => hb x (So.mem_setOf.1 hx)
  have hv := So.vals_text F.kind hk (set_ne hne) hbs hok
  have hz : 0 ∉ So.setOf L := fun q => by
   have := hok 0 q
   unfold Shw.okF at this
   rw [Bool.and_eq_true, bne_iff_ne, beq_iff_eq] at this
   exact this.1 this.2
  have hT : t.data.toList = Shw.text F.kind (So.setOf L) := by
   rw [← e1]
   unfold Shw.showT
   rw [if_pos e2]
   simp [Cut.mk]
  have hr : So.rE F.kind (Shw.text F.kind (So.setOf L)) = 0 := by
   unfold So.rE
   rw [hk, if_pos rfl, hv]
   unfold So.readE
   rw [if_neg hz, if_neg (by omega)]
  rw [hT]
  refine ⟨?_, ?_, ?_⟩
  ·unfold flgE; rw [if_pos ha]; exact hr
  ·unfold flgS
   rw [if_pos ha]
   unfold So.rS
   rw [if_pos hr, hv]
   exact So.setOf_congr fun _ => So.mem_setOf
  ·have := Shw.text_len F.kind _ (So.setOf L) rfl hbs
   have e5 : t.data.toList.length = t.size := by simp
   rw [hT] at e5
   omega
 ·rw [if_neg ha] at h
  cases hw : wF 0 F.aliases (So.setOf L) with
  | none => rw [hw] at h; simp [wR] at h
  | some i =>
   rw [hw] at h
   obtain ⟨j, e, hj⟩ := wF_some hw
   obtain rfl : i = j := by omega
   have hi := (List.getElem?_eq_some_iff.1 hj).1
   have e1 : (⟨(Lib.itoa ((i : Int) + 1)).toArray⟩ : ByteArray) = t := by
    simp only [wR, Value.tuple.injEq, Array.mk.injEq, List.cons.injEq, Value.string.injEq, and_true] at h
    exact h
   have hT : t.data.toList = Lib.itoa ((i : Int) + 1) := by rw [← e1]
   have hg : Num.numE (Lib.itoa ((i : Int) + 1)) F.aliases.length = 0 := by
    unfold Num.numE
    rw [Dec.good_itoa, if_pos]
    simp
    omega
   have hn : Num.numN (Lib.itoa ((i : Int) + 1)) F.aliases.length = (i : Int) + 1 := Dec.numN_itoa _ _ (by omega) (by omega)
   have hfn : flgN F (Lib.itoa ((i : Int) + 1)) = i + 1 := by unfold flgN; rw [hn]; omega
   rw [hT]
   have hc : Num.numE (Lib.itoa ((i : Int) + 1)) F.aliases.length = 0 ∧ flgN F (Lib.itoa ((i : Int) + 1)) ≠ 0 := ⟨hg, by rw [hfn]; omega⟩
   refine ⟨?_, ?_, ?_⟩
   ·unfold flgE; rw [if_neg ha, if_pos hc]
   ·unfold flgS; rw [if_neg ha, if_pos hc, hfn, Nat.add_sub_cancel, hj]; rfl
   ·have := Dec.itoa_len ((i : Int) + 1) (by omega) (by omega)
    have e5 : t.data.toList.length = t.size := by simp
    rw [hT] at e5
    omega
theorem read_back {F : Fil} {s : Bs} (h : flgE F s = 0) (hal : ∀ a ∈ F.aliases, So.setOf a = a ∧ a.length ≤ 64) (hna : Na F) :
  flgS F s ≠ [] ∧ So.setOf (flgS F s) = flgS F s ∧ (flgS F s).length ≤ 64 ∧ ∃ t, wV F (flgS F s) = .tuple #[.string t, .int .i64 0] := by
 unfold flgE at h
 unfold flgS wV
 by_cases ha : F.aliases = []
 ·rw [if_pos ha] at h
  obtain ⟨Z, e, hs, _, hl, hE, _⟩ := So.back F.kind s h
  rw [if_pos ha, if_pos ha, e, hs, hE]
  exact ⟨by rw [← e]; exact So.rS_ne h, rfl, hl, _, rfl⟩
 ·rw [if_neg ha] at h
  by_cases hc : Num.numE s F.aliases.length = 0 ∧ flgN F s ≠ 0
  ·rw [if_neg ha, if_pos hc, if_neg ha]
   obtain ⟨n1, n2⟩ := num_pos hc.1
   have hq := hc.2
   unfold flgN at hq
   obtain ⟨a, hka⟩ : ∃ a, F.aliases[flgN F s - 1]? = some a := ⟨_, List.getElem?_eq_getElem (by unfold flgN; omega)⟩
   have hm := List.mem_of_getElem? hka
   rw [hka, Option.getD_some, (hal a hm).1]
   obtain ⟨i, hi⟩ := wF_mem (k := 0) hm
   exact ⟨hna a hm, rfl, (hal a hm).2, _, by rw [hi]; rfl⟩
  ·rw [if_neg hc] at h
   cases h
theorem read_none {F : Fil} {s : Bs} (h : flgE F s ≠ 0) : flgS F s = [] := by
 unfold flgE at h
 unfold flgS
 by_cases ha : F.aliases = []
 ·rw [if_pos ha] at h ⊢
  unfold So.rS
  rw [if_neg h]
 ·rw [if_neg ha] at h ⊢
  by_cases hc : Num.numE s F.aliases.length = 0 ∧ flgN F s ≠ 0
  ·rw [if_pos hc] at h; exact absurd rfl h
  ·rw [if_neg hc]
end Af
end Go.Proofs.YtmhegbeemgagkaaGreatDoor
