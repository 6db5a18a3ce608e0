/- Layer 7: the walk of HeapSorts. -/
import Derived.Test.YtddfljlecnllaaaKv
import Derived.Test.YtddfljlecnllaaaArgI
namespace Go.Proofs.Ytddfljlecnllaaa
open Go.RowKit
namespace Hp
theorem drain_perm : ∀ (n : Nat) (I : List It), I.length = n → (drain rise_ I).Perm I
  | 0, I, h => by rw [List.eq_nil_of_length_eq_zero h]; exact .refl _
  | n + 1, I, h => by
    obtain ⟨x, r, hp⟩ := pop_ex (lt := rise_) (l := I) (by omega)
    obtain ⟨u, v, rfl, rfl, _, _⟩ := pop_split rise_ord hp
    rw [drain_step hp]
    exact ((drain_perm n (u ++ v) (by have := pop_len hp; omega)).cons x).trans List.perm_middle.symm
def Rr (a b : It) : Prop := a.1 < b.1 ∨ (a.1 = b.1 ∧ a.2 < b.2)
theorem drain_sorted : ∀ (n : Nat) (I : List It), I.length = n → I.Pairwise (fun a b => a.2 < b.2) → (drain rise_ I).Pairwise Rr
  | 0, I, h, _ => by rw [List.eq_nil_of_length_eq_zero h]; exact .nil
  | n + 1, I, h, hp => by
    obtain ⟨x, r, hpop⟩ := pop_ex (lt := rise_) (l := I) (by omega)
    obtain ⟨u, v, rfl, rfl, hu, hv⟩ := pop_split rise_ord hpop
    have hl : (u ++ v).length = n := by have := pop_len hpop; omega
    rw [drain_step hpop, List.pairwise_cons]
    obtain ⟨p1, p2, p3⟩ := List.pairwise_append.1 hp
    obtain ⟨p4, p5⟩ := List.pairwise_cons.1 p2
    refine ⟨fun y hy => ?_, drain_sorted n (u ++ v) hl (List.pairwise_append.2 ⟨p1, p5, fun a ha b hb => p3 a ha b (by simp [hb])⟩)⟩
    have hy := (drain_perm n (u ++ v) hl).mem_iff.1 hy
    rcases List.mem_append.1 hy with hy | hy
    · have := hu y hy
      simp [rise_] at this
      exact .inl this
    · have h1 := hv y hy
      have h2 := p4 y hy
      simp [rise_] at h1
      unfold Rr
      omega
/-- the keys, each with its place -/
def tg (keys : List Int) : List It := keys.zipIdx.map fun p => (p.1, (p.2 : Int))
theorem tg_len (keys : List Int) : (tg keys).length = keys.length := by simp [tg]
theorem tg_get {keys : List Int} {k : Nat} {x : Int} (h : keys[k]? = some x) : (tg keys)[k]? = some (x, (k : Int)) := by simp [tg, h]
theorem tg_sorted (keys : List Int) : (tg keys).Pairwise (fun a b => a.2 < b.2) := by
  rw [List.pairwise_iff_getElem]
  intro i j hi hj hij
  simp [tg]
  omega
theorem tg_mem {keys : List Int} {x : It} (h : x ∈ tg keys) : ∃ t : Nat, x.2 = (t : Int) ∧ keys[t]? = some x.1 := by
  obtain ⟨k, hk⟩ := List.mem_iff_getElem?.1 h
  have hl := (List.getElem?_eq_some_iff.1 hk).1
  rw [tg_len] at hl
  rw [tg_get (List.getElem?_eq_getElem hl)] at hk
  injection hk with hk
  subst hk
  exact ⟨k, rfl, List.getElem?_eq_getElem hl⟩
/-- what the law asks of one place -/
structure Good (keys : List Int) (S : List It) (i t : Nat) (x : It) : Prop where
  tag : x.2 = (t : Int)
  lt : t < keys.length
  key : keys[t]? = some x.1
  new : ∀ y ∈ S.take i, y.2 ≠ (t : Int)
  prev : ∀ j y, i = j + 1 → S[j]? = some y → Rr y x
theorem good_of (keys : List Int) {i : Nat} {x : It} (h : (drain rise_ (tg keys))[i]? = some x) : ∃ t, Good keys (drain rise_ (tg keys)) i t x := by
  have hperm := drain_perm _ (tg keys) rfl
  have hsort := drain_sorted _ (tg keys) rfl (tg_sorted keys)
  obtain ⟨t, h1, h2⟩ := tg_mem (hperm.mem_iff.1 (List.mem_of_getElem? h))
  have hil := (List.getElem?_eq_some_iff.1 h).1
  refine ⟨t, h1, (List.getElem?_eq_some_iff.1 h2).1, h2, fun y hy e => ?_, fun j y hj hy => ?_⟩
  · have hnd : ((drain rise_ (tg keys)).map (·.2)).Nodup := by
      refine (hperm.map (·.2)).nodup_iff.2 ?_
      rw [List.nodup_iff_pairwise_ne, List.pairwise_map]
      exact (tg_sorted keys).imp fun {a b} hab => by omega
    obtain ⟨j, hj⟩ := List.mem_iff_getElem?.1 hy
    have hji : j < i := by have := (List.getElem?_eq_some_iff.1 hj).1; simp at this; omega
    rw [List.getElem?_take_of_lt hji] at hj
    rw [List.nodup_iff_pairwise_ne, List.pairwise_map] at hnd
    have := List.pairwise_iff_getElem.1 hnd j i (List.getElem?_eq_some_iff.1 hj).1 hil hji
    rw [(List.getElem?_eq_some_iff.1 hj).2, (List.getElem?_eq_some_iff.1 h).2] at this
    exact this (e.trans h1.symm)
  · have := List.pairwise_iff_getElem.1 hsort j i (List.getElem?_eq_some_iff.1 hy).1 hil (by omega)
    rw [(List.getElem?_eq_some_iff.1 hy).2, (List.getElem?_eq_some_iff.1 h).2] at this
    exact this
theorem infoBo : (Try.prog.info? 4).map (fun i => (i.zero, i.size, i.bytes)) = some (some (.bool false), 1, 1) := by kernel_rfl
/-- which tags were met, in a row of their own -/
structure Seen (sb n : Nat) (S : List It) (i : Nat) (wr : World) : Prop where
  row : ∃ xs, wr.ownsRow 0 4 1 (.slice (some ⟨sb, 0, none⟩) n n) n xs ∧ ∀ t, t < n → xs[t]? = some (.bool (decide (∃ y ∈ S.take i, y.2 = (t : Int))))
theorem Seen.at {sb n : Nat} {S : List It} {i : Nat} {wr : World} (h : Seen sb n S i wr) {t : Nat} (ht : t < n) : wr.cell? ⟨sb, t, none⟩ = some (.bool (decide (∃ y ∈ S.take i, y.2 = (t : Int)))) ∧ wr.frozen? ⟨sb, t, none⟩ = false ∧ sb < wr.heap.size := by
  obtain ⟨xs, h1, h2⟩ := h.row
  exact ⟨by rw [h1.cellAt t (by omega)]; exact h2 t ht, h1.frozenAt t, (h1.lt sb rfl).2⟩
theorem Seen.below {sb n : Nat} {S : List It} {i : Nat} {wr W : World} (h : Seen sb n S i wr) (hb : Below wr.heap.size wr W) : Seen sb n S i W := by
  obtain ⟨xs, h1, h2⟩ := h.row
  exact ⟨xs, own_kept h1 fun g hg => hb.block g (h1.lt g hg).2, h2⟩
theorem Seen.put {sb n : Nat} {S : List It} {i t : Nat} {wr : World} {x : It} (h : Seen sb n S i wr) (hx : S[i]? = some x) (ht : x.2 = (t : Int)) (htn : t < n) : Seen sb n S (i + 1) (wr.setCell ⟨sb, t, none⟩ (.bool true)) := by
  obtain ⟨xs, h1, h2⟩ := h.row
  have hl := h1.1
  refine ⟨xs.set t (.bool true), (h1.stored t _).1, fun j hj => ?_⟩
  have e : S.take (i + 1) = S.take i ++ [x] := by rw [List.take_succ_eq_append_getElem (List.getElem?_eq_some_iff.1 hx).1, (List.getElem?_eq_some_iff.1 hx).2]
  by_cases ej : j = t
  · subst ej
    rw [List.getElem?_set_self (by omega), e]
    congr 2
    symm
    simp only [decide_eq_true_eq]
    exact ⟨x, by simp, ht⟩
  · rw [List.getElem?_set_ne (fun x => ej x.symm), h2 j hj, e]
    congr 2
    simp only [List.mem_append, List.mem_singleton, decide_eq_decide]
    constructor
    · rintro ⟨y, hy, hy2⟩
      exact ⟨y, .inl hy, hy2⟩
    · rintro ⟨y, hy | hy, hy2⟩
      · exact ⟨y, hy, hy2⟩
      · subst hy; rw [ht] at hy2; omega
end Hp
end Go.Proofs.Ytddfljlecnllaaa
