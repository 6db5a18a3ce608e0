/- Layer 7: what comes out by greater keys first, turned round, is what comes out of the list turned round. No walk, but for the laws' falling. -/
import Derived.Test.YtddfljlecnllaaaKh
namespace Go.Proofs.Ytddfljlecnllaaa
open Go.RowKit
namespace Hp
section
variable {α : Type} {lt : α → α → Bool}
theorem pop_split (o : Ord lt) {l r : List α} {x : α} (h : pop lt l = some (x, r)) : ∃ u v, l = u ++ x :: v ∧ r = u ++ v ∧ (∀ y ∈ u, lt x y = true) ∧ ∀ y ∈ v, lt y x = false := by
  obtain ⟨k, ⟨h1, h2, h3⟩, rfl⟩ := pop_lst o h
  obtain ⟨hk, e⟩ := List.getElem?_eq_some_iff.1 h1
  refine ⟨l.take k, l.drop (k + 1), ?_, List.eraseIdx_eq_take_drop_succ .., fun y hy => ?_, fun y hy => ?_⟩
  · conv => lhs; rw [← List.take_append_drop k l, List.drop_eq_getElem_cons hk, e]
  · obtain ⟨j, hj⟩ := List.mem_iff_getElem?.1 hy
    have hjk : j < k := by have := (List.getElem?_eq_some_iff.1 hj).1; simp at this; omega
    rw [List.getElem?_take_of_lt hjk] at hj
    exact h2 j y hjk hj
  · obtain ⟨j, hj⟩ := List.mem_iff_getElem?.1 hy
    rw [List.getElem?_drop] at hj
    exact h3 _ y (by omega) hj
theorem pop_mem (o : Ord lt) {l r : List α} {x : α} (h : pop lt l = some (x, r)) : x ∈ l ∧ ∀ y ∈ r, y ∈ l := by
  obtain ⟨u, v, rfl, rfl, _⟩ := pop_split o h
  exact ⟨by simp, fun y hy => by simp at hy ⊢; rcases hy with hy | hy <;> simp [hy]⟩
/-- an item that comes out last stays till the end -/
theorem pop_app (o : Ord lt) {z : α} : ∀ {a b : List α} {x : α} {r : List α}, (∀ y ∈ a, lt z y = false) → (∀ y ∈ b, lt y z = true) → pop lt (a ++ b) = some (x, r) →
    ∃ a' b', pop lt (a ++ z :: b) = some (x, a' ++ z :: b') ∧ r = a' ++ b' ∧ (∀ y ∈ a', y ∈ a) ∧ ∀ y ∈ b', y ∈ b
  | [], b, x, r, _, hb, h => by
    have hm := pop_mem o h
    refine ⟨[], r, ?_, rfl, by simp, hm.2⟩
    show pop lt (z :: b) = some (x, z :: r)
    have h' : pop lt b = some (x, r) := h
    simp only [pop, h', hb x hm.1, if_true]
  | c :: a1, b, x, r, ha, hb, h => by
    have hcz := ha c (by simp)
    rcases hp : pop lt (a1 ++ b) with _ | ⟨y, r1⟩
    · have e := pop_none hp
      obtain ⟨rfl, rfl⟩ := List.append_eq_nil_iff.1 e
      simp only [List.append_nil, pop, Option.some.injEq, Prod.mk.injEq] at h
      obtain ⟨rfl, rfl⟩ := h
      exact ⟨[], [], by simp [pop, hcz], rfl, by simp, fun y hy => hy⟩
    · obtain ⟨a1', b1', q1, rfl, q3, q4⟩ := pop_app o (z := z) (fun y hy => ha y (by simp [hy])) hb hp
      simp only [List.cons_append, pop, hp] at h
      simp only [List.cons_append, pop, q1]
      split at h
      · next hl =>
        simp only [Option.some.injEq, Prod.mk.injEq] at h
        obtain ⟨rfl, rfl⟩ := h
        refine ⟨c :: a1', b1', by rw [if_pos hl]; rfl, rfl, fun y hy => ?_, q4⟩
        rcases List.mem_cons.1 hy with rfl | hy
        · simp
        · simp [q3 y hy]
      · next hl =>
        simp only [Option.some.injEq, Prod.mk.injEq] at h
        obtain ⟨rfl, rfl⟩ := h
        exact ⟨a1, b, by rw [if_neg hl], rfl, fun y hy => by simp [hy], fun y hy => hy⟩
theorem drain_last (o : Ord lt) {z : α} : ∀ (n : Nat) (a b : List α), (a ++ b).length = n → (∀ y ∈ a, lt z y = false) → (∀ y ∈ b, lt y z = true) → drain lt (a ++ z :: b) = drain lt (a ++ b) ++ [z]
  | 0, a, b, h, _, _ => by
    obtain ⟨rfl, rfl⟩ := List.append_eq_nil_iff.1 (List.eq_nil_of_length_eq_zero h)
    rfl
  | n + 1, a, b, h, ha, hb => by
    obtain ⟨x, r, hp⟩ := pop_ex (lt := lt) (l := a ++ b) (by omega)
    obtain ⟨a', b', q1, rfl, q3, q4⟩ := pop_app o ha hb hp
    rw [drain_step q1, drain_step hp, drain_last o n a' b' (by have := pop_len hp; omega) (fun y hy => ha y (q3 y hy)) (fun y hy => hb y (q4 y hy))]
    rfl
end
theorem drain_turn : ∀ (n : Nat) (X : List It), X.length = n → (drain fall_ X).reverse = drain rise_ X.reverse
  | 0, X, h => by rw [List.eq_nil_of_length_eq_zero h]; rfl
  | n + 1, X, h => by
    obtain ⟨x, r, hp⟩ := pop_ex (lt := fall_) (l := X) (by omega)
    obtain ⟨u, v, rfl, rfl, hu, hv⟩ := pop_split fall_ord hp
    rw [drain_step hp, List.reverse_cons, drain_turn n (u ++ v) (by have := pop_len hp; omega)]
    simp only [List.reverse_append, List.reverse_cons, List.append_assoc, List.singleton_append]
    rw [drain_last rise_ord _ v.reverse u.reverse rfl]
    · intro y hy
      have := hv y (by simpa using hy)
      simp [fall_, rise_] at this ⊢; omega
    · intro y hy
      have := hu y (by simpa using hy)
      simp [fall_, rise_] at this ⊢; omega
theorem les_fall : Les 20 fall_ := by
  refine ⟨fall_ord, fun W => by kernel_rfl, fun x y W => by kernel_rfl, fun a b W => ?_⟩
  go_enter Try.func20, Try.ntmps20
  go_wp2
  go_ret
  exact ⟨rfl, by (repeat (first | exact Below.refl _ _ | refine Below.drew ?_ | refine Below.alloc ?_ (by first | (simp; done) | (simp; omega)) _ | refine Below.setCell ?_ (by first | (simp; done) | (simp; omega)) _))⟩
theorem lessV_fall : LessV (.func (.func 20) #[] #[]) fall_ := .inr ⟨_, rfl, les_fall⟩
end Hp
end Go.Proofs.Ytddfljlecnllaaa
