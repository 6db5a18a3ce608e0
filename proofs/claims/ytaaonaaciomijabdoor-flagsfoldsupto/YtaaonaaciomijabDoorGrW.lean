/- What the laws of Fold keep while they go: the groups' twins, one by one. -/
import Derived.Test.YtaaonaaciomijabDoorStF
import Derived.Test.YtaaonaaciomijabDoorFoV
namespace Go.Proofs.YtaaonaaciomijabDoor
open Go.Sort Go.RowKit
namespace So

/-- rows of this type stay as they are -/
def KeepT (e : TypeId) (W W' : World) : Prop := ∀ (g : Nat) (cur : Array Value), W.heap[g]? = some (.cells cur e (0, 0)) → W'.heap[g]? = some (.cells cur e (0, 0))
theorem KeepT.below {e : TypeId} {W W' : World} (h : Go.RowKit.Below W.heap.size W W') : KeepT e W W' := fun g _ x => (h.block g (Array.getElem?_eq_some_iff.1 x).1).trans x
theorem KeepT.trans {e : TypeId} {A B C : World} (h : KeepT e A B) (k : KeepT e B C) : KeepT e A C := fun g cur x => k g cur (h g cur x)
theorem KeepT.grown_own {W W' : World} {n₀ : Nat} {e f : TypeId} {z : Nat} {v : Value} {n : Nat} {xs : List Value} (h : W.ownsRow n₀ e z v n xs) (he : e ≠ f) (hg : W.grownBy W' v.ownBlock) : KeepT f W W' := fun g cur x =>
  (hg.block g (Array.getElem?_eq_some_iff.1 x).1 (fun hr => by
    obtain ⟨_, ⟨rfl, _⟩ | ⟨g2, cap, c, rfl, _, hh, _⟩⟩ := h
    · cases hr
    · obtain rfl : g = g2 := by simpa [Value.ownBlock] using hr
      rw [hh] at x
      have := Option.some.inj x
      injection this with _ h2 _
      exact he h2)).trans x
/-- a list that twin made -/
def FNR (W : World) (u : Value) (l : List Int) : Prop := (u = .slice none 0 0 ∧ l = []) ∨ FRow 0 W u l
theorem FNR.kept {W W' : World} {u : Value} {l : List Int} (h : FNR W u l) (k : KeepT 37 W W') : FNR W' u l := by
  rcases h with h | ⟨g, cap, cur, e, hg, hh, r⟩
  · exact .inl h
  · exact .inr ⟨g, cap, cur, e, hg, k g cur hh, r⟩
theorem FNR.arg {W : World} {u : Value} {l : List Int} (h : FNR W u l) : FArg W u l := by
  rcases h with ⟨rfl, rfl⟩ | h
  · exact ⟨none, 0, rfl, Nat.le_refl _, Nat.zero_le _, fun _ => rfl, fun h => absurd h (by simp)⟩
  · exact h.arg
theorem IRow.kept {n₀ : Nat} {W W' : World} {v : Value} {l : List Int} (h : IRow n₀ W v l) (k : KeepT 3 W W') : IRow n₀ W' v l := by
  obtain ⟨h1, h2 | ⟨g, cap, cur, e, hg, hh, r⟩⟩ := h
  · exact ⟨h1, .inl h2⟩
  · exact ⟨h1, .inr ⟨g, cap, cur, e, hg, k g cur hh, r⟩⟩
/-- the twins of groups, in a block of their own, or nil -/
def GRow (n₀ : Nat) (W : World) (v : Value) (n : Nat) (G : List (List Int)) : Prop := ∃ U, W.ownsRow n₀ 22 1 v n U ∧ n = G.length ∧ ∀ (j : Nat) l, G[j]? = some l → ∃ u, U[j]? = some u ∧ FNR W u l
theorem GRow.nil (n₀ : Nat) (W : World) : GRow n₀ W (.slice none 0 0) 0 [] := ⟨[], World.ownsRow_nil _ _ _ _, rfl, fun j l h => by simp at h⟩
theorem GRow.below {n₀ n : Nat} {W W' : World} {v : Value} {G : List (List Int)} (h : GRow n₀ W v n G) (hB : Go.RowKit.Below W.heap.size W W') : GRow n₀ W' v n G := by
  obtain ⟨U, h1, h2, h3⟩ := h
  refine ⟨U, ?_, h2, fun j l hl => ?_⟩
  · obtain ⟨h1, h2 | ⟨g, cap, cur, e, hg, hh, r⟩⟩ := h1
    · exact ⟨h1, .inl h2⟩
    · exact ⟨h1, .inr ⟨g, cap, cur, e, hg, by rw [hB.block g (Array.getElem?_eq_some_iff.1 hh).1]; exact hh, r⟩⟩
  · obtain ⟨u, hu, hf⟩ := h3 j l hl
    exact ⟨u, hu, hf.kept (.below hB)⟩
theorem GRow.rows {n₀ n : Nat} {W : World} {v : Value} {G : List (List Int)} (h : GRow n₀ W v n G) : FRows W v G := by
  obtain ⟨U, h1, rfl, h3⟩ := h
  obtain ⟨hl, ⟨rfl, h0⟩ | ⟨g, cap, cur, e, hg, hh, hc, hm, hs, ht⟩⟩ := h1
  · have : G = [] := List.eq_nil_of_length_eq_zero h0
    subst this
    exact ⟨none, 0, rfl, Nat.le_refl _, Nat.zero_le _, fun j l h => by simp at h⟩
  · refine ⟨_, cap, e, hc, by omega, fun j l hj => ?_⟩
    obtain ⟨u, hu, hf⟩ := h3 j l hj
    have hjl : j < G.length := (List.getElem?_eq_some_iff.1 hj).1
    refine ⟨g, 0, u, rfl, (Array.getElem?_eq_some_iff.1 hh).1, ?_, hf.arg⟩
    rw [Nat.mul_one] at ht
    have hv : (cur.toList.take G.length)[j]? = some u := by rw [ht]; exact hu
    rw [List.getElem?_take, if_pos hjl] at hv
    simp only [World.cell?, hh, Nat.zero_add]
    simpa using hv
theorem grow_step {n₀ n : Nat} {w4 w5 : World} {s6 v' : Value} {T : List (List Int)} {l : List Int} {u : Value} {o : Obj} {U : List Value} (hown : w4.ownsRow n₀ 22 1 s6 n U) (hT : n = T.length) (hU : ∀ (j : Nat) l, T[j]? = some l → ∃ u, U[j]? = some u ∧ FNR w4 u l) (hu : FNR w4 u l)
    (hown' : w5.ownsRow n₀ 22 1 v' (n + 1) (U ++ [u])) (hg : (w4.alloc o).grownBy w5 s6.ownBlock) : GRow n₀ w5 v' (n + 1) (T ++ [l]) ∧ ∀ v l, IRow 0 w4 v l → IRow 0 w5 v l := by
  have hA : Go.RowKit.Below w4.heap.size w4 (w4.alloc o) := (Go.RowKit.Below.refl _ _).alloc (Nat.le_refl _) _
  have k1 : KeepT 37 w4 w5 := (KeepT.below hA).trans (KeepT.grown_own (hown.alloc o) (by decide) hg)
  have k2 : KeepT 3 w4 w5 := (KeepT.below hA).trans (KeepT.grown_own (hown.alloc o) (by decide) hg)
  have hUl : U.length = n := by have := hown.1; omega
  refine ⟨⟨U ++ [u], hown', by simp [hT], fun j m hm => ?_⟩, fun v l h => h.kept k2⟩
  by_cases hj : j < T.length
  · rw [List.getElem?_append_left hj] at hm
    obtain ⟨x, hx, hf⟩ := hU j m hm
    exact ⟨x, by rw [List.getElem?_append_left (by omega)]; exact hx, hf.kept k1⟩
  · have hj2 : j = T.length := by
      have := (List.getElem?_eq_some_iff.1 hm).1
      simp at this
      omega
    subst hj2
    rw [List.getElem?_append_right (Nat.le_refl _)] at hm
    simp at hm
    subst hm
    exact ⟨u, by rw [List.getElem?_append_right (by omega)]; simp [hUl, hT], hu.kept k1⟩
theorem infoG : (Tryd.prog.info? 22).map (fun i => (i.zero, i.size, i.bytes)) = some (some (.slice none 0 0), 1, 24) := by kernel_rfl
theorem twin_fnr (v : Value) (L : List Int) (w : World) (hA : FArg w v L) (hn : L.length ≤ 1099511627776) :
    Calls Tryd.prog 11 #[v] w fun e w' => ∃ ao c, e = .returned (.slice ao L.length c) ∧ FNR w' (.slice ao L.length c) L ∧ Go.RowKit.Below w.heap.size w w' := by
  refine (twin_any v L w hA hn).mono ?_
  rintro e w' ⟨u, rfl, h1, h2, h3⟩
  obtain ⟨ao, c, rfl, _⟩ := h1
  refine ⟨ao, c, rfl, ?_, h3⟩
  rcases h2 with h2 | h2
  · exact .inl h2
  · exact .inr (h2.low (Nat.zero_le _))
theorem take_snocG {G : List (List Int)} {k : Nat} {g : List Int} (h : G[k]? = some g) : G.take (k + 1) = G.take k ++ [g] := by
  have hk : k < G.length := (List.getElem?_eq_some_iff.1 h).1
  rw [List.take_succ_eq_append_getElem hk, (List.getElem?_eq_some_iff.1 h).2]
end So
end Go.Proofs.YtaaonaaciomijabDoor
