/- Layer 7, a heap of texts: rows of texts, the law's take. -/
import Derived.Test.YtddfljlecnllaaaSj
namespace Go.Proofs.Ytddfljlecnllaaa
open Go.RowKit
namespace Hpt
open Hp
def rowS (A : List It) : List Value := A.map .string
theorem rowS_len (A : List It) : (rowS A).length = A.length := by simp [rowS]
theorem rowS_get {A : List It} {j : Nat} {x : It} (h : A[j]? = some x) : (rowS A)[j]? = some (.string x) := by simp [rowS, h]
theorem rowS_app (A B : List It) : rowS (A ++ B) = rowS A ++ rowS B := by simp [rowS]
theorem rowS_set (A : List It) (i : Nat) (x : It) : (rowS A).set i (.string x) = rowS (A.set i x) := by simp [rowS, List.map_set]
theorem infoS : (Try.prog.info? 9).map (fun i => (i.zero, i.size, i.bytes)) = some (some (.string ⟨#[]⟩), 1, 16) := by kernel_rfl
/-- texts of a list behind a row of texts -/
theorem push_words {W : World} {v u : Value} {A X : List It} {F : Nat → Prop} (hown : W.ownsRow 0 9 1 v A.length (rowS A)) (hx : Its W u X F) (hz : A.length + X.length ≤ 8796093022208) (ty : TypeId) :
    ∃ v' W', (Builtin.append_ #[56, 56] ty #[v, u]).run Try.prog W = .ok v' W' ∧ W'.ownsRow 0 9 1 v' (A ++ X).length (rowS (A ++ X)) ∧ W.grownBy W' v.ownBlock ∧ (v'.ownBlock = v.ownBlock ∨ v'.ownBlock = some W.heap.size) := by
  obtain ⟨i, hi, hz'⟩ := Option.map_eq_some_iff.1 infoS
  simp only [Prod.mk.injEq] at hz'
  obtain ⟨hz0, hz1, hz2⟩ := hz'
  obtain ⟨ao, cap, rfl, hat⟩ := hx
  rcases ao with _ | ad
  · have hX : X = [] := by
      rcases Nat.eq_zero_or_pos X.length with h | h
      · exact List.eq_nil_of_length_eq_zero h
      · obtain ⟨g, off, e, _⟩ := hat h; cases e
    subst hX
    refine ⟨v, W, ?_, by simpa using hown, ⟨rfl, rfl, rfl, Nat.le_refl _, fun _ _ _ => rfl⟩, .inl rfl⟩
    exact run_append_owned_none (P := Try.prog) (w := W) 0 56 ty 9 i 1 Try.underlying56 hi v A.length (rowS A) hown
  · have q := append_blk (P := Try.prog) W 56 ty 9 i _ 1 16 Try.underlying56 hi hz0 hz1 hz2 rfl (by decide) v A.length (rowS A) hown ad X.length cap (rowS X) (by rw [rowS_len]; omega) (fun j u hj => by
      have hjl := (List.getElem?_eq_some_iff.1 hj).1
      rw [rowS_len] at hjl
      obtain ⟨g, off, e, hg, hF, hc⟩ := hat (by omega)
      injection e with e
      subst e
      have hx := List.getElem?_eq_getElem (l := X) (i := j) hjl
      rw [addrO, hc _ _ hx, ← hj]
      exact (rowS_get hx).symm) (by intro u hu; simp [rowS] at hu; obtain ⟨a, _, rfl⟩ := hu; rfl) (by unfold maxLen; omega) (by omega)
    rw [rowS_app, List.length_append]
    exact q
/-- texts of a list in a row of their own -/
theorem copy_words {W : World} {u : Value} {X : List It} {F : Nat → Prop} (hx : Its W u X F) (hz : X.length ≤ 8796093022208) (ty : TypeId) :
    ∃ a c W', (Builtin.append_ #[56, 56] ty #[.slice none 0 0, u]).run Try.prog W = .ok (.slice a X.length c) W' ∧ W'.ownsRow 0 9 1 (.slice a X.length c) X.length (rowS X) ∧ (∀ g, (Value.slice a X.length c).ownBlock = some g → W.heap.size ≤ g) ∧ Below W.heap.size W W' := by
  obtain ⟨v', W', hrun, hown, hg, hb⟩ := push_words (W := W) (v := .slice none 0 0) (A := []) (World.ownsRow_nil _ _ _ _) hx (by simpa using hz) ty
  simp only [List.nil_append] at hown
  obtain ⟨a, c, rfl⟩ := own_slice hown
  refine ⟨a, c, W', hrun, hown, fun g hg' => ?_, (Below.refl _ W).grown hg (Nat.le_refl _) (fun k hk => by cases hk)⟩
  rcases hb with e | e
  · rw [e] at hg'; cases hg'
  · rw [e] at hg'; injection hg' with hg'; omega
theorem its_rowS {w : World} {v : Value} {S : List It} {F : Nat → Prop} (h1 : w.ownsRow 0 9 1 v S.length (rowS S)) (h2 : ∀ g, v.ownBlock = some g → ¬ F g) : Its w v S F := by
  rcases h1.2 with ⟨e1, e2⟩ | ⟨g, cap, cur, e1, _⟩
  · exact ⟨none, 0, by rw [e1, e2], fun h => by omega⟩
  · subst e1
    refine ⟨_, _, rfl, fun _ => ⟨g, 0, rfl, (h1.lt g rfl).2, h2 g rfl, fun j x hj => ?_⟩⟩
    have hjl := (List.getElem?_eq_some_iff.1 hj).1
    rw [Nat.zero_add, h1.cellAt j (by omega)]
    exact rowS_get hj
theorem str_inj {a b : ByteArray} (h : a.toList = b.toList) : a = b := by
  rw [ByteArray.toList_eq, ByteArray.toList_eq] at h
  exact Go.WideShapes.bytes_inj h
/-- the text at place i put at the end of the front -/
def tk (A : List It) (i l : Nat) (x y : It) : List It := (A.set i y).set l x
theorem tk_perm {A : List It} {i l : Nat} {x y : It} (hi : i ≤ l) (hl : l < A.length) (hx : A[i]? = some x) (hy : A[l]? = some y) : ((tk A i l x y).take l ++ [x]).Perm (A.take (l + 1)) := by
  obtain ⟨hil, rfl⟩ := List.getElem?_eq_some_iff.1 hx
  obtain ⟨hll, rfl⟩ := List.getElem?_eq_some_iff.1 hy
  have hC : (A.take (l + 1)).length = l + 1 := by simp; omega
  have hi' : i < (A.take (l + 1)).length := by omega
  have hl' : l < (A.take (l + 1)).length := by omega
  have p := List.set_set_perm hi' hl'
  refine List.Perm.trans (List.Perm.of_eq ?_) p
  have e : (tk A i l A[i] A[l]).take (l + 1) = (tk A i l A[i] A[l]).take l ++ [A[i]] := by
    rw [List.take_succ_eq_append_getElem (by simp [tk]; omega)]
    simp [tk]
  rw [← e]
  simp [tk, List.take_set]
set_option maxRecDepth 100000 in
set_option maxHeartbeats 4000000 in
theorem take_any {w : World} {g N cap l : Nat} {A : List It} {x : It} (hr : w.ownsRow 0 9 1 (.slice (some ⟨g, 0, none⟩) N cap) N (rowS A)) (hA : A.length = N) (hl : l < N) (hz : N ≤ 1099511627776) (hx : x ∈ A.take (l + 1)) :
    Calls Try.prog 28 #[.slice (some ⟨g, 0, none⟩) (l + 1) cap, .string x] w fun e w' => e = .returned (.bool true) ∧ (∃ B, B.length = N ∧ w'.ownsRow 0 9 1 (.slice (some ⟨g, 0, none⟩) N cap) N (rowS B) ∧ (B.take l ++ [x]).Perm (A.take (l + 1))) ∧ Chg (fun b => b = g) w w' := by
  have HR := hide hr
  have HA := hide hA
  have HX := hide hx
  have dc : ∀ j y, j < N → A[j]? = some y → w.cell? ⟨g, j, none⟩ = some (.string y) := fun j y hj hy => by rw [hr.cellAt j (by omega)]; exact rowS_get hy
  have df : ∀ k, w.frozen? ⟨g, k, none⟩ = false := fun k => hr.frozenAt k
  have HDC := hide dc
  clear hr hA hx dc
  have hlz : l ≤ 1099511627776 := by omega
  go_enter Try.func28, Try.ntmps28
  go_wp2
  go_loopw [8] (fun s8 wr => ∃ (k : Nat), s8 = .int .i64 k ∧ k ≤ l + 1 ∧ wr = w ∧ Hid (∀ (j : Nat) y, j < k → A[j]? = some y → y ≠ x)) (fun s8 _ => l + 1 - (intOf s8).toNat)
  case atStart => exact ⟨0, rfl, Nat.zero_le _, rfl, fun j y hj => by omega⟩
  case round =>
    obtain ⟨k, rfl, hk, hw, HK⟩ := hrel
    have hw' := hw.symm
    subst hw'
    clear hw
    by_cases hlt : k < l + 1
    · have hltz : (k : Int) < (l : Int) + 1 := by omega
      have hk0 : 0 ≤ (k : Int) := by omega
      obtain ⟨y, hy⟩ : ∃ y, A[k]? = some y := ⟨_, List.getElem?_eq_getElem (by rw [unhide HA]; omega)⟩
      have y0 := unhide HDC k y (by omega) hy
      by_cases he : y = x
      · subst he
        obtain ⟨z, hz2⟩ : ∃ z, A[l]? = some z := ⟨_, List.getElem?_eq_getElem (by rw [unhide HA]; omega)⟩
        have z0 := unhide HDC l z (by omega) hz2
        have HFI : Hid ((∃ B : List It, B.length = N ∧ ((w.setCell ⟨g, k, none⟩ (.string z)).setCell ⟨g, l, none⟩ (.string y)).drew.ownsRow 0 9 1 (.slice (some ⟨g, 0, none⟩) N cap) N (rowS B) ∧ (B.take l ++ [y]).Perm (A.take (l + 1))) ∧ Chg (fun b => b = g) w ((w.setCell ⟨g, k, none⟩ (.string z)).setCell ⟨g, l, none⟩ (.string y)).drew) := by
          refine ⟨⟨tk A k l y z, by simp [tk, unhide HA], ?_, tk_perm (by omega) (by rw [unhide HA]; exact hl) hy hz2⟩, (((Chg.refl (fun b => b = g) w).setCell (p := ⟨g, k, none⟩) (.inl rfl) _).setCell (p := ⟨g, l, none⟩) (.inl rfl) _).drew⟩
          unfold tk
          rw [← rowS_set, ← rowS_set]
          exact (((unhide HR).stored k _).1.stored l _).1
        have hlt2 : (l : Int) < (l : Int) + 1 := by omega
        have hl0 : 0 ≤ (l : Int) := by omega
        clear hy hz2
        by_cases hkl : k = l
        · subst hkl
          have e : z = y := by rw [y0] at z0; injection z0 with z0; injection z0 with z0; exact z0.symm
          subst e
          clear z0
          go_wp2
          go_region
          all_goals go_wp2
          all_goals go_ret
          all_goals exact ⟨rfl, unhide HFI⟩
        · have hkl' : ¬ l = k := fun e => hkl e.symm
          go_wp2
          go_region
          all_goals go_wp2
          all_goals go_ret
          all_goals exact ⟨rfl, unhide HFI⟩
      · have heq : (y.toList == x.toList) = false := by simp only [beq_eq_false_iff_ne]; exact fun e => he (str_inj e)
        have HK2 : Hid (∀ (j : Nat) y, j < k + 1 → A[j]? = some y → y ≠ x) := fun j z hj hz => by
          by_cases e : j = k
          · subst e; rw [hy] at hz; injection hz with hz; subst hz; exact he
          · exact unhide HK j z (by omega) hz
        clear he hy
        go_wp2
        exact ⟨⟨k + 1, by go_num, by omega, trivial, HK2⟩, by simp [intOf]; omega⟩
    · exfalso
      obtain ⟨j, hj⟩ := List.mem_iff_getElem?.1 (unhide HX)
      have hjl := (List.getElem?_eq_some_iff.1 hj).1
      have hjl' : j < l + 1 := by simp at hjl; omega
      rw [List.getElem?_take_of_lt hjl'] at hj
      exact unhide HK j x (by omega) hj rfl
end Hpt
end Go.Proofs.Ytddfljlecnllaaa
