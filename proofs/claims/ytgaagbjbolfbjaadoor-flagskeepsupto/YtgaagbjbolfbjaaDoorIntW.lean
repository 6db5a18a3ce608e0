/- Contracts: rows of numbers; the law's ints, is and same. -/
import Derived.Test.YtgaagbjbolfbjaaDoorSetW
import Derived.WalkKit
import Derived.WalkSpells
import Derived.WalkLawsBesides
import Derived.Deep.QuietTactic
import Derived.BigQuiet
import Derived.Deep.DeepFit
import Derived.Maps.AppendAt
import Derived.Deep.LoopGhost
import Derived.Deep.CutRange
namespace Go.Proofs.YtgaagbjbolfbjaaDoor
open Go.Sort Go.RowKit
namespace So

def encI (x : Int) : Value := .int .i64 x
/-- numbers in a block of their own, or nil -/
def IRow (n₀ : Nat) (W : World) (v : Value) (l : List Int) : Prop := W.ownsRow n₀ 3 1 v l.length (l.map encI)
theorem infoI : (Tryd.prog.info? 3).map (fun i => (i.zero, i.size, i.bytes)) = some (some (.int .i64 0), 1, 8) := by kernel_rfl
theorem IRow.nil (n₀ : Nat) (W : World) : IRow n₀ W (.slice none 0 0) [] := ⟨rfl, .inl ⟨rfl, rfl⟩⟩
theorem IRow.low {n₀ n₁ : Nat} {W : World} {v : Value} {l : List Int} (h : IRow n₀ W v l) (k : n₁ ≤ n₀) : IRow n₁ W v l := by
  obtain ⟨h1, h2 | ⟨g, cap, cur, e, hg, r⟩⟩ := h
  · exact ⟨h1, .inl h2⟩
  · exact ⟨h1, .inr ⟨g, cap, cur, e, Nat.le_trans k hg, r⟩⟩
theorem IRow.below {n₀ : Nat} {W W' : World} {v : Value} {l : List Int} (h : IRow n₀ W v l) (hB : Go.RowKit.Below W.heap.size W W') : IRow n₀ W' v l := by
  obtain ⟨h1, h2 | ⟨g, cap, cur, e, hg, hh, r⟩⟩ := h
  · exact ⟨h1, .inl h2⟩
  · exact ⟨h1, .inr ⟨g, cap, cur, e, hg, by rw [hB.block g (Array.getElem?_eq_some_iff.1 hh).1]; exact hh, r⟩⟩
theorem IRow.form {n₀ : Nat} {W : World} {v : Value} {l : List Int} (h : IRow n₀ W v l) : ∃ ao cap, v = .slice ao l.length cap ∧ l.length ≤ maxLen ∧ ∀ (k : Nat) x, l[k]? = some x → ∃ g, ao = some ⟨g, 0, none⟩ ∧ g < W.heap.size ∧ W.cell? ⟨g, k, none⟩ = some (.int .i64 x) := by
  obtain ⟨_, ⟨rfl, h0⟩ | ⟨g, cap, cur, e, hg, hh, h1, h2, h3, h4⟩⟩ := h
  · have : l = [] := List.eq_nil_of_length_eq_zero h0
    subst this
    exact ⟨none, 0, rfl, Nat.zero_le _, fun k x hx => by simp at hx⟩
  · refine ⟨_, cap, e, by omega, fun k x hx => ⟨g, rfl, (Array.getElem?_eq_some_iff.1 hh).1, ?_⟩⟩
    have hk : k < l.length := (List.getElem?_eq_some_iff.1 hx).1
    rw [Nat.mul_one] at h4
    have hv : (cur.toList.take l.length)[k]? = some (encI x) := by rw [h4]; simp [hx]
    rw [List.getElem?_take, if_pos hk] at hv
    simp only [World.cell?, hh]
    simpa [encI] using hv
theorem irow_push {w wr w1 : World} {e : TypeId} {v : Value} {n : Nat} {xs : List Value} {o : Obj} (hown : wr.ownsRow w.heap.size e 1 v n xs) (hB : Go.RowKit.Below w.heap.size w wr) (hg : (wr.alloc o).grownBy w1 v.ownBlock) : Go.RowKit.Below w.heap.size w w1 :=
  (hB.alloc hB.size o).grown hg (by have := hB.size; simp; omega) (fun k e => (hown.lt k e).1)
theorem take_snoc {L : List Int} {k : Nat} {x : Int} (hx : L[k]? = some x) : L.take (k + 1) = L.take k ++ [x] := by
  have hk : k < L.length := (List.getElem?_eq_some_iff.1 hx).1
  rw [List.take_succ_eq_append_getElem hk, (List.getElem?_eq_some_iff.1 hx).2]

set_option maxRecDepth 100000 in
set_option maxHeartbeats 2000000 in
theorem ints_any (v : Value) (L : List Int) (w : World) (hA : FArg w v L) (hx : ∀ x ∈ L, 0 ≤ x ∧ x ≤ 65535) (hn : L.length ≤ 1099511627776) :
    Calls Tryd.prog 12 #[v] w fun e w' => ∃ u, e = .returned u ∧ IRow w.heap.size w' u L ∧ Go.RowKit.Below w.heap.size w w' := by
  obtain ⟨i0, hi, hz0, hz1, hz2⟩ := info_parts infoI
  obtain ⟨ao, cap, rfl, hcp, hm, _, hcell⟩ := hA
  have HC := hide hcell
  have HX := hide hx
  have HTK : Hid (∀ (k : Nat) x, L[k]? = some x → (L.take (k + 1)).map encI = (L.take k).map encI ++ [.int .i64 x]) := fun k x hx => by rw [take_snoc hx]; simp [encI]
  have HE : Hid (∀ W u, W.ownsRow w.heap.size 3 1 u L.length ((L.take L.length).map encI) → IRow w.heap.size W u L) := fun W u h => by rw [List.take_length] at h; exact h
  unfold maxLen at hm
  clear hcell hx
  generalize hnn : L.length = n at *
  have HN := hide hnn
  clear hnn
  have hnz : (n : Int) ≤ 1099511627776 := by omega
  go_enter Tryd.func12, Tryd.ntmps12
  go_wp2
  go_loopw [3, 8] (fun s3 s8 wr => ∃ k : Nat, k ≤ n ∧ s8 = .int .i64 k ∧ Hid (wr.ownsRow w.heap.size 3 1 s3 k ((L.take k).map encI)) ∧ Hid (Go.RowKit.Below w.heap.size w wr)) (fun _ s8 _ => n - (intOf s8).toNat)
  case atStart => exact ⟨0, Nat.zero_le _, rfl, IRow.nil _ _, Go.RowKit.Below.refl _ _⟩
  case round =>
    obtain ⟨k, hk, rfl, HR, HB⟩ := hrel
    by_cases hlt : k < n
    · have hltz : (k : Int) < (n : Int) := by omega
      obtain ⟨x, hx⟩ : ∃ x, L[k]? = some x := ⟨_, List.getElem?_eq_getElem (by rw [unhide HN]; exact hlt)⟩
      obtain ⟨g, off, rfl, hg, hcc⟩ := unhide HC (by omega)
      have hcw : wr.cell? ⟨g, off + k, none⟩ = some (.int .u16 x) := ((unhide HB).cell (p := ⟨g, off + k, none⟩) hg).trans (hcc k x hx)
      obtain ⟨hx0, hx1⟩ := unhide HX x (List.mem_of_getElem? hx)
      have HT := hide (unhide HTK k x hx)
      clear hcc hx hg
      go_wp2_with (at_builtin; refine wpList_append_own _ rfl _ _ 32 rfl w.heap.size 3 i0 (.int .i64 0) 1 8 Tryd.underlying32 hi hz0 hz1 hz2 rfl (by decide) _ _ _ rfl ((unhide HR).alloc _) ⟨wr.heap.size, 0, none⟩ 1 1 [.int .i64 x] rfl rfl (cell_one_new _ _ _) (fun x hx => by simp at hx; subst hx; rfl) (by unfold maxLen; omega) (by omega) (by have := (unhide HB).size; simp; omega) ?_; intro v' w1 hown' hgrow _; have HO1 := hide hown'; have HB1 := hide (irow_push (unhide HR) (unhide HB) hgrow); clear hown' hgrow)
      go_roundw
      case rel => exact ⟨k + 1, by omega, by go_num, by rw [unhide HT]; exact HO1, HB1⟩
      case measure => simp [intOf]; omega
    · obtain rfl : k = n := by omega
      have hltz : ¬ (k : Int) < (k : Int) := by omega
      go_wp2
      go_ret
      exact ⟨_, rfl, unhide HE _ _ (unhide HR), unhide HB⟩

set_option maxRecDepth 100000 in
set_option maxHeartbeats 2000000 in
theorem is_true {n₀ : Nat} (v u : Value) (L : List Int) (w : World) (hA : FArg w v L) (hI : IRow n₀ w u L) (hx : ∀ x ∈ L, 0 ≤ x ∧ x ≤ 65535) :
    Calls Tryd.prog 10 #[v, u] w fun e w' => e = .returned (.bool true) ∧ ∃ q, w' = w.drewN q := by
  obtain ⟨ao, cap, rfl, hcp, hm, _, hcell⟩ := hA
  obtain ⟨ao2, cap2, rfl, _, hcell2⟩ := hI.form
  have HC := hide hcell
  have HC2 := hide hcell2
  have HX := hide hx
  unfold maxLen at hm
  clear hcell hcell2 hx hI
  generalize hnn : L.length = n at *
  have HN := hide hnn
  clear hnn
  go_enter Tryd.func10, Tryd.ntmps10
  go_wp2
  go_loopw [13] (fun i wr => ∃ k q : Nat, k ≤ n ∧ i = .int .i64 k ∧ wr = w.drewN q) (fun i _ => n - (intOf i).toNat)
  case atStart => exact ⟨0, 0, Nat.zero_le _, rfl, rfl⟩
  case round =>
    obtain ⟨k, q, hk, rfl, rfl⟩ := hrel
    by_cases hlt : k < n
    · have hltz : (k : Int) < (n : Int) := by omega
      obtain ⟨x, hx⟩ : ∃ x, L[k]? = some x := ⟨_, List.getElem?_eq_getElem (by rw [unhide HN]; exact hlt)⟩
      obtain ⟨g, off, rfl, hg, hcc⟩ := unhide HC (by omega)
      have hcw := hcc k x hx
      obtain ⟨g2, rfl, _, hcw2⟩ := unhide HC2 k x hx
      obtain ⟨hx0, hx1⟩ := unhide HX x (List.mem_of_getElem? hx)
      unfold encF at hcw
      clear hcc hx hg
      go_wp2
      go_quiet (fail)
      go_wp2
      go_roundw
      case rel => exact ⟨k + 1, _, by omega, by go_num, rfl⟩
      case measure => simp [intOf]; omega
    · have hltz : ¬ (k : Int) < (n : Int) := by omega
      go_wp2
      go_ret
      exact ⟨rfl, _, rfl⟩

set_option maxRecDepth 100000 in
set_option maxHeartbeats 2000000 in
theorem same_true (v u : Value) (L : List Int) (w : World) (hA : FArg w v L) (hI : FArg w u L) :
    Calls Tryd.prog 9 #[v, u] w fun e w' => e = .returned (.bool true) ∧ ∃ q, w' = w.drewN q := by
  obtain ⟨ao, cap, rfl, hcp, hm, _, hcell⟩ := hA
  obtain ⟨ao2, cap2, rfl, _, _, _, hcell2⟩ := hI
  have HC := hide hcell
  have HC2 := hide hcell2
  unfold maxLen at hm
  clear hcell hcell2
  generalize hnn : L.length = n at *
  have HN := hide hnn
  clear hnn
  go_enter Tryd.func9, Tryd.ntmps9
  go_wp2
  go_loopw [13] (fun i wr => ∃ k q : Nat, k ≤ n ∧ i = .int .i64 k ∧ wr = w.drewN q) (fun i _ => n - (intOf i).toNat)
  case atStart => exact ⟨0, 0, Nat.zero_le _, rfl, rfl⟩
  case round =>
    obtain ⟨k, q, hk, rfl, rfl⟩ := hrel
    by_cases hlt : k < n
    · have hltz : (k : Int) < (n : Int) := by omega
      obtain ⟨x, hx⟩ : ∃ x, L[k]? = some x := ⟨_, List.getElem?_eq_getElem (by rw [unhide HN]; exact hlt)⟩
      obtain ⟨g, off, rfl, hg, hcc⟩ := unhide HC (by omega)
      have hcw := hcc k x hx
      obtain ⟨g2, off2, rfl, _, hcc2⟩ := unhide HC2 (by omega)
      have hcw2 := hcc2 k x hx
      unfold encF at hcw hcw2
      clear hcc hcc2 hx hg
      go_wp2
      go_quiet (fail)
      go_wp2
      go_roundw
      case rel => exact ⟨k + 1, _, by omega, by go_num, rfl⟩
      case measure => simp [intOf]; omega
    · have hltz : ¬ (k : Int) < (n : Int) := by omega
      go_wp2
      go_ret
      exact ⟨rfl, _, rfl⟩

end So
end Go.Proofs.YtgaagbjbolfbjaaDoor
