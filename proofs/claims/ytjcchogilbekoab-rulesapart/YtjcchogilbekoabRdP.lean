/- Contract: cond.Read: the pattern that a text writes, or the error. -/
import Derived.Test.YtjcchogilbekoabPoW
import Derived.Laws.AppendOwn
namespace Go.Proofs.Ytjcchogilbekoab
open Go.RowKit
namespace Pt
open Cd

theorem owns_below {W W' : World} {n e size : Nat} {v : Value} {k : Nat} {xs : List Value} (h : W.ownsRow n e size v k xs) (hb : Below W.heap.size W W') : W'.ownsRow n e size v k xs := by
  obtain ⟨h0, h | ⟨g, cap, cur, h1, h2, h3, h4⟩⟩ := h
  · exact ⟨h0, .inl h⟩
  · exact ⟨h0, .inr ⟨g, cap, cur, h1, h2, (hb.block g (Array.getElem?_eq_some_iff.1 h3).1).trans h3, h4⟩⟩
theorem items_of {W : World} {n : Nat} {v : Value} {fs : List (UInt8 → Bool)} (h : W.ownsRow n 45 4 v fs.length (flatC fs)) : ItemsAt W v fs := by
  obtain ⟨h0, ⟨h1, h2⟩ | ⟨g, cap, cur, h1, h2, h3, h4, h5, h6, h7⟩⟩ := h
  · left
    have : fs = [] := List.eq_nil_of_length_eq_zero h2
    subst this
    exact ⟨h1, rfl⟩
  · right
    refine ⟨g, cap, h1, (Array.getElem?_eq_some_iff.1 h3).1, fun j u hu => ?_⟩
    have hj : j < fs.length * 4 := by have := (List.getElem?_eq_some_iff.1 hu).1; rw [flatC_len] at this; exact this
    rw [← h7, List.getElem?_take, if_pos hj] at hu
    rw [cell_of_row W g j cur _ _ h3]
    simpa using hu
theorem new_cells (W : World) (C : Array Value) (t : TypeId) : ∀ j u, C.toList[j]? = some u → (W.alloc (.cells C t)).cell? ((⟨W.heap.size, 0, none⟩ : Addr).add j) = some u := by
  intro j u hu
  rw [add_off, cell_of_row _ _ j C t (0, 0) (heap_alloc_last W _)]
  simpa using hu
theorem infoIt : (Try.prog.info? 45).map (fun i => (i.zero, i.size, i.bytes)) = some (some (.agg #[.int .u64 0, .int .u64 0, .int .u64 0, .int .u64 0]), 4, 32) := by kernel_rfl
theorem flat_snoc (fs : List (UInt8 → Bool)) (f : UInt8 → Bool) : flatC fs ++ (itC f).toList = flatC (fs ++ [f]) := by simp [flatC]

set_option maxHeartbeats 1000000 in
set_option maxRecDepth 100000 in
theorem read_none (s : ByteArray) (w : World) (h : s.data.toList = [] ∨ 512 < s.size) :
    Calls Try.prog 19 #[.string s] w fun e w' => e = .returned (.tuple #[.agg (patC []), .int .i64 40]) ∧ Below w.heap.size w w' := by
  have hz := zero_pat
  have hs := patC_size [] (by decide)
  have h1 := patC_one []
  generalize patC [] = Z at *
  have hg := heap_alloc_last w (.cells Z 48)
  have hst := store_pat _ _ _ _ _ hg hs hs h1
  rw [setRow_last] at hst
  clear h1 hg
  by_cases he : s.data.toList = []
  · have he2 : s.toList.isEmpty = true := by rw [ByteArray.toList_eq, he]; rfl
    clear h he
    go_enter Try.func19, Try.ntmps19
    go_wp2
    refine bodyPost_ret (ret_pat rfl _ _ w.heap.size Z _ rfl (heap_alloc_last w _) hs) rfl ⟨rfl, ?_⟩
    exact (Below.refl _ w).alloc (Nat.le_refl _) _
  · have h5 : (512 : Int) < (s.size : Int) := by have := h.resolve_left he; omega
    have he2 : s.toList.isEmpty = false := by
      rw [ByteArray.toList_eq]
      cases hh : s.data.toList with
      | nil => exact absurd hh he
      | cons a t => rfl
    clear h he
    go_enter Try.func19, Try.ntmps19
    go_wp2
    refine bodyPost_ret (ret_pat rfl _ _ w.heap.size Z _ rfl (heap_alloc_last w _) hs) rfl ⟨rfl, ?_⟩
    exact (Below.refl _ w).alloc (Nat.le_refl _) _
set_option maxHeartbeats 1000000 in
set_option maxRecDepth 100000 in
theorem read_dot (w : World) :
    Calls Try.prog 19 #[.string ⟨#[46]⟩] w fun e w' => e = .returned (.tuple #[.agg (patC []), .int .i64 0]) ∧ Below w.heap.size w w' := by
  have hz := zero_pat
  have hs := patC_size [] (by decide)
  have h1 := patC_one []
  generalize patC [] = Z at *
  have hg := heap_alloc_last w (.cells Z 48)
  have hst := store_pat _ _ _ _ _ hg hs hs h1
  rw [setRow_last] at hst
  clear h1 hg
  go_enter Try.func19, Try.ntmps19
  go_wp2
  refine bodyPost_ret (ret_pat rfl _ _ w.heap.size Z _ rfl (heap_alloc_last w _) hs) rfl ⟨rfl, ?_⟩
  exact (Below.refl _ w).alloc (Nat.le_refl _) _
end Pt
end Go.Proofs.Ytjcchogilbekoab
