/- Layer 5: Live. -/
import Derived.Test.YtbapnoafjcipjaaGreatDoorGa
import Derived.Test.YtbapnoafjcipjaaGreatDoorShSo
import Derived.Sort.OwnSorted
namespace Go.Proofs.YtbapnoafjcipjaaGreatDoor
open Go.RowKit
namespace Rs
theorem ins_nil (w : World) : Calls Tryz.prog 71 #[.slice none 0 0, .int .i64 0, .int .i64 0] w fun e w' => e = .returned (.tuple #[]) ∧ w' = w := by
  go_enter Tryz.func71, Tryz.ntmps71
  go_wp2
  go_loop [6] (fun i => i = .int .i64 1) (fun _ => 0)
  case atStart => rfl
  case round =>
    subst hrel
    go_wp2
    go_end0
    exact ⟨rfl, rfl⟩
theorem pdq_nil (w : World) (n : Int) : Calls Tryz.prog 55 #[.slice none 0 0, .int .i64 0, .int .i64 0, .int .i64 n] w fun e w' => e = .returned (.tuple #[]) ∧ w' = w := by
  have HI := hide (ins_nil w)
  go_enter Tryz.func55, Tryz.ntmps55
  go_wp2
  go_loop [1, 2] (fun a b => a = .int .i64 0 ∧ b = .int .i64 0) (fun _ _ => 0)
  case atStart => exact ⟨rfl, rfl⟩
  case round =>
    obtain ⟨rfl, rfl⟩ := hrel
    go_wp2_with (go_at_call 71; refine (unhide HI).mono ?_; rintro e w1 ⟨rfl, rfl⟩)
    (try simp only [Exit.inBlock, Exit.then])
    exact bodyPost_ret (results_none rfl _ _ _) rfl ⟨rfl, rfl⟩
theorem sort_nil (w : World) : Calls Tryz.prog 38 #[.slice none 0 0] w fun e w' => e = .returned (.tuple #[]) ∧ w' = w := by
  have HB := hide (Tryz.bits_Len 0 w (by decide) (by decide))
  have HP := hide (pdq_nil w)
  go_enter Tryz.func38, Tryz.ntmps38
  go_wp2_with (first | (go_at_call 56; refine (unhide HB).mono ?_; rintro e w1 ⟨rfl, rfl⟩) | (go_at_call 55; refine (unhide HP _).mono ?_; rintro e w1 ⟨rfl, rfl⟩))
  go_end0
  exact ⟨rfl, rfl⟩
def nums (l : List Run) : List Int := l.map fun r => (r.num : Int)
def intV (x : Int) : Value := .int .i64 x
theorem live_nil (w : World) : Calls Tryz.prog 22 #[.pointer none] w fun e w' => e = .returned (.slice none 0 0) ∧ w' = w := by
  go_enter Tryz.func22, Tryz.ntmps22
  go_wp2
  go_ret
  exact ⟨rfl, rfl⟩
theorem range_none (W : World) : (Instr.range 64 (.map none)).run Tryz.prog W = .ok (.pointer (some ⟨W.heap.size, 0, none⟩)) (W.alloc (.mapIter none 0 #[] 0)) := by
  simp [Instr.range, run_underlying Tryz.underlying64, newObj]
  rfl
theorem next_none (W : World) (r : Nat) (ty : TypeId) (h : W.heap[r]? = some (.mapIter none 0 #[] 0)) : (Instr.next (.pointer (some ⟨r, 0, none⟩)) false ty).run Tryz.prog W = .ok (.tuple #[.bool false]) W := by
  simp only [Instr.next, getObj, Sem.run_bind, Sem.run, h, Result.andThen]
  rfl
theorem live_none {w : World} {sb : Nat} {m : Sto} (hs : w.heap[sb]? = some (.cells (stoC m (.map none)) 66 (0, 0))) :
    Calls Tryz.prog 22 #[.pointer (some ⟨sb, 0, none⟩)] w fun e w' => e = .returned (.slice none 0 0) ∧ Below w.heap.size w w' := by
  obtain ⟨-, c1, -⟩ := cells_sto hs
  have HS := hide (fun w => sort_nil w)
  have hr := range_none
  have hx := fun ty => next_none (w.alloc (.mapIter none 0 #[] 0)) w.heap.size ty (MapKept.heap_alloc w _).1
  clear hs
  go_enter Tryz.func22, Tryz.ntmps22
  go_wp2
  go_loopw [3] (fun v wr => v = .slice none 0 0 ∧ wr = w.alloc (.mapIter none 0 #[] 0)) (fun _ _ => 0)
  case atStart => exact ⟨rfl, rfl⟩
  case round =>
    obtain ⟨rfl, rfl⟩ := hrel
    go_wp2_with (go_at_call 38; refine (unhide HS _).mono ?_; rintro e w1 ⟨rfl, rfl⟩)
    go_ret
    exact ⟨rfl, (Below.refl _ _).alloc (Nat.le_refl _) _⟩
theorem row3 : (Tryz.prog.info? 3).map (fun i => (i.zero, i.size, i.bytes)) = some (some (.int .i64 0), 1, 8) := by kernel_rfl
/-- the keys that have come -/
structure Got (l : List Run) (left : Lit → Bool) (ks : List Int) : Prop where
  nd : ks.Nodup
  mem : ∀ x : Int, x ∈ ks ↔ (look l x).isSome = true ∧ left (.int .i64 x) = false
theorem Got.step {l : List Run} {left : Lit → Bool} {ks : List Int} (h : Got l left ks) {x : Int} (hx : left (.int .i64 x) = true) (hl : (look l x).isSome = true) : Got l (fun z => left z && !z.sameKey (.int .i64 x)) (ks ++ [x]) := by
  have hn : x ∉ ks := fun e => by have := ((h.mem x).1 e).2; rw [hx] at this; cases this
  refine ⟨?_, fun y => ?_⟩
  · rw [List.nodup_append]
    exact ⟨h.nd, by simp, fun a ha b hb => by simp at hb; subst hb; intro e; subst e; exact hn ha⟩
  · rw [List.mem_append, h.mem y]
    by_cases e : y = x
    · subst e
      simp [hl, Lit.sameKey]
    · simp [Lit.sameKey, e]
theorem got_nums {l : List Run} (hs : l.Pairwise fun a b => a.num < b.num) {left : Lit → Bool} {ks : List Int} (h : Got l left ks) (h0 : ∀ kl, left kl = false) : ks.mergeSort (fun x y => decide (x ≤ y)) = nums l := by
  have hp : ks.Perm (nums l) := by
    refine (List.perm_ext_iff_of_nodup h.nd ?_).2 fun x => ?_
    · unfold nums
      rw [List.Nodup, List.pairwise_map]
      exact hs.imp fun {a b} hab => by omega
    · rw [h.mem x, h0]
      simp only [and_true, nums, List.mem_map]
      constructor
      · intro hh
        obtain ⟨r, hr⟩ := Option.isSome_iff_exists.1 hh
        exact ⟨r, look_mem hr⟩
      · rintro ⟨r, hr, rfl⟩
        rw [look_of hs hr]
        rfl
  have hso : (nums l).Pairwise fun x y => decide (x ≤ y) = true := by
    unfold nums
    rw [List.pairwise_map]
    exact hs.imp fun {a b} hab => by simp; omega
  have hm := List.mergeSort_perm ks (fun x y => decide (x ≤ y))
  have hms := List.pairwise_mergeSort (le := fun x y : Int => decide (x ≤ y)) (fun a b c h1 h2 => by simp at *; omega) (fun a b => by simp; omega) ks
  exact (hm.trans hp).eq_of_pairwise (fun a b _ _ h1 h2 => by simp at h1 h2; omega) hms hso
end Rs
end Go.Proofs.YtbapnoafjcipjaaGreatDoor
