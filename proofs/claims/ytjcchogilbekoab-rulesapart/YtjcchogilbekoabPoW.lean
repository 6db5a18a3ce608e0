/- Contract: cond.patternOf: the items of a list, or too many. -/
import Derived.Test.YtjcchogilbekoabCuD
import Derived.Laws.CopyRow
import Derived.Laws.CopyOwn
import Derived.Deep.WholeRow
namespace Go.Proofs.Ytjcchogilbekoab
open Go.RowKit
namespace Pt
open Cd

/-- the cells of items, one behind the other -/
def flatC (fs : List (UInt8 → Bool)) : List Value := fs.flatMap fun f => (itC f).toList
def zeroP : List Value := List.replicate 64 (.int .u64 0)
/-- the cells of a pattern -/
def patC (fs : List (UInt8 → Bool)) : Array Value := (Value.int .i64 fs.length :: (flatC fs ++ zeroP.drop (flatC fs).length)).toArray

theorem zero_pat (w : World) : (zeroValue 48).run Try.prog w = .ok (.agg (patC [])) w := by kernel_rfl
theorem flatC_len (fs : List (UInt8 → Bool)) : (flatC fs).length = fs.length * 4 := by
  induction fs with
  | nil => rfl
  | cons f t ih =>
    unfold flatC at *
    rw [List.flatMap_cons, List.length_append, ih, List.length_cons]
    simp [itC]
    omega
theorem flatC_one (fs : List (UInt8 → Bool)) : ∀ u ∈ flatC fs, u.oneCell' = true := by
  intro u hu
  obtain ⟨f, _, h⟩ := List.mem_flatMap.1 hu
  simp [itC] at h
  rcases h with rfl | rfl | rfl | rfl <;> rfl
theorem patC_size (fs : List (UInt8 → Bool)) (h : fs.length ≤ 16) : (patC fs).size = 65 := by
  have := flatC_len fs
  simp [patC, zeroP]
  omega
theorem patC_one (fs : List (UInt8 → Bool)) : (patC fs).all (·.oneCell') = true := by
  rw [Array.all_eq_true]
  intro i hi
  have hm : (patC fs)[i] ∈ (patC fs).toList := by simp
  generalize (patC fs)[i] = u at *
  simp only [patC, List.mem_cons, List.mem_append] at hm
  rcases hm with rfl | h | h
  · rfl
  · exact flatC_one fs u h
  · have := List.mem_of_mem_drop h
    rw [zeroP, List.mem_replicate] at this
    rw [this.2]
    rfl
/-- items in memory -/
def ItemsAt (W : World) (v : Value) (fs : List (UInt8 → Bool)) : Prop :=
  (v = .slice none 0 0 ∧ fs = []) ∨ ∃ g cap, v = .slice (some ⟨g, 0, none⟩) fs.length cap ∧ g < W.heap.size ∧ ∀ j u, (flatC fs)[j]? = some u → W.cell? ⟨g, j, none⟩ = some u
theorem ItemsAt.below {W W' : World} {v : Value} {fs : List (UInt8 → Bool)} (h : ItemsAt W v fs) (hb : Below W.heap.size W W') : ItemsAt W' v fs := by
  rcases h with h | ⟨g, cap, h1, h2, h3⟩
  · exact .inl h
  · exact .inr ⟨g, cap, h1, Nat.lt_of_lt_of_le h2 hb.size, fun j u hu => (hb.cell (p := ⟨g, j, none⟩) h2).trans (h3 j u hu)⟩
/-- what copy leaves in the pattern's items -/
def copied (Z : Array Value) (cs : List Value) : Array Value := (Z.toList.take 1 ++ cs ++ Z.toList.drop (1 + cs.length)).toArray
theorem add_off (g j : Nat) : (⟨g, 0, none⟩ : Addr).add j = ⟨g, j, none⟩ := by unfold Addr.add; split <;> simp_all
theorem infoI : (Try.prog.info? 45).map (·.size) = some 4 := by kernel_rfl
theorem copy_run (w : World) (ty : TypeId) (g dCap : Nat) (v : Value) (cur : Array Value) (t : TypeId) (fs : List (UInt8 → Bool)) (hfs : fs.length ≤ 16)
    (hg : w.heap[g]? = some (.cells cur t (0, 0))) (hc : cur.size = 65) (hv : ItemsAt w v fs) :
    (Builtin.copy_ #[53, 53] ty #[.slice (some ⟨g, 1, none⟩) 16 dCap, v]).run Try.prog w = .ok (goInt fs.length) (w.setRow g (copied cur (flatC fs))) := by
  have hlen := flatC_len fs
  have hst := run_storeCells_at Try.prog g 1 t (flatC fs) 0 cur w hg (by omega) (flatC_one fs)
  obtain ⟨i, hq, hi⟩ := Option.map_eq_some_iff.1 infoI
  have hu := Try.underlying53
  rcases hv with ⟨rfl, rfl⟩ | ⟨gs, cap, rfl, _, hcell⟩
  · simp [Builtin.copy_, run_underlying hu, Builtin.lenOf, Builtin.firstCells, sizeOf, typeInfo, hq, storeCells, copied, flatC]
    rw [← List.drop_one, List.take_append_drop, Array.toArray_toList, setRow_self w g cur t (0, 0) hg]
  · have hl := run_loadCells_list (P := Try.prog) w ⟨gs, 0, none⟩ (flatC fs) (fun j u h => by rw [add_off]; exact hcell j u h)
    rw [hlen] at hl
    have hmin : min fs.length 16 = fs.length := by omega
    simp [Builtin.copy_, run_underlying hu, Builtin.lenOf, Builtin.firstCells, sizeOf, typeInfo, hq, hi, hmin, hl, hst, copied]
theorem copied_set (fs : List (UInt8 → Bool)) : (copied (patC []) (flatC fs)).setIfInBounds 0 (.int .i64 fs.length) = patC fs := by
  apply Array.toList_inj.1
  simp [copied, patC, flatC, Nat.add_comm 1]
theorem infoP : (Try.prog.info? 48).map (·.size) = some 65 := by kernel_rfl
theorem load_pat (w : World) (g : Nat) (cur : Array Value) (t : TypeId) (hg : w.heap[g]? = some (.cells cur t (0, 0))) (hc : cur.size = 65) : (loadCellsFrom ⟨g, 0, none⟩ 0 65 #[]).run Try.prog w = .ok cur w := by
  have hl := run_loadCells_list (P := Try.prog) w ⟨g, 0, none⟩ cur.toList (fun j v hv => by
    rw [add_off, cell_of_row w g j cur t (0, 0) hg]
    simpa using hv)
  simp only [Array.length_toList, Array.toArray_toList, hc] at hl
  simpa [loadCells] using hl
theorem store_pat (w : World) (g : Nat) (cur new : Array Value) (t : TypeId) (hg : w.heap[g]? = some (.cells cur t (0, 0))) (hc : cur.size = 65) (hn : new.size = 65) (h1 : new.all (·.oneCell') = true) : (storeCells ⟨g, 0, none⟩ new.toList 0).run Try.prog w = .ok () (w.setRow g new) := by
  have h := run_storeCells_at Try.prog g 0 t new.toList 0 cur w hg (by simp; omega) (fun v hv => by
    rw [Array.all_eq_true] at h1
    obtain ⟨i, hi, rfl⟩ := List.getElem_of_mem hv
    exact h1 i (by simpa using hi))
  rw [h]
  have : cur.toList.drop (0 + 0 + new.toList.length) = [] := List.drop_of_length_le (by simp; omega)
  rw [this, List.append_nil, List.take_zero, List.nil_append, Array.toArray_toList]
theorem setRow_last (W : World) (c c' : Array Value) (t : TypeId) : (W.alloc (.cells c t)).setRow W.heap.size c' = W.alloc (.cells c' t) := World.setRow_alloc_new W c c' t
theorem CopyOwnB {B : Nat} {w W : World} (h : Below B w W) (Z X : Array Value) (hB : B ≤ W.heap.size) : Below B w (((W.alloc (.cells Z 48)).alloc (.cells X 48)).setRow W.heap.size X) := below_setRow ((h.alloc hB _).alloc (by simp; omega) _) hB X
theorem ret_pat {fn : Func} {p u : Tmp} (h : fn.results = #[.cell p 48, .tmp u]) (tmps : Array Value) (w : World) (g : Nat) (cur : Array Value) (t : TypeId) (hp : tmps.getD p undef = .pointer (some ⟨g, 0, none⟩)) (hg : w.heap[g]? = some (.cells cur t (0, 0))) (hc : cur.size = 65) :
    (results fn tmps).run Try.prog w = .ok (.tuple #[.agg cur, tmps.getD u undef]) w := by
  have hl := run_loadVar_row (P := Try.prog) w g t 48 cur (0, 0) _ hg Try.underlying48 rfl (by rw [hc]; exact infoP)
  rw [results_cell_tmp h, hp]
  simp [asAddr, Result.andThen, hl]

set_option maxHeartbeats 1000000 in
set_option maxRecDepth 100000 in
theorem patternOf_many (v : Value) (n cap : Nat) (a : Option Addr) (w : World) (hn : 16 < n) (hv : v = .slice a n cap) :
    Calls Try.prog 25 #[v] w fun e w' => e = .returned (.tuple #[.agg (patC []), .int .i64 42]) ∧ Below w.heap.size w w' := by
  subst hv
  have hnz : (16 : Int) < (n : Int) := by omega
  have hz := zero_pat
  have hs := patC_size [] (by decide)
  have h1 := patC_one []
  generalize patC [] = Z at *
  have hg := heap_alloc_last w (.cells Z 48)
  have hl := load_pat _ _ _ _ hg hs
  have hst := store_pat _ _ _ _ _ hg hs hs h1
  rw [setRow_last] at hst
  have HL := hide hl
  clear h1 hg hl
  go_enter Try.func25, Try.ntmps25
  go_wp2
  refine bodyPost_ret (ret_pat rfl _ _ w.heap.size Z _ rfl (heap_alloc_last w _) hs) rfl ⟨rfl, ?_⟩
  exact (Below.refl _ w).alloc (Nat.le_refl _) _
set_option maxHeartbeats 1000000 in
set_option maxRecDepth 100000 in
theorem patternOf_few (v : Value) (fs : List (UInt8 → Bool)) (w : World) (hn : fs.length ≤ 16) (hv : ItemsAt w v fs) :
    Calls Try.prog 25 #[v] w fun e w' => e = .returned (.tuple #[.agg (patC fs), .int .i64 0]) ∧ Below w.heap.size w w' := by
  have hz := zero_pat
  have hs := patC_size [] (by decide)
  have hsX := patC_size fs hn
  have hX1 := patC_one fs
  have hset := copied_set fs
  have hY0 : (copied (patC []) (flatC fs))[0]? = some (.int .i64 0) := by simp [copied, patC]
  have hsl : ∃ a cap, v = .slice a fs.length cap := by
    rcases hv with ⟨rfl, rfl⟩ | ⟨g, cap, rfl, _⟩
    · exact ⟨none, 0, rfl⟩
    · exact ⟨_, cap, rfl⟩
  generalize patC [] = Z at *
  generalize patC fs = X at *
  have hg0 := heap_alloc2_new w (.cells Z 48) (.cells Z 48)
  have B2 := ((Below.refl _ w).alloc (Nat.le_refl _) (.cells Z 48)).alloc (by simp) (.cells Z 48)
  have hcp := fun ty => copy_run _ ty _ 16 v _ _ fs hn hg0 hs (hv.below B2)
  have e1 := setRow_last (w.alloc (.cells Z 48)) Z (copied Z (flatC fs)) 48
  rw [World.size_alloc] at e1
  rw [e1] at hcp
  have hgX := heap_alloc2_new w (.cells Z 48) (.cells X 48)
  have hg2 := heap_alloc2_old w (.cells Z 48) (.cells X 48)
  have HLD := hide hgX
  have hiX : (Try.prog.info? 48).map (·.size) = some X.size := by rw [hsX]; exact infoP
  have hst := store_pat _ _ _ _ _ hg2 hs hsX hX1
  have HGX := hide (setRow_heap _ _ _ X _ _ hg2)
  have HB := hide (CopyOwnB (Below.refl _ w) Z X (Nat.le_refl _))
  obtain ⟨a, cap, rfl⟩ := hsl
  generalize copied Z (flatC fs) = Y at *
  clear hgX hg2 hg0 e1 hX1 B2 hv
  go_enter Try.func25, Try.ntmps25
  go_wp2_with ((with_reducible (show wpList _ _ _ ({ dst := _, op := Op.load 48 _, type := _, pos := _, after := _, guard := _ } :: _) _ _)); refine wpList_load_row rfl 48 _ rfl (w.heap.size + 1) rfl 48 X (0, 0) _ (unhide HLD) Try.underlying48 rfl hiX ?_)
  exact bodyPost_ret (ret_pat rfl _ _ w.heap.size X _ rfl (unhide HGX) hsX) rfl ⟨rfl, unhide HB⟩
end Pt
end Go.Proofs.Ytjcchogilbekoab
