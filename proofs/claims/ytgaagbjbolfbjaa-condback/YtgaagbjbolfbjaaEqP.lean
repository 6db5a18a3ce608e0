/- Contract: a pattern's Equal. -/
import Derived.Test.YtgaagbjbolfbjaaRtW
import Derived.ChangeKeysEq
namespace Go.Proofs.Ytgaagbjbolfbjaa
open Go.RowKit
namespace Pt
open Cd

/-- the same four numbers -/
def eqI (f g : UInt8 → Bool) : Bool := (List.range 4).all fun k => wd f k == wd g k
theorem eqI_iff (f g : UInt8 → Bool) : eqI f g = true ↔ f = g := by
  unfold eqI
  rw [List.all_eq_true]
  constructor
  · intro h
    exact wd_ext fun k hk => beq_iff_eq.1 (h k (List.mem_range.2 hk))
  · rintro rfl
    simp
theorem infoU : (Try.prog.info? 22).isSome = true := by kernel_rfl
theorem cellsU : Try.prog.cellsOf 22 = 1 := by kernel_rfl
theorem plainU : Try.prog.plainKey 22 = true := by kernel_rfl
theorem infoI2 : (Try.prog.info? 24).isSome = true := by kernel_rfl
theorem cellsI : Try.prog.cellsOf 24 = 4 := by kernel_rfl
theorem nat_beq (a b : Nat) : ((a : Int) == (b : Int)) = (a == b) := by
  rw [Bool.eq_iff_iff, beq_iff_eq, beq_iff_eq]
  omega
theorem item_eq (d : Nat) (f g : UInt8 → Bool) (w : World) : (Op.equalIn (d + 1 + 1) 24 (.agg (itC f)) (.agg (itC g))).run Try.prog w = .ok (eqI f g) w := by
  obtain ⟨i, hi⟩ := Option.isSome_iff_exists.1 infoU
  rw [run_equalIn_array w (d + 1) (itC f) (itC g) Try.underlying24 hi, cellsU]
  have hp : ∀ (h : UInt8 → Bool) k, k < 4 → (part 22 (itC h) (k * 1)).run Try.prog w = .ok (.int .u64 (wd h k)) w := fun h k hk => run_part_plain w plainU (by rw [Nat.mul_one]; exact itC_get h hk)
  have he : ∀ a b : Int, (Op.equalIn (d + 1) 22 (.int .u64 a) (.int .u64 b)).run Try.prog w = .ok (a == b) w := fun a b => run_equalIn_int w d 22 .u64 .u64 a b Try.underlying22
  have key : ∀ is : List Nat, (∀ k ∈ is, k < 4) → (Op.eqItems (d + 1) 22 1 (itC f) (itC g) is).run Try.prog w = .ok (is.all fun k => wd f k == wd g k) w := by
    intro is
    induction is with
    | nil => intro _; simp [Op.eqItems]
    | cons k t ih =>
      intro h
      have hk := h k (by simp)
      have ih2 := ih (fun j hj => h j (by simp [hj]))
      simp only [Op.eqItems, Sem.run_bind, hp _ k hk, Result.andThen_ok, he, List.all_cons, nat_beq]
      cases (wd f k == wd g k)
      · simp
      · simpa using ih2
  rw [key (List.range 4) (fun k h => List.mem_range.1 h)]
  rfl
theorem part_item (xs : Array Value) (f : UInt8 → Bool) (o : Nat) (w : World) (h : xs.extract o (o + 4) = itC f) : (part 24 xs o).run Try.prog w = .ok (.agg (itC f)) w := by
  obtain ⟨i, hi, hz⟩ := Option.map_eq_some_iff.1 infoI
  simp [part, Sem.run_bind, Try.isAgg24, sizeOf, typeInfo, hi, hz, h]
theorem items_eq (d : Nat) (xs ys : Array Value) (G H : Nat → UInt8 → Bool) (w : World) : ∀ is : List Nat, (∀ i ∈ is, xs.extract (i * 4) (i * 4 + 4) = itC (G i)) → (∀ i ∈ is, ys.extract (i * 4) (i * 4 + 4) = itC (H i)) →
    (Op.eqItems (d + 1 + 1) 24 4 xs ys is).run Try.prog w = .ok (is.all fun i => eqI (G i) (H i)) w
  | [], _, _ => by simp [Op.eqItems]
  | i :: is, h1, h2 => by
    have ih := items_eq d xs ys G H w is (fun j hj => h1 j (by simp [hj])) (fun j hj => h2 j (by simp [hj]))
    simp only [Op.eqItems, Sem.run_bind, part_item xs (G i) (i * 4) w (h1 i (by simp)), part_item ys (H i) (i * 4) w (h2 i (by simp)), Result.andThen_ok, item_eq, List.all_cons]
    cases eqI (G i) (H i)
    · simp
    · simpa using ih
/-- item i, or the empty set -/
def nth (fs : List (UInt8 → Bool)) (i : Nat) : UInt8 → Bool := fs.getD i (fun _ => false)
def itemsC (fs : List (UInt8 → Bool)) : Array Value := (patC fs).extract 1 65
theorem itC_zero : (itC fun _ => false).toList = List.replicate 4 (.int .u64 0) := by simp [itC, wd_none, List.replicate]
theorem chunk_flat (fs : List (UInt8 → Bool)) (n i : Nat) (hi : i < fs.length + n) : ((flatC fs ++ List.replicate (n * 4) (Value.int .u64 0)).drop (i * 4)).take 4 = (itC (nth fs i)).toList := by
  induction fs generalizing i with
  | nil =>
    have e : nth [] i = fun _ => false := by simp [nth]
    rw [e, itC_zero]
    simp only [flatC, List.flatMap_nil, List.nil_append, List.drop_replicate, List.take_replicate]
    congr 1
    simp at hi
    omega
  | cons f t ih =>
    have e : flatC (f :: t) = (itC f).toList ++ flatC t := by simp [flatC]
    have hl : (itC f).toList.length = 4 := rfl
    rw [e, List.append_assoc]
    cases i with
    | zero =>
      rw [Nat.zero_mul, List.drop_zero, ← hl, List.take_left]
      rfl
    | succ i =>
      rw [show (i + 1) * 4 = (itC f).toList.length + i * 4 by rw [hl]; omega, List.drop_append, List.drop_of_length_le (by omega), List.nil_append, Nat.add_sub_cancel_left, ih i (by simp at hi; omega)]
      rfl
theorem itemsC_chunk (fs : List (UInt8 → Bool)) (h : fs.length ≤ 16) (i : Nat) (hi : i < 16) : (itemsC fs).extract (i * 4) (i * 4 + 4) = itC (nth fs i) := by
  apply Array.toList_inj.1
  have hl := flatC_len fs
  have hz : zeroP.drop (flatC fs).length = List.replicate ((16 - fs.length) * 4) (.int .u64 0) := by
    rw [zeroP, List.drop_replicate, hl]
    congr 1
    omega
  have e : (itemsC fs).toList = flatC fs ++ List.replicate ((16 - fs.length) * 4) (.int .u64 0) := by
    unfold itemsC patC
    rw [← hz]
    simp only [Array.toList_extract, List.extract_eq_take_drop, List.drop_succ_cons, List.drop_zero]
    apply List.take_of_length_le
    simp [zeroP]
    omega
  rw [Array.toList_extract, List.extract_eq_take_drop, e]
  have := chunk_flat fs (16 - fs.length) i (by omega)
  rw [show i * 4 + 4 - i * 4 = 4 by omega]
  exact this
/-- the same items -/
def patEq (fs gs : List (UInt8 → Bool)) : Bool := (List.range 16).all fun i => eqI (nth fs i) (nth gs i)
theorem arr_eq (fs gs : List (UInt8 → Bool)) (hf : fs.length ≤ 16) (hg : gs.length ≤ 16) (w : World) : (Op.equalIn 10000 25 (.agg (itemsC fs)) (.agg (itemsC gs))).run Try.prog w = .ok (patEq fs gs) w := by
  obtain ⟨i, hi⟩ := Option.isSome_iff_exists.1 infoI2
  rw [run_equalIn_array w 9999 (itemsC fs) (itemsC gs) Try.underlying25 hi, cellsI]
  exact items_eq 9997 _ _ (nth fs) (nth gs) w (List.range 16) (fun i h => itemsC_chunk fs hf i (List.mem_range.1 h)) (fun i h => itemsC_chunk gs hg i (List.mem_range.1 h))
/-- the items of a pattern, loaded whole -/
def ldI (v : Value) : Sem Value := Instr.loadAt 25 v
theorem loadI_as (v : Value) : Instr.loadAt 25 v = ldI v := rfl
theorem infoA : (Try.prog.info? 25).map (·.size) = some 64 := by kernel_rfl
theorem ldI_row {w : World} {g : Nat} {X : Array Value} {t : TypeId} (hg : w.heap[g]? = some (.cells X t (0, 0))) (h : Sz65 X) : (ldI (.pointer (some ⟨g, 1, none⟩))).run Try.prog w = .ok (.agg (X.extract 1 65)) w := by
  have hX : X.size = 65 := h
  have hl := run_loadCells_list (P := Try.prog) w ⟨g, 1, none⟩ (X.extract 1 65).toList (fun j v hv => by
    have e : (⟨g, 1, none⟩ : Addr).add j = ⟨g, 1 + j, none⟩ := by unfold Addr.add; split <;> simp_all
    rw [e, cell_of_row w g (1 + j) X t (0, 0) hg]
    have hv2 : (X.extract 1 65)[j]? = some v := by rw [← Array.getElem?_toList]; exact hv
    rw [Array.getElem?_extract] at hv2
    split at hv2
    · exact hv2
    · cases hv2)
  have hn : (X.extract 1 65).toList.length = 64 := by simp [hX]
  rw [hn, Array.toArray_toList] at hl
  obtain ⟨i, hq, hi⟩ := Option.map_eq_some_iff.1 infoA
  simp [ldI, Instr.loadAt, Instr.sureAddr, loadVar, Sem.run_bind, Try.isAgg25, sizeOf, typeInfo, hq, hi, hl]
theorem guardA : Try.prog.eqGuardType Try.prog.depth 25 = false := by kernel_rfl
attribute [local go_sem ↓] loadI_as
set_option maxHeartbeats 1000000 in
set_option maxRecDepth 100000 in
theorem equal_any (fs gs : List (UInt8 → Bool)) (hf : fs.length ≤ 16) (hg : gs.length ≤ 16) (w : World) :
    Calls Try.prog 20 #[.agg (patC fs), .agg (patC gs)] w fun e w' => e = .returned (.bool (patEq fs gs)) ∧ Below w.heap.size w w' := by
  have hE := fun W => arr_eq fs gs hf hg W
  have hl1 := ldI_row (heap_alloc2_old w (.cells (patC fs) 27) (.cells (patC gs) 27)) (patC_size fs hf)
  have hl2 := ldI_row (heap_alloc2_new w (.cells (patC fs) 27) (.cells (patC gs) 27)) (patC_size gs hg)
  have hgd := guardA
  unfold itemsC at hE
  generalize (patC fs).extract 1 65 = XI at *
  generalize (patC gs).extract 1 65 = YI at *
  generalize patC fs = X at *
  generalize patC gs = Y at *
  generalize patEq fs gs = RES at *
  go_enter Try.func20, Try.ntmps20
  go_wp2
  go_ret
  exact ⟨rfl, ((Below.refl _ w).alloc (Nat.le_refl _) _).alloc (by simp) _⟩
end Pt
end Go.Proofs.Ytgaagbjbolfbjaa
