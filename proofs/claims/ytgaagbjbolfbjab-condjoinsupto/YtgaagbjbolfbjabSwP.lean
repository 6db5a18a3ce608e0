/- Contract: a pattern's Show. -/
import Derived.Test.YtgaagbjbolfbjabShP
import Derived.Test.YtgaagbjbolfbjabShJ
import Derived.Test.YtgaagbjbolfbjabShW
namespace Go.Proofs.Ytgaagbjbolfbjab
open Go.RowKit
namespace Pt
open Cd

theorem builder_below {T e : TypeId} {B b : Nat} {bs : List Value} {w w' : World} (h : Lib.IsBuilderF T e B b bs w) (hB : Below w.heap.size w w') : Lib.IsBuilderF T e B b bs w' := by
  have one : ∀ p, Lib.BuilderAtF T e B b p bs w → Lib.BuilderAtF T e B b p bs w' := by
    rintro p ⟨h1, v, h2, h3, h4⟩
    refine ⟨h1, v, by rw [hB.block b (Array.getElem?_eq_some_iff.1 h2).1]; exact h2, ?_, h4⟩
    obtain ⟨hl, h | ⟨g, cap, cur, fz, rfl, hg, hh, hr⟩⟩ := h3
    · exact ⟨hl, .inl h⟩
    · exact ⟨hl, .inr ⟨g, cap, cur, fz, rfl, hg, by rw [hB.block g (Array.getElem?_eq_some_iff.1 hh).1]; exact hh, hr⟩⟩
  exact h.elim (fun x => .inl (one _ x)) (fun x => .inr (one _ x))
theorem cells_str (l : List UInt8) : Lib.strCells (str l) = Lib.byteCells l := by simp [Lib.strCells, Lib.byteCells, str]
theorem shw_len (f : UInt8 → Bool) : (shw f).length ≤ 600 := by
  have h1 := lso_len f
  have h2 := lso_len (fun b => !f b)
  have h3 := List.length_filter_le (· != 94) (lso f)
  unfold shw
  repeat' split
  all_goals first | omega | (simp only [List.length_cons, List.length_append, List.length_nil]; omega)
/-- a pattern as it is shown -/
def swsF (fs : List (UInt8 → Bool)) : List UInt8 := if fs = [] then [46] else (fs.map shw).flatten
theorem swsF_sws (P : List (List UInt8)) : swsF (P.map adm) = sws P := by
  unfold swsF sws
  by_cases h : P = []
  · rw [h]; rfl
  · rw [if_neg h, if_neg (by simpa using h), List.map_map]; rfl
set_option maxHeartbeats 1000000 in
set_option maxRecDepth 100000 in
theorem patShow_none (w : World) :
    Calls Try.prog 10 #[.agg (patC [])] w fun e w' => e = .returned (.string ⟨#[46]⟩) ∧ Below w.heap.size w w' := by
  have h0 : (patC [])[0]? = some (.int .i64 0) := patC_zero []
  generalize patC [] = X at *
  go_enter Try.func10, Try.ntmps10
  go_wp2
  go_ret
  exact ⟨rfl, (Below.refl _ w).alloc (Nat.le_refl _) _⟩
theorem flat_succ {fs : List (UInt8 → Bool)} {k : Nat} (h : k < fs.length) : ((fs.take (k + 1)).map shw).flatten = ((fs.take k).map shw).flatten ++ shw fs[k] := by
  rw [List.take_succ_eq_append_getElem h, List.map_append, List.flatten_append]
  simp only [List.map_cons, List.map_nil, List.flatten_cons, List.flatten_nil, List.append_nil]
theorem flat_small (fs : List (UInt8 → Bool)) (k : Nat) : ((fs.take k).map shw).flatten.length ≤ 600 * k := by
  induction k with
  | zero => simp
  | succ k ih =>
    by_cases h : k < fs.length
    · rw [flat_succ h, List.length_append]
      have := shw_len fs[k]
      omega
    · rw [List.take_of_length_le (by omega)] at ih ⊢
      omega
set_option maxHeartbeats 1000000 in
set_option maxRecDepth 100000 in
theorem patShow_some (fs : List (UInt8 → Bool)) (w : World) (h16 : fs.length ≤ 16) (hne : fs ≠ []) :
    Calls Try.prog 10 #[.agg (patC fs)] w fun e w' => e = .returned (.string (str (fs.map shw).flatten)) ∧ Below w.heap.size w w' := by
  obtain ⟨n, hn⟩ : ∃ n, n = fs.length := ⟨_, rfl⟩
  have h0 : (patC fs)[0]? = some (.int .i64 n) := by rw [hn]; exact patC_zero fs
  have HF : Hid (∀ k, k < n → ∃ (f : UInt8 → Bool) (x0 x1 x2 x3 : Nat), (patC fs)[1 + k * 4]? = some (.int .u64 x0) ∧ (patC fs)[1 + k * 4 + 1]? = some (.int .u64 x1) ∧ (patC fs)[1 + k * 4 + 2]? = some (.int .u64 x2) ∧ (patC fs)[1 + k * 4 + 3]? = some (.int .u64 x3) ∧ (∀ W, Calls Try.prog 19 #[.agg #[.int .u64 x0, .int .u64 x1, .int .u64 x2, .int .u64 x3]] W fun e w' => e = .returned (.string (str (shw f))) ∧ Below W.heap.size W w') ∧ ((fs.take (k + 1)).map shw).flatten = ((fs.take k).map shw).flatten ++ shw f ∧ (shw f).length ≤ 600) := fun k h => by
    obtain ⟨c0, c1, c2, c3⟩ := patC_four fs (k := k) (by omega)
    exact ⟨fs[k], _, _, _, _, c0, c1, c2, c3, fun W => show_any fs[k] W, flat_succ (by omega), shw_len _⟩
  have HSM := hide (fun k => flat_small fs k)
  have HFU : Hid (∀ k, n ≤ k → ((fs.take k).map shw).flatten = (fs.map shw).flatten) := fun k h => by rw [List.take_of_length_le (by omega)]
  have hn0 : 1 ≤ n := by rw [hn]; exact List.length_pos_iff.2 hne
  have hnz : (n : Int) ≤ 16 := by omega
  have hn0b : ((n : Int) == 0) = false := by rw [beq_eq_false_iff_ne]; omega
  generalize (fs.map shw).flatten = RES at *
  generalize patC fs = X at *
  clear hn h16 hne
  go_enter Try.func10, Try.ntmps10
  go_wp2
  go_loopw [10] (fun i wr => ∃ k : Nat, k ≤ n ∧ i = .int .i64 k ∧ Hid (Lib.IsBuilderF 55 5 (w.heap.size + 1) (w.heap.size + 1) (Lib.byteCells ((fs.take k).map shw).flatten) wr) ∧ Hid (wr.heap[w.heap.size]? = some (.cells X 31 (0, 0))) ∧ Hid (Below w.heap.size w wr)) (fun i _ => n - (intOf i).toNat)
  case atStart =>
    refine ⟨0, by omega, rfl, ?_, heap_alloc2_old w _ _, ((Below.refl _ w).alloc (Nat.le_refl _) _).alloc (by simp) _⟩
    have := Lib.IsBuilderF.of (Lib.fresh_isBuilder 55 5 (w.alloc (.cells X 31)))
    simp only [World.size_alloc] at this
    exact this
  case round =>
    obtain ⟨k, hk, rfl, HI, HG, HB⟩ := hrel
    by_cases hlt : k < n
    · have hltz : (k : Int) < (n : Int) := by omega
      obtain ⟨f, x0, x1, x2, x3, c0, c1, c2, c3, hsh, hst, hl⟩ := unhide HF k hlt
      have hc0 := (cell_of_row wr _ (1 + k * 4) X _ _ (unhide HG)).trans c0
      have hc1 := (cell_of_row wr _ (1 + k * 4 + 1) X _ _ (unhide HG)).trans c1
      have hc2 := (cell_of_row wr _ (1 + k * 4 + 2) X _ _ (unhide HG)).trans c2
      have hc3 := (cell_of_row wr _ (1 + k * 4 + 3) X _ _ (unhide HG)).trans c3
      have HSH := hide hsh
      have HST := hide hst
      have hacc := unhide HSM k
      have hsz := str_size (shw f)
      have HCS := hide (cells_str (shw f))
      have HLT : Hid (w.heap.size + 1 ≤ wr.heap.size) := (Array.getElem?_eq_some_iff.1 (unhide HG)).1
      generalize ((fs.take k).map shw).flatten = acc at *
      have HBC : Hid ((Lib.byteCells acc).length + (str (shw f)).size ≤ 140737488355328) := hide (by rw [Lib.byteCells_length]; omega)
      have HAP : Hid (Lib.byteCells acc ++ Lib.byteCells (shw f) = Lib.byteCells (acc ++ shw f)) := hide (by rw [Lib.byteCells_append])
      clear c0 c1 c2 c3 hsh hst hl hacc hsz
      generalize str (shw f) = T at *
      go_wp2_with fail
      refine (unhide HSH _).mono ?_
      rintro e w1 ⟨rfl, hb1⟩
      have HI1 := hide (builder_below (unhide HI) hb1)
      have HG1 := hide (keep_pat (unhide HG) hb1)
      have HB1 := hide ((unhide HB).trans (hb1.mono (unhide HB).size))
      have HLT1 : Hid (w.heap.size + 1 ≤ w1.heap.size) := hide (Nat.le_trans (unhide HLT) hb1.size)
      clear hb1
      go_wp2_with fail
      refine (Try.Builder_WriteString_k (w.heap.size + 1) (w.heap.size + 1) _ T _ (unhide HI1) (unhide HBC) (unhide HLT1)).mono ?_
      rintro e w2 ⟨rfl, h2, b2, _⟩
      rw [unhide HCS, unhide HAP, ← unhide HST] at h2
      have HI2 := hide h2
      have HG2 := hide ((b2.block w.heap.size (by omega)).trans (unhide HG1))
      have HB2 := hide ((unhide HB1).trans (b2.mono (by omega)))
      clear h2 b2
      go_wp2
      go_roundw
      case rel => exact ⟨k + 1, by omega, by go_num, Or.inr (unhide HI2), HG2, HB2⟩
      case measure => simp [intOf]; omega
    · have hltz : ¬ (k : Int) < (n : Int) := by omega
      have HFF := hide (unhide HFU k (by omega))
      have HLT : Hid (w.heap.size + 1 ≤ wr.heap.size) := (Array.getElem?_eq_some_iff.1 (unhide HG)).1
      generalize ((fs.take k).map shw).flatten = acc at *
      go_wp2_with fail
      refine (Try.Builder_String_any_k (w.heap.size + 1) (w.heap.size + 1) acc _ (unhide HI) (unhide HLT)).mono ?_
      rintro e w2 ⟨rfl, _, b2, _⟩
      have HB2 := hide ((unhide HB).trans (b2.mono (by omega)))
      clear b2
      go_wp2
      go_ret
      exact ⟨by rw [← unhide HFF]; rfl, unhide HB2⟩
theorem patShow_any (fs : List (UInt8 → Bool)) (w : World) (h16 : fs.length ≤ 16) :
    Calls Try.prog 10 #[.agg (patC fs)] w fun e w' => e = .returned (.string (str (swsF fs))) ∧ Below w.heap.size w w' := by
  unfold swsF
  by_cases h : fs = []
  · rw [if_pos h, h]
    exact patShow_none w
  · rw [if_neg h]
    exact patShow_some fs w h16 h
end Pt
end Go.Proofs.Ytgaagbjbolfbjab
