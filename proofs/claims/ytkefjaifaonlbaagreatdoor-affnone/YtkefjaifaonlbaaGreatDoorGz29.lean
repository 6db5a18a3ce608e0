/- The law wakes. -/
import Derived.Test.YtkefjaifaonlbaaGreatDoorGz28
import Derived.Test.YtkefjaifaonlbaaGreatDoorRows
import Derived.Test.YtkefjaifaonlbaaGreatDoorGz02
import Derived.ProofKit
import Derived.OpenShut
import Derived.Deep.Slices
import Derived.SizedLaws
import Derived.WalkKit
import Derived.Deep.DeepHandedRow
namespace Go.Proofs.YtkefjaifaonlbaaGreatDoor
open Go.RowKit
namespace Af
open RowB
/-- what is fixed of the file's reading -/
theorem wk_ax {n : Nat} {W : World} {v : Value} (h : AxV n W wkF v) : ∃ ar nr cr aa na ca ac cc g cap, v = .agg #[.int .i64 1, .string ⟨#[]⟩, .string ⟨#[]⟩, .int .u16 0, .int .u16 0, .int .u16 0, .int .u16 0, .int .u16 0, .int .i64 3, .slice ar nr cr, .slice aa na ca, .slice ac 1 cc, .slice (some ⟨g, 0, none⟩) 1 cap] ∧ n ≤ g ∧ g < W.heap.size ∧ W.cell? ⟨g, 4, none⟩ = some (.string ⟨#[105, 101, 115]⟩) := by
  obtain ⟨vr, va, vc, vu, av, nv, rfl, h1, ⟨h2, h3, -⟩, h4, ⟨h5, h6, -⟩⟩ := h
  obtain ⟨ar, cr, rfl⟩ := own_slice h1
  obtain ⟨aa, ca, rfl⟩ := own_slice h2
  obtain ⟨ac, cc, rfl⟩ := own_slice h4
  obtain ⟨g, cap, e1, hgB, hg, hcap, hmx, -, hcl⟩ := own_at h5 (by decide)
  have hcl4 := hcl 4 (by decide)
  match nv, h6 with
  | [u], _ =>
    subst e1
    exact ⟨ar, _, cr, aa, _, ca, ac, cc, g, cap, rfl, hgB, hg, hcl4⟩
set_option maxRecDepth 100000 in
set_option maxHeartbeats 4000000 in
theorem wakes_any (w : World) (hM : Mx w.heap.size w) : Calls Tryz.prog 7 #[] w fun e w' => e = .returned (.bool true) ∧ Below w.heap.size w w' := by
  have HR : Hid (Calls Tryz.prog 17 #[.string ⟨#[83, 70, 88, 32, 65, 32, 89, 32, 49, 10, 83, 70, 88, 32, 65, 32, 121, 32, 105, 101, 115, 32, 91, 94, 97, 101, 105, 111, 117, 93, 121, 10]⟩] w fun e w' => Below w.heap.size w w' ∧ ∃ f, e = .returned (.tuple #[.pointer (some ⟨f, 0, none⟩), .agg #[.int .i64 0, .int .i64 0, .int .i64 0]]) ∧ Hid (∀ W, Below w'.heap.size w' W → Calls Tryz.prog 9 #[.pointer (some ⟨f, 0, none⟩)] W fun e W' => Below w.heap.size w W' ∧ ∃ ar nr cr aa na ca ac cc g cap, e = .returned (.agg #[.int .i64 1, .string ⟨#[]⟩, .string ⟨#[]⟩, .int .u16 0, .int .u16 0, .int .u16 0, .int .u16 0, .int .u16 0, .int .i64 3, .slice ar nr cr, .slice aa na ca, .slice ac 1 cc, .slice (some ⟨g, 0, none⟩) 1 cap]) ∧ g < W'.heap.size ∧ W'.cell? ⟨g, 4, none⟩ = some (.string ⟨#[105, 101, 115]⟩))) := by
    refine (Read_any _ w hM).mono ?_
    rintro e w' ⟨b, h⟩
    have hk : affR (⟨#[83, 70, 88, 32, 65, 32, 89, 32, 49, 10, 83, 70, 88, 32, 65, 32, 121, 32, 105, 101, 115, 32, 91, 94, 97, 101, 105, 111, 117, 93, 121, 10]⟩ : ByteArray).data.toList = .ok wkF := wk_aff
    rw [hk] at h
    obtain ⟨B, P, hB, rfl, hF⟩ := h
    refine ⟨b, _, rfl, fun W bW => ?_⟩
    refine (Affixes_any (hF.below bW) (affR_sets wk_aff) (by decide)).mono ?_
    rintro e W' ⟨b2, v, rfl, hv⟩
    obtain ⟨ar, nr, cr, aa, na, ca, ac, cc, g, cap, rfl, -, k1, k2⟩ := wk_ax hv
    exact ⟨b.trans ((bW.trans (b2.mono bW.size)).mono b.size), ar, nr, cr, aa, na, ca, ac, cc, g, cap, rfl, k1, k2⟩
  clear hM
  go_enter Tryz.func7, Tryz.ntmps7
  go_wp2_with (first
    | (go_at_call 17; refine (unhide HR).mono ?_; rintro e w1 ⟨b1, f, rfl, HA⟩; have HB1 := hide b1; clear b1)
    | (go_at_call 9; refine (unhide HA _ (by (repeat (first | exact Below.refl _ _ | refine Below.drew ?_ | refine Below.alloc ?_ (by first | (simp; done) | (simp; omega)) _ | refine Below.setCell ?_ (by first | (simp; done) | (simp; omega)) _)))).mono ?_; rintro e w2 ⟨b2, ar, nr, cr, aa, na, ca, ac, cc, g, cap, rfl, hg, hc⟩; have HB2 := hide b2; clear b2))
  go_ret
  exact ⟨rfl, (unhide HB2).alloc (unhide HB2).size _⟩
set_option maxRecDepth 100000 in
set_option maxHeartbeats 4000000 in
theorem equal_zero (w : World) : Calls Tryz.prog 8 #[.agg #[.int .i64 0, .string ⟨#[]⟩, .string ⟨#[]⟩, .int .u16 0, .int .u16 0, .int .u16 0, .int .u16 0, .int .u16 0, .int .i64 0, .slice none 0 0, .slice none 0 0, .slice none 0 0, .slice none 0 0], .agg #[.int .i64 0, .string ⟨#[]⟩, .string ⟨#[]⟩, .int .u16 0, .int .u16 0, .int .u16 0, .int .u16 0, .int .u16 0, .int .i64 0, .slice none 0 0, .slice none 0 0, .slice none 0 0, .slice none 0 0]] w fun e w' => e = .returned (.bool true) ∧ Below w.heap.size w w' := by
  have HE := fun W => eq55 W 0 0 0 0 0 0 0 0 0 0
  simp only [and_self, decide_true] at HE
  go_enter Tryz.func8, Tryz.ntmps8
  go_wp2_with (fail)
  go_loop [81] (fun s => s = .int .i64 0) (fun _ => 0)
  case atStart => rfl
  case round =>
    subst hrel
    go_wp2_with (fail)
    go_loop [99] (fun s => s = .int .i64 0) (fun _ => 0)
    case atStart => rfl
    case round =>
      subst hrel
      go_wp2_with (fail)
      go_loop [119] (fun s => s = .int .i64 0) (fun _ => 0)
      case atStart => rfl
      case round =>
        subst hrel
        go_wp2_with (fail)
        go_loop [137] (fun s => s = .int .i64 0) (fun _ => 0)
        case atStart => rfl
        case round =>
          subst hrel
          go_wp2_with (fail)
          go_ret
          exact ⟨rfl, by (repeat (first | exact Below.refl _ _ | refine Below.drew ?_ | refine Below.alloc ?_ (by first | (simp; done) | (simp; omega)) _ | refine Below.setCell ?_ (by first | (simp; done) | (simp; omega)) _))⟩
end Af
end Go.Proofs.YtkefjaifaonlbaaGreatDoor
/- The walk of AffNone. -/
namespace Go.Proofs.YtkefjaifaonlbaaGreatDoor
open Go.RowKit
namespace Af
open RowB
set_option maxRecDepth 100000 in
set_option maxHeartbeats 4000000 in
theorem none_walk (s : ByteArray) (v : Value) (L : List Int) (w : World) (hF : So.FArg w v L) (hM : Mx w.heap.size w) :
    Calls Tryz.prog 3 #[.string s, v] w fun e w' => e = .returned (.bool true) ∧ Below w.heap.size w w' := by
  obtain ⟨ao, cap, rfl, hcp, hm, _, hcell⟩ := hF
  have HFl := hide (nil_flags s w)
  have HWr := hide (nil_write (.slice ao L.length cap) w)
  have HCl : Hid (∀ (x : Value) (W : World), Calls Tryz.prog 6 #[.pointer none, x] W fun e w' => e = .returned (.tuple #[.agg #[.int .u16 0, .int .i64 0, .bool false, .int .i64 0, .int .i64 0], .bool false]) ∧ Below W.heap.size W w') := fun x W => nil_class x W
  have HAx : Hid (∀ (W : World), Calls Tryz.prog 9 #[.pointer none] W fun e w' => e = .returned (.agg #[.int .i64 0, .string ⟨#[]⟩, .string ⟨#[]⟩, .int .u16 0, .int .u16 0, .int .u16 0, .int .u16 0, .int .u16 0, .int .i64 0, .slice none 0 0, .slice none 0 0, .slice none 0 0, .slice none 0 0]) ∧ Below W.heap.size W w') := fun W => nil_affixes W
  have HEq := hide (fun W => equal_zero W)
  have HWk : Hid (∀ W, Below w.heap.size w W → Calls Tryz.prog 7 #[] W fun e w' => e = .returned (.bool true) ∧ Below W.heap.size W w') := fun W b => wakes_any W (by obtain ⟨m1, m2⟩ := hM.low b; exact ⟨Nat.lt_of_lt_of_le m1 b.size, m2⟩)
  have HC := hide hcell
  clear hM hcell
  unfold maxLen at hm
  generalize hnn : L.length = n at *
  have HN := hide hnn
  clear hnn
  go_enter Tryz.func3, Tryz.ntmps3
  go_wp2_with (first
    | (go_at_call 4; refine (unhide HFl).mono ?_; rintro e w1 ⟨rfl, hw1⟩; obtain rfl := hw1.symm)
    | (go_at_call 5; refine (unhide HWr).mono ?_; rintro e w2 ⟨rfl, hw2⟩; obtain rfl := hw2.symm))
  go_loopw [28] (fun s28 wr => ∃ k : Nat, s28 = .int .i64 k ∧ k ≤ n ∧ Hid (Below w.heap.size w wr)) (fun s28 _ => n - (intOf s28).toNat)
  case atStart => exact ⟨0, rfl, Nat.zero_le _, Below.refl _ _⟩
  case round =>
    obtain ⟨k, rfl, hk, HB⟩ := hrel
    by_cases hlt : k < n
    · have hltz : (k : Int) < (n : Int) := by omega
      obtain ⟨y, hy⟩ : ∃ y, L[k]? = some y := ⟨_, List.getElem?_eq_getElem (by rw [unhide HN]; exact hlt)⟩
      obtain ⟨g, off, rfl, hg, hcc⟩ := unhide HC (by omega)
      have hcy := ((unhide HB).cell (p := ⟨g, off + k, none⟩) hg).trans (hcc k y hy)
      clear hcc hy
      have hgr := Nat.lt_of_lt_of_le hg (unhide HB).size
      go_wp2_with (go_at_call 6; refine (unhide HCl _ _).mono ?_; rintro e w3 ⟨rfl, b3⟩; have HB3 := hide b3; clear b3)
      go_roundw
      case rel => exact ⟨k + 1, by go_num, by omega, by
        have h := unhide HB3
        have h2 := unhide HB
        refine Below.alloc ?_ ?_ _
        · exact h2.trans (h.mono h2.size)
        · exact Nat.le_trans h2.size h.size⟩
      all_goals first
        | (simp [intOf]; omega)
        | skip
    · obtain rfl : k = n := by omega
      have hltz : ¬ (k : Int) < (k : Int) := by omega
      go_wp2_with (first
        | (go_at_call 7; refine (unhide HWk _ (unhide HB)).mono ?_; rintro e w4 ⟨rfl, b4⟩; have HB4 := hide ((unhide HB).trans (b4.mono (unhide HB).size)); clear b4)
        | (go_at_call 9; refine (unhide HAx _).mono ?_; rintro e w5 ⟨rfl, b5⟩; have HB5 := hide ((unhide HB4).trans (b5.mono (unhide HB4).size)); clear b5)
        | (go_at_call 8; refine (unhide HEq _).mono ?_; rintro e w6 ⟨rfl, b6⟩; have HB6 := hide ((unhide HB5).trans (b6.mono (unhide HB5).size)); clear b6))
      go_ret
      exact ⟨rfl, unhide HB6⟩
end Af
end Go.Proofs.YtkefjaifaonlbaaGreatDoor
/- What it is that a list of flags that came in lies in memory, and how big it is; no walk. -/
namespace Go.Proofs.YtkefjaifaonlbaaGreatDoor
open Go.RowKit
namespace ArgF

theorem laidOut : laidOutB Tryz.prog = true := by kernel_rfl
section
variable {H : Type} {enc : TypeId × Value → H} {w : World}
/-- a flag's number as its datum -/
def datF (x : Int) : DataW H := .lit (.int .u16 x)
theorem el_flag (n : Nat) (u : Value) (d : DataW H) (p : List MemPlace) (h : DataW.trod enc Tryz.prog w 0 (fun _ => true) true n 31 [u] = some (d, p)) : ∃ x : Int, u = .int .u16 x ∧ d = datF x ∧ 0 ≤ x ∧ x ≤ 65535 := by
  obtain ⟨s, h1, h2, h3⟩ := DataW.trod_int Tryz.underlying31 h
  simp at h1 h2
  have hb := bounds_u16 h3
  exact ⟨s, h1, h2.1, hb.1, hb.2⟩
/-- a flag with its bounds -/
def Fl : Type := { x : Int // 0 ≤ x ∧ x ≤ 65535 }
theorem open_flags {fuel : Nat} {v : Value} {d : DataW H} {p : List MemPlace} (hf : DataW.trod enc Tryz.prog w 0 (fun _ => true) true fuel 22 [v] = some (d, p)) :
    ∃ L S : List Int, So.FArg w v L ∧ (∀ x ∈ L, 0 ≤ x ∧ x ≤ 65535) ∧ ((d = .nil ∧ L = []) ∨ d = .slice (L.map datF) (S.map datF)) := by
  rcases Go.Deep.open_slice1 Tryz.underlying22 (by kernel_rfl) hf with ⟨hcs, hx⟩ | ⟨x, len', cap', m, n, V, D, Pl, hcs, _, hl, hm, hmm, hx, hV⟩
  · simp at hcs
    subst hcs
    simp only [Prod.mk.injEq] at hx
    exact ⟨[], [], ⟨none, 0, rfl, Nat.le_refl _, Nat.zero_le _, fun _ => rfl, fun h => absurd h (by simp)⟩, fun x hx => (by cases hx), .inl ⟨hx.1, rfl⟩⟩
  · have hv : v = .slice (some x) len' cap' := by simpa using hcs
    subst hv
    have hm2 : m = cap' := by simpa using hmm
    subst hm2
    have hX : ∀ i, i < m → ∃ y : Int, V i = .int .u16 y ∧ D i = datF y ∧ 0 ≤ y ∧ y ≤ 65535 := fun i hi => el_flag n (V i) (D i) (Pl i) (hV i hi).2
    have hss : ∀ j, j ≤ m → ∃ ss : List Int, ss.length = j ∧ ∀ (i : Nat) y, ss[i]? = some y → V i = .int .u16 y ∧ D i = datF y ∧ 0 ≤ y ∧ y ≤ 65535 := by
      intro j
      induction j with
      | zero => intro _; exact ⟨[], rfl, fun i y h => by simp at h⟩
      | succ j ih =>
        intro hj
        obtain ⟨ss, h1, h2⟩ := ih (by omega)
        obtain ⟨y, hy⟩ := hX j (by omega)
        refine ⟨ss ++ [y], by simp [h1], fun i z hz => ?_⟩
        by_cases hi : i < ss.length
        · rw [List.getElem?_append_left hi] at hz
          exact h2 i z hz
        · have : i = j := by
            have := (List.getElem?_eq_some_iff.1 hz).1
            simp at this
            omega
          subst this
          rw [List.getElem?_append_right (by omega)] at hz
          simp [h1] at hz
          subst hz
          exact hy
    obtain ⟨ss, h1, h2⟩ := hss m (Nat.le_refl _)
    refine ⟨ss.take len', ss.drop len', ?_, fun y hy => ?_, .inr ?_⟩
    · have hl2 : (ss.take len').length = len' := by simp; omega
      refine ⟨some x, m, by rw [hl2], by omega, hm, fun h => (by cases h), fun h0 => ?_⟩
      rw [hl2] at h0
      have h00 : w.cell? (x.add 0) = some (.int .u16 ss[0]) := by
        have := (h2 0 ss[0] (List.getElem?_eq_getElem (by omega))).1
        rw [← this]
        exact (hV 0 (by omega)).1
      obtain ⟨b, off, spot⟩ := x
      have hspot : spot = none := by simpa [Addr.add] using World.cell?_spot h00
      subst hspot
      refine ⟨b, off, rfl, World.block_lt_of_cell? w _ h00, fun j y hy => ?_⟩
      rw [List.getElem?_take] at hy
      split at hy
      · rename_i hjl
        have := (hV j (by omega)).1
        rw [(h2 j y hy).1, Go.WideShapes.add_plain] at this
        exact this
      · cases hy
    · obtain ⟨i, hi, e⟩ := List.getElem_of_mem (List.mem_of_mem_take hy)
      exact (h2 i y (by rw [List.getElem?_eq_getElem hi, e])).2.2
    · simp only [Prod.mk.injEq] at hx
      rw [hx.1]
      congr 1
      · apply List.ext_getElem?
        intro i
        by_cases hi : i < len'
        · have hi2 : i < ss.length := by omega
          simp only [List.getElem?_map, List.getElem?_range hi, List.getElem?_take, if_pos hi, List.getElem?_eq_getElem hi2, Option.map_some]
          rw [(h2 i _ (List.getElem?_eq_getElem hi2)).2.1]
        · simp [hi]
          omega
      · apply List.ext_getElem?
        intro i
        by_cases hi : i < m - len'
        · have hi2 : len' + i < ss.length := by omega
          simp only [List.getElem?_map, List.getElem?_range hi, List.getElem?_drop, List.getElem?_eq_getElem hi2, Option.map_some]
          rw [(h2 _ _ (List.getElem?_eq_getElem hi2)).2.1]
        · rw [List.getElem?_eq_none (by rw [List.length_map, List.length_range]; omega), List.getElem?_eq_none (by rw [List.length_map, List.length_drop, h1]; omega)]
/-- how big a list of flags is -/
theorem bulk_flags (L : List Int) : L.length ≤ Rows.uptoBulkAll (H := H) (L.map datF) := by
  induction L with
  | nil => simp
  | cons x t ih =>
    simp only [List.map_cons, Rows.uptoBulkAll, datF, Rows.uptoBulk, List.length_cons]
    omega
theorem bulk_arg {d : DataW H} {L S : List Int} (hd : (d = .nil ∧ L = []) ∨ d = .slice (L.map datF) (S.map datF)) : L.length ≤ Rows.uptoBulk d := by
  rcases hd with ⟨_, rfl⟩ | rfl
  · simp
  · have := bulk_flags (H := H) L
    simp only [Rows.uptoBulk]
    omega
end
end ArgF
end Go.Proofs.YtkefjaifaonlbaaGreatDoor
/- A world for the witness: the settled one, the listed tables laid as their initialisers lay them. -/
namespace Go.Proofs.YtkefjaifaonlbaaGreatDoor.LaidA
open Go.ChangeShapes Go.WideShapes Go.ChangeAt Go.RowKit

theorem own : ownKnob Tryz.prog.godebug = none := by kernel_rfl
def put (cs : Array Value) : Obj → Obj
  | .cells _ t frozen => .cells cs t frozen
  | o => o
def tabs (W : World) : World := { W with heap := (((((W.heap.modify 4 (put #[.int .u8 0, .int .u8 1, .int .u8 28, .int .u8 2, .int .u8 29, .int .u8 14, .int .u8 24, .int .u8 3, .int .u8 30, .int .u8 22, .int .u8 20, .int .u8 15, .int .u8 25, .int .u8 17, .int .u8 4, .int .u8 8, .int .u8 31, .int .u8 27, .int .u8 13, .int .u8 23, .int .u8 21, .int .u8 19, .int .u8 16, .int .u8 7, .int .u8 26, .int .u8 12, .int .u8 18, .int .u8 6, .int .u8 11, .int .u8 5, .int .u8 10, .int .u8 9])).modify 5 (put #[.int .u8 0, .int .u8 1, .int .u8 56, .int .u8 2, .int .u8 57, .int .u8 49, .int .u8 28, .int .u8 3, .int .u8 61, .int .u8 58, .int .u8 42, .int .u8 50, .int .u8 38, .int .u8 29, .int .u8 17, .int .u8 4, .int .u8 62, .int .u8 47, .int .u8 59, .int .u8 36, .int .u8 45, .int .u8 43, .int .u8 51, .int .u8 22, .int .u8 53, .int .u8 39, .int .u8 33, .int .u8 30, .int .u8 24, .int .u8 18, .int .u8 12, .int .u8 5, .int .u8 63, .int .u8 55, .int .u8 48, .int .u8 27, .int .u8 60, .int .u8 41, .int .u8 37, .int .u8 16, .int .u8 46, .int .u8 35, .int .u8 44, .int .u8 21, .int .u8 52, .int .u8 32, .int .u8 23, .int .u8 11, .int .u8 54, .int .u8 26, .int .u8 40, .int .u8 15, .int .u8 34, .int .u8 20, .int .u8 31, .int .u8 10, .int .u8 25, .int .u8 14, .int .u8 19, .int .u8 9, .int .u8 13, .int .u8 8, .int .u8 7, .int .u8 6])).modify 1 (put #[.int .u64 1, .int .u64 10, .int .u64 100, .int .u64 1000, .int .u64 10000, .int .u64 100000, .int .u64 1000000, .int .u64 10000000, .int .u64 100000000, .int .u64 1000000000, .int .u64 10000000000, .int .u64 100000000000, .int .u64 1000000000000, .int .u64 10000000000000, .int .u64 100000000000000, .int .u64 1000000000000000, .int .u64 10000000000000000, .int .u64 100000000000000000, .int .u64 1000000000000000000, .int .u64 10000000000000000000])).modify 3 (put #[.int .u8 128, .int .u8 191, .int .u8 160, .int .u8 191, .int .u8 128, .int .u8 159, .int .u8 144, .int .u8 191, .int .u8 128, .int .u8 143, .int .u8 0, .int .u8 0, .int .u8 0, .int .u8 0, .int .u8 0, .int .u8 0, .int .u8 0, .int .u8 0, .int .u8 0, .int .u8 0, .int .u8 0, .int .u8 0, .int .u8 0, .int .u8 0, .int .u8 0, .int .u8 0, .int .u8 0, .int .u8 0, .int .u8 0, .int .u8 0, .int .u8 0, .int .u8 0])).modify 2 (put #[.int .u8 240, .int .u8 240, .int .u8 240, .int .u8 240, .int .u8 240, .int .u8 240, .int .u8 240, .int .u8 240, .int .u8 240, .int .u8 240, .int .u8 240, .int .u8 240, .int .u8 240, .int .u8 240, .int .u8 240, .int .u8 240, .int .u8 240, .int .u8 240, .int .u8 240, .int .u8 240, .int .u8 240, .int .u8 240, .int .u8 240, .int .u8 240, .int .u8 240, .int .u8 240, .int .u8 240, .int .u8 240, .int .u8 240, .int .u8 240, .int .u8 240, .int .u8 240, .int .u8 240, .int .u8 240, .int .u8 240, .int .u8 240, .int .u8 240, .int .u8 240, .int .u8 240, .int .u8 240, .int .u8 240, .int .u8 240, .int .u8 240, .int .u8 240, .int .u8 240, .int .u8 240, .int .u8 240, .int .u8 240, .int .u8 240, .int .u8 240, .int .u8 240, .int .u8 240, .int .u8 240, .int .u8 240, .int .u8 240, .int .u8 240, .int .u8 240, .int .u8 240, .int .u8 240, .int .u8 240, .int .u8 240, .int .u8 240, .int .u8 240, .int .u8 240, .int .u8 240, .int .u8 240, .int .u8 240, .int .u8 240, .int .u8 240, .int .u8 240, .int .u8 240, .int .u8 240, .int .u8 240, .int .u8 240, .int .u8 240, .int .u8 240, .int .u8 240, .int .u8 240, .int .u8 240, .int .u8 240, .int .u8 240, .int .u8 240, .int .u8 240, .int .u8 240, .int .u8 240, .int .u8 240, .int .u8 240, .int .u8 240, .int .u8 240, .int .u8 240, .int .u8 240, .int .u8 240, .int .u8 240, .int .u8 240, .int .u8 240, .int .u8 240, .int .u8 240, .int .u8 240, .int .u8 240, .int .u8 240, .int .u8 240, .int .u8 240, .int .u8 240, .int .u8 240, .int .u8 240, .int .u8 240, .int .u8 240, .int .u8 240, .int .u8 240, .int .u8 240, .int .u8 240, .int .u8 240, .int .u8 240, .int .u8 240, .int .u8 240, .int .u8 240, .int .u8 240, .int .u8 240, .int .u8 240, .int .u8 240, .int .u8 240, .int .u8 240, .int .u8 240, .int .u8 240, .int .u8 240, .int .u8 240, .int .u8 240, .int .u8 240, .int .u8 241, .int .u8 241, .int .u8 241, .int .u8 241, .int .u8 241, .int .u8 241, .int .u8 241, .int .u8 241, .int .u8 241, .int .u8 241, .int .u8 241, .int .u8 241, .int .u8 241, .int .u8 241, .int .u8 241, .int .u8 241, .int .u8 241, .int .u8 241, .int .u8 241, .int .u8 241, .int .u8 241, .int .u8 241, .int .u8 241, .int .u8 241, .int .u8 241, .int .u8 241, .int .u8 241, .int .u8 241, .int .u8 241, .int .u8 241, .int .u8 241, .int .u8 241, .int .u8 241, .int .u8 241, .int .u8 241, .int .u8 241, .int .u8 241, .int .u8 241, .int .u8 241, .int .u8 241, .int .u8 241, .int .u8 241, .int .u8 241, .int .u8 241, .int .u8 241, .int .u8 241, .int .u8 241, .int .u8 241, .int .u8 241, .int .u8 241, .int .u8 241, .int .u8 241, .int .u8 241, .int .u8 241, .int .u8 241, .int .u8 241, .int .u8 241, .int .u8 241, .int .u8 241, .int .u8 241, .int .u8 241, .int .u8 241, .int .u8 241, .int .u8 241, .int .u8 241, .int .u8 241, .int .u8 2, .int .u8 2, .int .u8 2, .int .u8 2, .int .u8 2, .int .u8 2, .int .u8 2, .int .u8 2, .int .u8 2, .int .u8 2, .int .u8 2, .int .u8 2, .int .u8 2, .int .u8 2, .int .u8 2, .int .u8 2, .int .u8 2, .int .u8 2, .int .u8 2, .int .u8 2, .int .u8 2, .int .u8 2, .int .u8 2, .int .u8 2, .int .u8 2, .int .u8 2, .int .u8 2, .int .u8 2, .int .u8 2, .int .u8 2, .int .u8 19, .int .u8 3, .int .u8 3, .int .u8 3, .int .u8 3, .int .u8 3, .int .u8 3, .int .u8 3, .int .u8 3, .int .u8 3, .int .u8 3, .int .u8 3, .int .u8 3, .int .u8 35, .int .u8 3, .int .u8 3, .int .u8 52, .int .u8 4, .int .u8 4, .int .u8 4, .int .u8 68, .int .u8 241, .int .u8 241, .int .u8 241, .int .u8 241, .int .u8 241, .int .u8 241, .int .u8 241, .int .u8 241, .int .u8 241, .int .u8 241, .int .u8 241])) }
end Go.Proofs.YtkefjaifaonlbaaGreatDoor.LaidA
