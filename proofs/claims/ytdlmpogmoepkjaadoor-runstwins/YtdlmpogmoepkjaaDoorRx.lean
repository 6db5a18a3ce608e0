/- Layer 5: Made, Break, Size, Read; the failures' numbers. -/
import Derived.Test.YtdlmpogmoepkjaaDoorRv
import Derived.Test.YtdlmpogmoepkjaaDoorLeB
import Derived.Laws.IdiomStrings
import Derived.Lib.BufferRead
namespace Go.Proofs.YtdlmpogmoepkjaaDoor
open Go.RowKit
namespace Rs
/-- the failures, in memory below block number B -/
structure Env (w : World) (E : Nat → Addr) (B : Nat) : Prop where
  g : Gs w E (fun b => B ≤ b)
  op : w.cell? ⟨2, 0, none⟩ = some (er E 5)
  rn : w.cell? ⟨3, 0, none⟩ = some (er E 6)
  ap : Ap w E codes
  lt : ∀ i ∈ codes, (E i).block < B
  nb : 8 ≤ B
theorem Env.below {w w' : World} {E : Nat → Addr} {B : Nat} (h : Env w E B) (hb : Below B w w') : Env w' E B := by
  have hc : ∀ g, g < 8 → w'.cell? ⟨g, 0, none⟩ = w.cell? ⟨g, 0, none⟩ := fun g hg => hb.cell (p := ⟨g, 0, none⟩) (by have := h.nb; show g < B; omega)
  refine ⟨⟨?_, ?_, ?_, ?_, ?_, ?_, Nat.le_trans h.g.sz hb.size, h.g.hi⟩, ?_, ?_, ⟨h.ap.ne, fun i hi => ?_⟩, h.lt, h.nb⟩
  · rw [hc _ (by decide)]; exact h.g.nil
  · rw [hc _ (by decide)]; exact h.g.noRun
  · rw [hc _ (by decide)]; exact h.g.shut
  · rw [hc _ (by decide)]; exact h.g.full
  · rw [hc _ (by decide)]; exact h.g.spent
  · rw [hc _ (by decide)]; exact h.g.broken
  · rw [hc _ (by decide)]; exact h.op
  · rw [hc _ (by decide)]; exact h.rn
  · rw [hb.block _ (h.lt i hi)]; exact h.ap.at_ i hi
theorem env_of_laid {W : World} (h : laidMetH Tryd.prog listed W) : ∃ E, Env W E W.heap.size := by
  obtain ⟨E, g, ap, c5, c6⟩ := gs_of_laid h
  refine ⟨E, g.sub fun b hb => Nat.le_trans g.sz hb, c5, c6, ap, fun i hi => ?_, g.sz⟩
  obtain ⟨c, t, hc⟩ := ap.at_ i hi
  exact (Array.getElem?_eq_some_iff.1 hc).1
theorem Env.gs {w : World} {E : Nat → Addr} {B : Nat} (h : Env w E B) {F : Nat → Prop} (hF : ∀ b, F b → B ≤ b) : Gs w E F := h.g.sub fun b hb => Nat.le_trans h.nb (hF b hb)
theorem made_nil (w : World) : Calls Tryd.prog 16 #[.pointer none] w fun e w' => e = .returned (.int .i64 0) ∧ w' = w := by
  go_enter Tryd.func16, Tryd.ntmps16
  go_wp2
  go_ret
  exact ⟨rfl, rfl⟩
theorem made_any {w : World} {sb : Nat} {m : Sto} {F : Nat → Prop} (h : At w sb m F) : Calls Tryd.prog 16 #[.pointer (some ⟨sb, 0, none⟩)] w fun e w' => e = .returned (.int .i64 m.made) ∧ w' = w := by
  obtain ⟨mv, hs, _⟩ := h.map
  obtain ⟨_, _, c2, _, _, _, fz⟩ := cells_sto hs
  clear h hs
  go_enter Tryd.func16, Tryd.ntmps16
  go_wp2
  go_ret
  exact ⟨rfl, rfl⟩
theorem break_nil (w : World) (n : Int) : Calls Tryd.prog 23 #[.pointer none, .int .i64 n] w fun e w' => e = .returned (.tuple #[]) ∧ w' = w := by
  go_enter Tryd.func23, Tryd.ntmps23
  go_wp2
  go_end0
  exact ⟨rfl, rfl⟩
def Sto.brk (m : Sto) (n : Int) : Sto := { m with ahead := n.toNat }
theorem brk_ok {m : Sto} (h : m.Ok) {n : Int} (hn : n ≤ 9223372036854775807) : (m.brk n).Ok := ⟨h.cap, h.made, h.used, h.peak, h.peakle, by simp only [Sto.brk]; omega, h.sorted, h.nums⟩
theorem break_any {w : World} {sb : Nat} {m : Sto} {F : Nat → Prop} (h : At w sb m F) (n : Int) (hn : n ≤ 9223372036854775807) : Calls Tryd.prog 23 #[.pointer (some ⟨sb, 0, none⟩), .int .i64 n] w fun e w' => e = .returned (.tuple #[]) ∧ Res F w sb (m.brk n) w' := by
  obtain ⟨mv, hs, _⟩ := h.map
  obtain ⟨_, _, _, _, _, c5, fz⟩ := cells_sto hs
  have HA : Hid (∀ x : Int, x = max n 0 → Res F w sb (m.brk n) (w.setCell ⟨sb, 5, none⟩ (.int .i64 x))) := fun x hx =>
    (h.set (m' := m.brk n) 5 (.int .i64 x) rfl (brk_ok h.ok hn) (fun mv => by
      have e : ((n.toNat : Nat) : Int) = x := by omega
      simp [stoC, Sto.brk, e])).res (h.chg 5 _)
  clear h hs
  go_enter Tryd.func23, Tryd.ntmps23
  go_wp2
  all_goals
    go_end0
    exact ⟨rfl, unhide HA _ (by omega)⟩
def siz (m : Sto) (k : Int) : Int × Nat := match look m.runs k with
  | none => (0, 3)
  | some r => (r.txt.length, 0)
theorem size_nil (w : World) (k : Int) {E : Nat → Addr} {F : Nat → Prop} (G : Gs w E F) : Calls Tryd.prog 21 #[.pointer none, .int .i64 k] w fun e w' => e = .returned (.tuple #[.int .i64 0, errV E 1]) ∧ Below w.heap.size w w' := by
  have HF := hide (find_nil w k G)
  clear G
  go_enter Tryd.func21, Tryd.ntmps21
  go_wp2_with (go_at_call 38; refine (unhide HF).mono ?_; rintro e w1 ⟨rfl, hb⟩; have HB := hide hb; clear hb)
  go_ret2
  exact ⟨rfl, (unhide HB).trans (((Below.refl _ _).alloc (Nat.le_refl _) _).mono (unhide HB).size)⟩
theorem size_any {w : World} {sb : Nat} {m : Sto} {F : Nat → Prop} {E : Nat → Addr} {k : Int} (h : At w sb m F) (G : Gs w E F) (hk1 : -9223372036854775808 ≤ k) (hk2 : k ≤ 9223372036854775807) :
    Calls Tryd.prog 21 #[.pointer (some ⟨sb, 0, none⟩), .int .i64 k] w fun e w' => e = .returned (.tuple #[.int .i64 (siz m k).1, errV E (siz m k).2]) ∧ Below w.heap.size w w' := by
  rcases hl : look m.runs k with _ | r
  · have HR : siz m k = (0, 3) := by unfold siz; rw [hl]
    have HF := hide (find_none h G hk1 hk2 hl)
    rw [HR]
    clear h G hl HR
    go_enter Tryd.func21, Tryd.ntmps21
    go_wp2_with (go_at_call 38; refine (unhide HF).mono ?_; rintro e w1 ⟨rfl, hb⟩; have HB := hide hb; clear hb)
    go_ret2
    exact ⟨rfl, (unhide HB).trans (((Below.refl _ _).alloc (Nat.le_refl _) _).mono (unhide HB).size)⟩
  · have HR : siz m k = ((r.txt.length : Int), 0) := by unfold siz; rw [hl]
    obtain ⟨bm, sl, fl, hin⟩ : ∃ bm sl fl, In w sb m F bm sl fl := by
      rcases h.open with ⟨_, he⟩ | hx
      · have := (look_mem hl).1
        rw [he] at this
        cases this
      · exact hx
    have hf := find_some hin hk1 hk2 hl
    obtain ⟨a, c, ev⟩ := own_slice (hin.rows.own r (look_mem hl).1)
    rw [ev] at hf
    have HF := hide hf
    rw [HR]
    clear h G hl hf ev hin HR
    go_enter Tryd.func21, Tryd.ntmps21
    go_wp2_with (go_at_call 38; refine (unhide HF).mono ?_; rintro e w1 ⟨rfl, hb⟩; have HB := hide hb; clear hb)
    go_ret2
    exact ⟨rfl, (unhide HB).trans (((Below.refl _ _).alloc (Nat.le_refl _) _).mono (unhide HB).size)⟩
/-! the number of a failure -/
theorem eq_other {w : World} {E : Nat → Addr} {l : List Nat} (h : Ap w E l) {i j : Nat} (hi : i ∈ l) (hj : j ∈ l) (hij : i ≠ j) : (binOp .eql 49 (er E i) (er E j)).run Tryd.prog w = .ok (.bool false) w := by
  obtain ⟨i0, h0, hc⟩ := Option.map_eq_some_iff.1 (show (Tryd.prog.info? 106).map (·.comparable) = some true by kernel_rfl)
  obtain ⟨j0, hj0, hz⟩ := Option.map_eq_some_iff.1 (show (Tryd.prog.info? 122).map (·.size) = some 1 by kernel_rfl)
  obtain ⟨c1, t1, b1⟩ := h.at_ i hi
  obtain ⟨c2, t2, b2⟩ := h.at_ j hj
  exact run_eql_iface_ptr_other w Tryd.underlying49 Tryd.underlying106 h0 hc hj0 (by omega) (h.ne i hi j hj hij) b1 b2
theorem eq_same {w : World} (a : Addr) : (binOp .eql 49 (.iface 106 (.pointer (some a))) (.iface 106 (.pointer (some a)))).run Tryd.prog w = .ok (.bool true) w := by
  obtain ⟨i, hi, hc⟩ := Option.map_eq_some_iff.1 (show (Tryd.prog.info? 106).map (·.comparable) = some true by kernel_rfl)
  obtain ⟨j, hj, _⟩ := Option.map_eq_some_iff.1 (show (Tryd.prog.info? 122).map (·.size) = some 1 by kernel_rfl)
  exact run_eql_iface_ptr_same w a Tryd.underlying49 Tryd.underlying106 hi hc hj
theorem code_1 {w : World} {E : Nat → Addr} {B : Nat} (V : Env w E B) : Calls Tryd.prog 24 #[er E 1] w fun e w' => e = .returned (.int .i64 1) ∧ w' = w := by
  have g1 := V.g.nil
  have hs := eq_same (w := w) (E 1)
  clear V
  go_enter Tryd.func24, Tryd.ntmps24
  go_wp2
  go_ret
  exact ⟨rfl, rfl⟩
theorem code_3 {w : World} {E : Nat → Addr} {B : Nat} (V : Env w E B) : Calls Tryd.prog 24 #[er E 3] w fun e w' => e = .returned (.int .i64 3) ∧ w' = w := by
  have g1 := V.g.nil
  have g3 := V.g.noRun
  have o1 := eq_other V.ap (i := 3) (j := 1) (by decide) (by decide) (by decide)
  have hs := eq_same (w := w) (E 3)
  clear V
  go_enter Tryd.func24, Tryd.ntmps24
  go_wp2
  go_ret
  exact ⟨rfl, rfl⟩
theorem code_4 {w : World} {E : Nat → Addr} {B : Nat} (V : Env w E B) : Calls Tryd.prog 24 #[er E 4] w fun e w' => e = .returned (.int .i64 4) ∧ w' = w := by
  have g1 := V.g.nil
  have g3 := V.g.noRun
  have g4 := V.g.shut
  have o1 := eq_other V.ap (i := 4) (j := 1) (by decide) (by decide) (by decide)
  have o3 := eq_other V.ap (i := 4) (j := 3) (by decide) (by decide) (by decide)
  have hs := eq_same (w := w) (E 4)
  clear V
  go_enter Tryd.func24, Tryd.ntmps24
  go_wp2
  go_ret
  exact ⟨rfl, rfl⟩
theorem code_5 {w : World} {E : Nat → Addr} {B : Nat} (V : Env w E B) : Calls Tryd.prog 24 #[er E 5] w fun e w' => e = .returned (.int .i64 5) ∧ w' = w := by
  have g1 := V.g.nil
  have g3 := V.g.noRun
  have g4 := V.g.shut
  have g5 := V.op
  have o1 := eq_other V.ap (i := 5) (j := 1) (by decide) (by decide) (by decide)
  have o3 := eq_other V.ap (i := 5) (j := 3) (by decide) (by decide) (by decide)
  have o4 := eq_other V.ap (i := 5) (j := 4) (by decide) (by decide) (by decide)
  have hs := eq_same (w := w) (E 5)
  clear V
  go_enter Tryd.func24, Tryd.ntmps24
  go_wp2
  go_ret
  exact ⟨rfl, rfl⟩
theorem code_6 {w : World} {E : Nat → Addr} {B : Nat} (V : Env w E B) : Calls Tryd.prog 24 #[er E 6] w fun e w' => e = .returned (.int .i64 6) ∧ w' = w := by
  have g1 := V.g.nil
  have g3 := V.g.noRun
  have g4 := V.g.shut
  have g5 := V.op
  have g6 := V.rn
  have o1 := eq_other V.ap (i := 6) (j := 1) (by decide) (by decide) (by decide)
  have o3 := eq_other V.ap (i := 6) (j := 3) (by decide) (by decide) (by decide)
  have o4 := eq_other V.ap (i := 6) (j := 4) (by decide) (by decide) (by decide)
  have o5 := eq_other V.ap (i := 6) (j := 5) (by decide) (by decide) (by decide)
  have hs := eq_same (w := w) (E 6)
  clear V
  go_enter Tryd.func24, Tryd.ntmps24
  go_wp2
  go_ret
  exact ⟨rfl, rfl⟩
theorem code_7 {w : World} {E : Nat → Addr} {B : Nat} (V : Env w E B) : Calls Tryd.prog 24 #[er E 7] w fun e w' => e = .returned (.int .i64 7) ∧ w' = w := by
  have g1 := V.g.nil
  have g3 := V.g.noRun
  have g4 := V.g.shut
  have g5 := V.op
  have g6 := V.rn
  have g7 := V.g.full
  have o1 := eq_other V.ap (i := 7) (j := 1) (by decide) (by decide) (by decide)
  have o3 := eq_other V.ap (i := 7) (j := 3) (by decide) (by decide) (by decide)
  have o4 := eq_other V.ap (i := 7) (j := 4) (by decide) (by decide) (by decide)
  have o5 := eq_other V.ap (i := 7) (j := 5) (by decide) (by decide) (by decide)
  have o6 := eq_other V.ap (i := 7) (j := 6) (by decide) (by decide) (by decide)
  have hs := eq_same (w := w) (E 7)
  clear V
  go_enter Tryd.func24, Tryd.ntmps24
  go_wp2
  go_ret
  exact ⟨rfl, rfl⟩
theorem code_8 {w : World} {E : Nat → Addr} {B : Nat} (V : Env w E B) : Calls Tryd.prog 24 #[er E 8] w fun e w' => e = .returned (.int .i64 8) ∧ w' = w := by
  have g1 := V.g.nil
  have g3 := V.g.noRun
  have g4 := V.g.shut
  have g5 := V.op
  have g6 := V.rn
  have g7 := V.g.full
  have g8 := V.g.spent
  have o1 := eq_other V.ap (i := 8) (j := 1) (by decide) (by decide) (by decide)
  have o3 := eq_other V.ap (i := 8) (j := 3) (by decide) (by decide) (by decide)
  have o4 := eq_other V.ap (i := 8) (j := 4) (by decide) (by decide) (by decide)
  have o5 := eq_other V.ap (i := 8) (j := 5) (by decide) (by decide) (by decide)
  have o6 := eq_other V.ap (i := 8) (j := 6) (by decide) (by decide) (by decide)
  have o7 := eq_other V.ap (i := 8) (j := 7) (by decide) (by decide) (by decide)
  have hs := eq_same (w := w) (E 8)
  clear V
  go_enter Tryd.func24, Tryd.ntmps24
  go_wp2
  go_ret
  exact ⟨rfl, rfl⟩
theorem code_9 {w : World} {E : Nat → Addr} {B : Nat} (V : Env w E B) : Calls Tryd.prog 24 #[er E 9] w fun e w' => e = .returned (.int .i64 9) ∧ w' = w := by
  have g1 := V.g.nil
  have g3 := V.g.noRun
  have g4 := V.g.shut
  have g5 := V.op
  have g6 := V.rn
  have g7 := V.g.full
  have g8 := V.g.spent
  have g9 := V.g.broken
  have o1 := eq_other V.ap (i := 9) (j := 1) (by decide) (by decide) (by decide)
  have o3 := eq_other V.ap (i := 9) (j := 3) (by decide) (by decide) (by decide)
  have o4 := eq_other V.ap (i := 9) (j := 4) (by decide) (by decide) (by decide)
  have o5 := eq_other V.ap (i := 9) (j := 5) (by decide) (by decide) (by decide)
  have o6 := eq_other V.ap (i := 9) (j := 6) (by decide) (by decide) (by decide)
  have o7 := eq_other V.ap (i := 9) (j := 7) (by decide) (by decide) (by decide)
  have o8 := eq_other V.ap (i := 9) (j := 8) (by decide) (by decide) (by decide)
  have hs := eq_same (w := w) (E 9)
  clear V
  go_enter Tryd.func24, Tryd.ntmps24
  go_wp2
  go_ret
  exact ⟨rfl, rfl⟩
theorem code_0 (w : World) : Calls Tryd.prog 24 #[.nilIface] w fun e w' => e = .returned (.int .i64 0) ∧ w' = w := by
  go_enter Tryd.func24, Tryd.ntmps24
  go_wp2
  go_ret
  exact ⟨rfl, rfl⟩
theorem code_any {w : World} {E : Nat → Addr} {B : Nat} (V : Env w E B) {c : Nat} (hc : c = 0 ∨ c ∈ codes) : Calls Tryd.prog 24 #[errV E c] w fun e w' => e = .returned (.int .i64 c) ∧ w' = w := by
  rcases hc with rfl | hc
  · exact code_0 w
  · simp only [codes, List.mem_cons, List.not_mem_nil, or_false] at hc
    rcases hc with rfl | rfl | rfl | rfl | rfl | rfl | rfl | rfl
    · exact code_1 V
    · exact code_3 V
    · exact code_4 V
    · exact code_5 V
    · exact code_6 V
    · exact code_7 V
    · exact code_8 V
    · exact code_9 V
end Rs
end Go.Proofs.YtdlmpogmoepkjaaDoor
