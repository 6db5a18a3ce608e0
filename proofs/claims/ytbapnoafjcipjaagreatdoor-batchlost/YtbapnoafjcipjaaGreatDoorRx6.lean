/- Layer 5: Made, Break, Size, Read; the failures' numbers. -/
import Derived.Test.YtbapnoafjcipjaaGreatDoorRv
import Derived.Test.YtbapnoafjcipjaaGreatDoorLe9
import Derived.Laws.IdiomStrings
import Derived.Lib.BufferRead
namespace Go.Proofs.YtbapnoafjcipjaaGreatDoor
open Go.RowKit
namespace Rs
def codesD : List Nat := [1, 2, 3, 4, 5, 7, 8, 9, 10, 13]
/-- the failures, in memory below block number B -/
structure Env (w : World) (E : Nat → Addr) (B : Nat) : Prop where
  g : Gs w E (fun b => B ≤ b)
  op : w.cell? ⟨5, 0, none⟩ = some (er E 5)
  li : w.cell? ⟨2, 0, none⟩ = some (er E 2)
  rc : w.cell? ⟨3, 0, none⟩ = some (er E 10)
  cl : w.cell? ⟨0, 0, none⟩ = some (er E 13)
  ap : Ap w E codesD
  lt : ∀ i ∈ codesD, (E i).block < B
  nb : 12 ≤ B
theorem Env.below {w w' : World} {E : Nat → Addr} {B : Nat} (h : Env w E B) (hb : Below B w w') : Env w' E B := by
  have hc : ∀ g, g < 12 → w'.cell? ⟨g, 0, none⟩ = w.cell? ⟨g, 0, none⟩ := fun g hg => hb.cell (p := ⟨g, 0, none⟩) (by have := h.nb; show g < B; omega)
  refine ⟨⟨?_, ?_, ?_, ?_, ?_, ?_, Nat.le_trans h.g.sz hb.size, h.g.hi⟩, ?_, ?_, ?_, ?_, ⟨h.ap.ne, fun i hi => ?_⟩, h.lt, h.nb⟩
  · rw [hc _ (by decide)]; exact h.g.nil
  · rw [hc _ (by decide)]; exact h.g.noRun
  · rw [hc _ (by decide)]; exact h.g.shut
  · rw [hc _ (by decide)]; exact h.g.full
  · rw [hc _ (by decide)]; exact h.g.spent
  · rw [hc _ (by decide)]; exact h.g.broken
  · rw [hc _ (by decide)]; exact h.op
  · rw [hc _ (by decide)]; exact h.li
  · rw [hc _ (by decide)]; exact h.rc
  · rw [hc _ (by decide)]; exact h.cl
  · rw [hb.block _ (h.lt i hi)]; exact h.ap.at_ i hi
/-- with FailRange too -/
structure EnvR (w : World) (E : Nat → Addr) (B : Nat) : Prop extends Env w E B where
  rn : w.cell? ⟨10, 0, none⟩ = some (er E 6)
theorem EnvR.below {w w' : World} {E : Nat → Addr} {B : Nat} (h : EnvR w E B) (hb : Below B w w') : EnvR w' E B :=
  ⟨h.toEnv.below hb, (hb.cell (p := ⟨10, 0, none⟩) (by have := h.nb; show 10 < B; omega)).trans h.rn⟩
theorem codesD_sub {i : Nat} (h : i ∈ codesD) : i ∈ codes := by
  simp only [codes, codesD, List.mem_cons, List.not_mem_nil, or_false] at *
  omega
/-- with FailSame too, all of them told apart -/
structure EnvZ (w : World) (E : Nat → Addr) (B : Nat) : Prop extends EnvR w E B where
  sa : w.cell? ⟨9, 0, none⟩ = some (er E 12)
  apz : Ap w E codes
  ltz : ∀ i ∈ codes, (E i).block < B
theorem EnvZ.below {w w' : World} {E : Nat → Addr} {B : Nat} (h : EnvZ w E B) (hb : Below B w w') : EnvZ w' E B :=
  ⟨h.toEnvR.below hb, (hb.cell (p := ⟨9, 0, none⟩) (by have := h.nb; show 9 < B; omega)).trans h.sa, ⟨h.apz.ne, fun i hi => by rw [hb.block _ (h.ltz i hi)]; exact h.apz.at_ i hi⟩, h.ltz⟩
theorem env_of_laid {W : World} (h : laidMetH Tryz.prog listed W) : ∃ E, EnvZ W E W.heap.size := by
  obtain ⟨E, g, ap, c2, c5, c6, c10, c12, c13⟩ := gs_of_laid h
  have hl : ∀ i ∈ codes, (E i).block < W.heap.size := fun i hi => by
    obtain ⟨c, t, hc⟩ := ap.at_ i hi
    exact (Array.getElem?_eq_some_iff.1 hc).1
  exact ⟨E, ⟨⟨g.sub fun b hb => Nat.le_trans g.sz hb, c5, c2, c10, c13, ⟨fun i hi j hj => ap.ne i (codesD_sub hi) j (codesD_sub hj), fun i hi => ap.at_ i (codesD_sub hi)⟩, fun i hi => hl i (codesD_sub hi), g.sz⟩, c6⟩, c12, ap, hl⟩
theorem Env.gs {w : World} {E : Nat → Addr} {B : Nat} (h : Env w E B) {F : Nat → Prop} (hF : ∀ b, F b → B ≤ b) : Gs w E F := h.g.sub fun b hb => Nat.le_trans h.nb (hF b hb)
theorem EnvR.gs {w : World} {E : Nat → Addr} {B : Nat} (h : EnvR w E B) {F : Nat → Prop} (hF : ∀ b, F b → B ≤ b) : Gs w E F := h.toEnv.gs hF
def siz (m : Sto) (k : Int) : Int × Nat := match look m.runs k with
  | none => (0, 3)
  | some r => (r.txt.length, 0)
theorem size_nil (w : World) (k : Int) {E : Nat → Addr} {F : Nat → Prop} (G : Gs w E F) : Calls Tryz.prog 39 #[.pointer none, .int .i64 k] w fun e w' => e = .returned (.tuple #[.int .i64 0, errV E 1]) ∧ Below w.heap.size w w' := by
  have HF := hide (find_nil w k G)
  clear G
  go_enter Tryz.func39, Tryz.ntmps39
  go_wp2_with (go_at_call 41; refine (unhide HF).mono ?_; rintro e w1 ⟨rfl, hb⟩; have HB := hide hb; clear hb)
  go_ret2
  exact ⟨rfl, (unhide HB).trans (((Below.refl _ _).alloc (Nat.le_refl _) _).mono (unhide HB).size)⟩
theorem size_any {w : World} {sb : Nat} {m : Sto} {F : Nat → Prop} {E : Nat → Addr} {k : Int} (h : At w sb m F) (G : Gs w E F) (hk1 : -9223372036854775808 ≤ k) (hk2 : k ≤ 9223372036854775807) :
    Calls Tryz.prog 39 #[.pointer (some ⟨sb, 0, none⟩), .int .i64 k] w fun e w' => e = .returned (.tuple #[.int .i64 (siz m k).1, errV E (siz m k).2]) ∧ Below w.heap.size w w' := by
  rcases hl : look m.runs k with _ | r
  · have HR : siz m k = (0, 3) := by unfold siz; rw [hl]
    have HF := hide (find_none h G hk1 hk2 hl)
    rw [HR]
    clear h G hl HR
    go_enter Tryz.func39, Tryz.ntmps39
    go_wp2_with (go_at_call 41; refine (unhide HF).mono ?_; rintro e w1 ⟨rfl, hb⟩; have HB := hide hb; clear hb)
    go_ret2
    exact ⟨rfl, (unhide HB).trans (((Below.refl _ _).alloc (Nat.le_refl _) _).mono (unhide HB).size)⟩
  · have HR : siz m k = ((r.txt.length : Int), 0) := by unfold siz; rw [hl]
    obtain ⟨bm, sl, fl, hin⟩ : ∃ bm sl fl, In w sb m F bm sl fl := by
      rcases h.open with ⟨_, he⟩ | hx
      · have := (look_mem hl).1
        rw [he] at this
        cases this
      · exact hx
    have hf := find_some hin hk1 hk2 hl
    obtain ⟨a, c, ev⟩ := own_slice (hin.rows.own r (look_mem hl).1)
    rw [ev] at hf
    have HF := hide hf
    rw [HR]
    clear h G hl hf ev hin HR
    go_enter Tryz.func39, Tryz.ntmps39
    go_wp2_with (go_at_call 41; refine (unhide HF).mono ?_; rintro e w1 ⟨rfl, hb⟩; have HB := hide hb; clear hb)
    go_ret2
    exact ⟨rfl, (unhide HB).trans (((Below.refl _ _).alloc (Nat.le_refl _) _).mono (unhide HB).size)⟩
/-! the number of a failure -/
theorem eq_other {w : World} {E : Nat → Addr} {l : List Nat} (h : Ap w E l) {i j : Nat} (hi : i ∈ l) (hj : j ∈ l) (hij : i ≠ j) : (binOp .eql 44 (er E i) (er E j)).run Tryz.prog w = .ok (.bool false) w := by
  obtain ⟨i0, h0, hc⟩ := Option.map_eq_some_iff.1 (show (Tryz.prog.info? 168).map (·.comparable) = some true by kernel_rfl)
  obtain ⟨j0, hj0, hz⟩ := Option.map_eq_some_iff.1 (show (Tryz.prog.info? 184).map (·.size) = some 1 by kernel_rfl)
  obtain ⟨c1, t1, b1⟩ := h.at_ i hi
  obtain ⟨c2, t2, b2⟩ := h.at_ j hj
  exact run_eql_iface_ptr_other w Tryz.underlying44 Tryz.underlying168 h0 hc hj0 (by omega) (h.ne i hi j hj hij) b1 b2
theorem eq_same {w : World} (a : Addr) : (binOp .eql 44 (.iface 168 (.pointer (some a))) (.iface 168 (.pointer (some a)))).run Tryz.prog w = .ok (.bool true) w := by
  obtain ⟨i, hi, hc⟩ := Option.map_eq_some_iff.1 (show (Tryz.prog.info? 168).map (·.comparable) = some true by kernel_rfl)
  obtain ⟨j, hj, _⟩ := Option.map_eq_some_iff.1 (show (Tryz.prog.info? 184).map (·.size) = some 1 by kernel_rfl)
  exact run_eql_iface_ptr_same w a Tryz.underlying44 Tryz.underlying168 hi hc hj
end Rs
end Go.Proofs.YtbapnoafjcipjaaGreatDoor
