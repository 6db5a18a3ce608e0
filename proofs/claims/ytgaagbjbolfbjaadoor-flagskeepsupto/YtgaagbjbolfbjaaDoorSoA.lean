/- The sort of flags, its ground: how a world goes on from a world while a row of flags is turned; cmp.Less at flags. -/
import Derived.Test.YtgaagbjbolfbjaaDoorChecked
import Derived.Sort.WalkA
import Derived.Sort.Walk13a
import Derived.Sort.AssemblyPlain
namespace Go.Proofs.YtgaagbjbolfbjaaDoor
open Go.Sort Go.RowKit
namespace So

def Hid (p : Prop) : Prop := p
theorem hide {p : Prop} (h : p) : Hid p := h
theorem unhide {p : Prop} (h : Hid p) : p := h
abbrev encF : Int → Value := fun x => Value.int .u16 x
theorem swo : SWO ltInt := ⟨fun x => by simp [ltInt], fun x y z h1 h2 => by simp [ltInt] at *; omega, fun x y z h1 h2 => by simp [ltInt] at *; omega⟩

theorem less_any (x y : Int) (w : World) : Calls Tryd.prog 34 #[.int .u16 x, .int .u16 y] w fun e w' => e = .returned (.bool (ltInt x y)) ∧ w' = w := by
  go_enter Tryd.func34, Tryd.ntmps34
  go_wp2
  go_ret
  exact ⟨rfl, rfl⟩

section
variable {w wr : World} {blk off : Nat} {d dk : Array Int}
/-- the row's flags, place by place, behind a name -/
structure Seen (wr : World) (blk off : Nat) (dk : Array Int) (G : Nat → Int) : Prop where
  name : ∀ t, G t = dk[t]!
theorem at_cells (h : At encF w blk off dk wr) (hH : Holds encF w blk off d) (hs : dk.size = d.size) (hb : blk < w.heap.size) {G : Nat → Int} (hG : ∀ t, G t = dk[t]!) :
    (∀ t, t < d.size → wr.cell? ⟨blk, off + t, none⟩ = some (.int .u16 (G t))) ∧ ∀ t, t < d.size → wr.frozen? ⟨blk, off + t, none⟩ = false := by
  have hh := (h.holds hH hs hb).1
  exact ⟨fun t ht => by rw [hG]; exact (hh t (by omega)).1, fun t ht => (hh t (by omega)).2⟩
theorem at_drewN (h : At encF w blk off dk wr) (m : Nat) : At encF w blk off dk (wr.drewN m) := h.ahead m
/-- two flags exchanged -/
theorem at_swap (h : At encF w blk off dk wr) (hH : Holds encF w blk off d) (hs : dk.size = d.size) (hb : blk < w.heap.size) {i j : Nat} (hi : i < dk.size) (hj : j < dk.size) {x y : Value} (hx : x = encF dk[j]!) (hy : y = encF dk[i]!) :
    At encF w blk off (swp dk i j) ((wr.setCell ⟨blk, off + i, none⟩ x).setCell ⟨blk, off + j, none⟩ y) := by
  subst hx; subst hy
  have hh := (h.holds hH hs hb).1
  refine h.step hb (size_swp dk i j) ⟨0, ?_⟩
  rw [ahead_zero]
  rw [← putRow_swp encF wr blk off dk i j hi hj, putRow_self encF wr blk off dk hh]
end
end So
end Go.Proofs.YtgaagbjbolfbjaaDoor
