/- Contract of slices.Equal at flags, of the shelf, laid at this program: no walk of ours. -/
import Derived.Shelf.SlicesE.Equal
import Derived.Shelf.SlicesE.Compact
import Derived.Test.YtaaonaaciomijabProg
namespace Go.Proofs
open Go.Shelf
def Try.laysEq_ren : Go.Shelf.Ren := ⟨fun | 33 => 17 | n => n, fun | 0 => 0 | 3 => 3 | 4 => 4 | 22 => 23 | 23 => 27 | n => n, fun | n => n⟩
theorem Try.laysEq : Go.Proofs.SlLaysE.n33 Try.prog Try.laysEq_ren := {
  mixed := by kernel_rfl
  f33 := ⟨"slices.Equal[hornbook/flags.Set,hornbook/api.Flag]", by decide, Try.func17.trans (congrArg some (by kernel_rfl))⟩
  t0 := Try.underlying0
  a0 := Try.isAgg0
  z0 := Try.sizeOf0
  v0 := Try.zeroValue0
  t3 := Try.underlying3
  a3 := Try.isAgg3
  z3 := Try.sizeOf3
  v3 := Try.zeroValue3
  t4 := Try.underlying4
  a4 := Try.isAgg4
  z4 := Try.sizeOf4
  v4 := Try.zeroValue4
  t22 := Try.underlying23
  a22 := Try.isAgg23
  z22 := Try.sizeOf23
  v22 := Try.zeroValue23
  a23 := Try.isAgg27
  z23 := Try.sizeOf27 }
open Go.RowKit Go.Lib Go.Sort in
theorem Try.flag_Equal (b1 o1 n c b2 o2 m d : Nat) (xs ys : List Int) (w : World) (hx : n ≤ xs.length) (hy : m ≤ ys.length) (hbig : n ≤ 9223372036854775807) (hbig2 : m ≤ 9223372036854775807) (hc1 : ∀ j, j < xs.length → w.cell? ⟨b1, o1 + j, none⟩ = some (.int .u16 xs[j]!)) (hc2 : ∀ j, j < ys.length → w.cell? ⟨b2, o2 + j, none⟩ = some (.int .u16 ys[j]!)) :
    Calls Try.prog 17 #[.slice (some ⟨b1, o1, none⟩) n c, .slice (some ⟨b2, o2, none⟩) m d] w fun e w' => e = .returned (.bool (Lib.allEq (fun x y => decide (x = y)) (xs.take n) (ys.take m))) ∧ ∃ q, w' = w.drewN q :=
  AnyE.slices_Equal Try.laysEq (Value.int .u16) (fun x y => decide (x = y)) (NeqAt.intD _ _ .u16) b1 o1 n c b2 o2 m d xs ys w hx hy hbig hbig2 hc1 hc2
end Go.Proofs
