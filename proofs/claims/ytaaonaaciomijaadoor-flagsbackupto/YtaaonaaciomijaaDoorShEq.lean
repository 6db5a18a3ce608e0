/- Contract of slices.Equal at flags, of the shelf, laid at this program: no walk of ours. -/
import Derived.Shelf.SlicesE.Equal
import Derived.Shelf.SlicesE.Compact
import Derived.Test.YtaaonaaciomijaaDoorProg
namespace Go.Proofs
open Go.Shelf
def Tryd.laysEq_ren : Go.Shelf.Ren := ⟨fun | 33 => 43 | n => n, fun | 0 => 0 | 3 => 3 | 4 => 4 | 22 => 32 | 23 => 23 | n => n, fun | n => n⟩
theorem Tryd.laysEq : Go.Proofs.SlLaysE.n33 Tryd.prog Tryd.laysEq_ren := {
  mixed := by kernel_rfl
  f33 := ⟨"slices.Equal[hornbook/flags.Set,hornbook/api.Flag]", by decide, Tryd.func43.trans (congrArg some (by kernel_rfl))⟩
  t0 := Tryd.underlying0
  a0 := Tryd.isAgg0
  z0 := Tryd.sizeOf0
  v0 := Tryd.zeroValue0
  t3 := Tryd.underlying3
  a3 := Tryd.isAgg3
  z3 := Tryd.sizeOf3
  v3 := Tryd.zeroValue3
  t4 := Tryd.underlying4
  a4 := Tryd.isAgg4
  z4 := Tryd.sizeOf4
  v4 := Tryd.zeroValue4
  t22 := Tryd.underlying32
  a22 := Tryd.isAgg32
  z22 := Tryd.sizeOf32
  v22 := Tryd.zeroValue32
  a23 := Tryd.isAgg23
  z23 := Tryd.sizeOf23 }
open Go.RowKit Go.Lib Go.Sort in
theorem Tryd.flag_Equal (b1 o1 n c b2 o2 m d : Nat) (xs ys : List Int) (w : World) (hx : n ≤ xs.length) (hy : m ≤ ys.length) (hbig : n ≤ 9223372036854775807) (hbig2 : m ≤ 9223372036854775807) (hc1 : ∀ j, j < xs.length → w.cell? ⟨b1, o1 + j, none⟩ = some (.int .u16 xs[j]!)) (hc2 : ∀ j, j < ys.length → w.cell? ⟨b2, o2 + j, none⟩ = some (.int .u16 ys[j]!)) :
    Calls Tryd.prog 43 #[.slice (some ⟨b1, o1, none⟩) n c, .slice (some ⟨b2, o2, none⟩) m d] w fun e w' => e = .returned (.bool (Lib.allEq (fun x y => decide (x = y)) (xs.take n) (ys.take m))) ∧ ∃ q, w' = w.drewN q :=
  AnyE.slices_Equal Tryd.laysEq (Value.int .u16) (fun x y => decide (x = y)) (NeqAt.intD _ _ .u16) b1 o1 n c b2 o2 m d xs ys w hx hy hbig hbig2 hc1 hc2
end Go.Proofs
