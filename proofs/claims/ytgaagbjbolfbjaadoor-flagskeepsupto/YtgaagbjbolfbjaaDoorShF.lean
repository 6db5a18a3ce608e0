/- Contract of (*slices.xorshift).Next, of the shelf, laid at this program: no walk of ours. -/
import Derived.Shelf.SlSortCmp.Xorshift
import Derived.Test.YtgaagbjbolfbjaaDoorProg
namespace Go.Proofs
open Go.Shelf
def Tryd.laysF48_ren : Go.Shelf.Ren := ⟨fun | 48 => 44 | n => n, fun | 0 => 0 | 39 => 48 | 55 => 67 | 66 => 72 | 76 => 79 | n => n, fun | n => n⟩
theorem Tryd.laysF48 : Go.Proofs.SlLaysF0.n48 Tryd.prog Tryd.laysF48_ren := {
  mixed := by kernel_rfl
  f48 := Tryd.func44.trans (congrArg some (by kernel_rfl))
  t0 := Tryd.underlying0
  a0 := Tryd.isAgg0
  z0 := Tryd.sizeOf0
  v0 := Tryd.zeroValue0
  t39 := Tryd.underlying48
  a39 := Tryd.isAgg48
  z39 := Tryd.sizeOf48
  v39 := Tryd.zeroValue48
  t55 := Tryd.underlying67
  a55 := Tryd.isAgg67
  z55 := Tryd.sizeOf67
  v55 := Tryd.zeroValue67
  t66 := Tryd.underlying72
  a66 := Tryd.isAgg72
  z66 := Tryd.sizeOf72
  v66 := Tryd.zeroValue72
  t76 := Tryd.underlying79
  a76 := Tryd.isAgg79
  z76 := Tryd.sizeOf79
  v76 := Tryd.zeroValue79 }
open Go.RowKit Go.Lib Go.Sort in
theorem Tryd.xorshift_Next (rb ro X : Nat) (hX : X < 18446744073709551616) (w : World) (hc : w.cell? ⟨rb, ro, none⟩ = some (.int .u64 X)) (hf : w.frozen? ⟨rb, ro, none⟩ = false) :
    Calls Tryd.prog 44 #[.pointer (some ⟨rb, ro, none⟩)] w fun e w' => e = .returned (.int .u64 (xorNextN X : Nat)) ∧ w' = (w.setCell ⟨rb, ro, none⟩ (.int .u64 (xorNextN X : Nat))).drewN 3 :=
  AnyF.xorshift_Next Tryd.laysF48 rb ro X hX w hc hf
end Go.Proofs
