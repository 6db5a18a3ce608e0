/- Contract of (*slices.xorshift).Next, of the shelf, laid at this program: no walk of ours. -/
import Derived.Shelf.SlSortCmp.Xorshift
import Derived.Test.YtaaonaaciomijabDoorProg
namespace Go.Proofs
open Go.Shelf
def Tryd.laysF48_ren : Go.Shelf.Ren := ⟨fun | 48 => 88 | n => n, fun | 0 => 0 | 39 => 92 | 55 => 116 | 66 => 120 | 76 => 130 | n => n, fun | n => n⟩
theorem Tryd.laysF48 : Go.Proofs.SlLaysF0.n48 Tryd.prog Tryd.laysF48_ren := {
  mixed := by kernel_rfl
  f48 := Tryd.func88.trans (congrArg some (by kernel_rfl))
  t0 := Tryd.underlying0
  a0 := Tryd.isAgg0
  z0 := Tryd.sizeOf0
  v0 := Tryd.zeroValue0
  t39 := Tryd.underlying92
  a39 := Tryd.isAgg92
  z39 := Tryd.sizeOf92
  v39 := Tryd.zeroValue92
  t55 := Tryd.underlying116
  a55 := Tryd.isAgg116
  z55 := Tryd.sizeOf116
  v55 := Tryd.zeroValue116
  t66 := Tryd.underlying120
  a66 := Tryd.isAgg120
  z66 := Tryd.sizeOf120
  v66 := Tryd.zeroValue120
  t76 := Tryd.underlying130
  a76 := Tryd.isAgg130
  z76 := Tryd.sizeOf130
  v76 := Tryd.zeroValue130 }
open Go.RowKit Go.Lib Go.Sort in
theorem Tryd.xorshift_Next (rb ro X : Nat) (hX : X < 18446744073709551616) (w : World) (hc : w.cell? ⟨rb, ro, none⟩ = some (.int .u64 X)) (hf : w.frozen? ⟨rb, ro, none⟩ = false) :
    Calls Tryd.prog 88 #[.pointer (some ⟨rb, ro, none⟩)] w fun e w' => e = .returned (.int .u64 (xorNextN X : Nat)) ∧ w' = (w.setCell ⟨rb, ro, none⟩ (.int .u64 (xorNextN X : Nat))).drewN 3 :=
  AnyF.xorshift_Next Tryd.laysF48 rb ro X hX w hc hf
end Go.Proofs
