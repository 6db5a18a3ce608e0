/- Contract of (*slices.xorshift).Next, of the shelf, laid at this program: no walk of ours. -/
import Derived.Shelf.SlSortCmp.Xorshift
import Derived.Test.YtaaonaaciomijaaDoorProg
namespace Go.Proofs
open Go.Shelf
def Tryd.laysF48_ren : Go.Shelf.Ren := ⟨fun | 48 => 79 | n => n, fun | 0 => 0 | 39 => 58 | 55 => 103 | 66 => 109 | 76 => 120 | n => n, fun | n => n⟩
theorem Tryd.laysF48 : Go.Proofs.SlLaysF0.n48 Tryd.prog Tryd.laysF48_ren := {
  mixed := by kernel_rfl
  f48 := Tryd.func79.trans (congrArg some (by kernel_rfl))
  t0 := Tryd.underlying0
  a0 := Tryd.isAgg0
  z0 := Tryd.sizeOf0
  v0 := Tryd.zeroValue0
  t39 := Tryd.underlying58
  a39 := Tryd.isAgg58
  z39 := Tryd.sizeOf58
  v39 := Tryd.zeroValue58
  t55 := Tryd.underlying103
  a55 := Tryd.isAgg103
  z55 := Tryd.sizeOf103
  v55 := Tryd.zeroValue103
  t66 := Tryd.underlying109
  a66 := Tryd.isAgg109
  z66 := Tryd.sizeOf109
  v66 := Tryd.zeroValue109
  t76 := Tryd.underlying120
  a76 := Tryd.isAgg120
  z76 := Tryd.sizeOf120
  v76 := Tryd.zeroValue120 }
open Go.RowKit Go.Lib Go.Sort in
theorem Tryd.xorshift_Next (rb ro X : Nat) (hX : X < 18446744073709551616) (w : World) (hc : w.cell? ⟨rb, ro, none⟩ = some (.int .u64 X)) (hf : w.frozen? ⟨rb, ro, none⟩ = false) :
    Calls Tryd.prog 79 #[.pointer (some ⟨rb, ro, none⟩)] w fun e w' => e = .returned (.int .u64 (xorNextN X : Nat)) ∧ w' = (w.setCell ⟨rb, ro, none⟩ (.int .u64 (xorNextN X : Nat))).drewN 3 :=
  AnyF.xorshift_Next Tryd.laysF48 rb ro X hX w hc hf
end Go.Proofs
