/- Contract of (*slices.xorshift).Next, of the shelf, laid at this program: no walk of ours. -/
import Derived.Shelf.SlSortCmp.Xorshift
import Derived.Test.YtaaonaaciomijaaProg
namespace Go.Proofs
open Go.Shelf
def Try.laysF48_ren : Go.Shelf.Ren := ⟨fun | 48 => 34 | n => n, fun | 0 => 0 | 39 => 42 | 55 => 57 | 66 => 58 | 76 => 64 | n => n, fun | n => n⟩
theorem Try.laysF48 : Go.Proofs.SlLaysF0.n48 Try.prog Try.laysF48_ren := {
  mixed := by kernel_rfl
  f48 := Try.func34.trans (congrArg some (by kernel_rfl))
  t0 := Try.underlying0
  a0 := Try.isAgg0
  z0 := Try.sizeOf0
  v0 := Try.zeroValue0
  t39 := Try.underlying42
  a39 := Try.isAgg42
  z39 := Try.sizeOf42
  v39 := Try.zeroValue42
  t55 := Try.underlying57
  a55 := Try.isAgg57
  z55 := Try.sizeOf57
  v55 := Try.zeroValue57
  t66 := Try.underlying58
  a66 := Try.isAgg58
  z66 := Try.sizeOf58
  v66 := Try.zeroValue58
  t76 := Try.underlying64
  a76 := Try.isAgg64
  z76 := Try.sizeOf64
  v76 := Try.zeroValue64 }
open Go.RowKit Go.Lib Go.Sort in
theorem Try.xorshift_Next (rb ro X : Nat) (hX : X < 18446744073709551616) (w : World) (hc : w.cell? ⟨rb, ro, none⟩ = some (.int .u64 X)) (hf : w.frozen? ⟨rb, ro, none⟩ = false) :
    Calls Try.prog 34 #[.pointer (some ⟨rb, ro, none⟩)] w fun e w' => e = .returned (.int .u64 (xorNextN X : Nat)) ∧ w' = (w.setCell ⟨rb, ro, none⟩ (.int .u64 (xorNextN X : Nat))).drewN 3 :=
  AnyF.xorshift_Next Try.laysF48 rb ro X hX w hc hf
end Go.Proofs
