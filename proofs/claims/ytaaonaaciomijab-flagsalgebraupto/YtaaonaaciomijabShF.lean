/- Contract of (*slices.xorshift).Next, of the shelf, laid at this program: no walk of ours. -/
import Derived.Shelf.SlSortCmp.Xorshift
import Derived.Test.YtaaonaaciomijabProg
namespace Go.Proofs
open Go.Shelf
def Try.laysF48_ren : Go.Shelf.Ren := ⟨fun | 48 => 39 | n => n, fun | 0 => 0 | 39 => 43 | 55 => 60 | 66 => 62 | 76 => 68 | n => n, fun | n => n⟩
theorem Try.laysF48 : Go.Proofs.SlLaysF0.n48 Try.prog Try.laysF48_ren := {
  mixed := by kernel_rfl
  f48 := Try.func39.trans (congrArg some (by kernel_rfl))
  t0 := Try.underlying0
  a0 := Try.isAgg0
  z0 := Try.sizeOf0
  v0 := Try.zeroValue0
  t39 := Try.underlying43
  a39 := Try.isAgg43
  z39 := Try.sizeOf43
  v39 := Try.zeroValue43
  t55 := Try.underlying60
  a55 := Try.isAgg60
  z55 := Try.sizeOf60
  v55 := Try.zeroValue60
  t66 := Try.underlying62
  a66 := Try.isAgg62
  z66 := Try.sizeOf62
  v66 := Try.zeroValue62
  t76 := Try.underlying68
  a76 := Try.isAgg68
  z76 := Try.sizeOf68
  v76 := Try.zeroValue68 }
open Go.RowKit Go.Lib Go.Sort in
theorem Try.xorshift_Next (rb ro X : Nat) (hX : X < 18446744073709551616) (w : World) (hc : w.cell? ⟨rb, ro, none⟩ = some (.int .u64 X)) (hf : w.frozen? ⟨rb, ro, none⟩ = false) :
    Calls Try.prog 39 #[.pointer (some ⟨rb, ro, none⟩)] w fun e w' => e = .returned (.int .u64 (xorNextN X : Nat)) ∧ w' = (w.setCell ⟨rb, ro, none⟩ (.int .u64 (xorNextN X : Nat))).drewN 3 :=
  AnyF.xorshift_Next Try.laysF48 rb ro X hX w hc hf
end Go.Proofs
