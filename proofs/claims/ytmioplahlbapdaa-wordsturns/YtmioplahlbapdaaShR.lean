/- Contract of slices.Reverse at bytes, of the shelf, laid at this program: no walk of ours. -/
import Derived.Shelf.SlicesE.Reverse
import Derived.Test.YtmioplahlbapdaaProg
namespace Go.Proofs
open Go.Shelf
def Try.laysE35_ren : Go.Shelf.Ren := ⟨fun | 35 => 27 | n => n, fun | 22 => 37 | 23 => 5 | n => n, fun | n => n⟩
theorem Try.laysE35 : Go.Proofs.SlLaysE.n35 Try.prog Try.laysE35_ren := {
  mixed := by kernel_rfl
  f35 := ⟨"slices.Reverse[[]byte,byte]", by decide, Try.func27.trans (congrArg some (by kernel_rfl))⟩
  t0 := Try.underlying0
  a0 := Try.isAgg0
  z0 := Try.sizeOf0
  v0 := Try.zeroValue0
  t3 := Try.underlying3
  a3 := Try.isAgg3
  z3 := Try.sizeOf3
  v3 := Try.zeroValue3
  t4 := Try.underlying4
  a4 := Try.isAgg4
  z4 := Try.sizeOf4
  v4 := Try.zeroValue4
  t22 := Try.underlying37
  a22 := Try.isAgg37
  z22 := Try.sizeOf37
  v22 := Try.zeroValue37
  a23 := Try.isAgg5
  z23 := Try.sizeOf5 }
open Go.RowKit Go.Lib Go.Sort in
theorem Try.slices_Reverse {α : Type} [Inhabited α] (enc : α → Value) (h1 : OneCell enc) (blk off cap : Nat) (zs : List α) (w : World) (hH : Holds enc w blk off zs.toArray) (hsz : zs.length ≤ 9223372036854775807) :
    Calls Try.prog 27 #[.slice (some ⟨blk, off, none⟩) zs.length cap] w fun e w' => e = .returned (.tuple #[]) ∧ ∃ n, w' = putRow enc (Sort.ahead w n) blk off zs.reverse.toArray := AnyE.slices_Reverse Try.laysE35 enc h1 blk off cap zs w hH hsz
end Go.Proofs
