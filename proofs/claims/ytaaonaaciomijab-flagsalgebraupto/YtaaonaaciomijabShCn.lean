/- Contract of slices.Contains at flags, of the shelf, laid at this program: no walk of ours. -/
import Derived.Shelf.SlicesE.Index
import Derived.Shelf.SlicesE.Compact
import Derived.Test.YtaaonaaciomijabProg
namespace Go.Proofs
open Go.Shelf
def Try.laysCn_ren : Go.Shelf.Ren := ⟨fun | 29 => 36 | 31 => 23 | n => n, fun | 0 => 0 | 3 => 3 | 4 => 4 | 22 => 23 | 23 => 27 | n => n, fun | n => n⟩
theorem Try.laysCn : Go.Proofs.SlLaysE.n31 Try.prog Try.laysCn_ren := {
  mixed := by kernel_rfl
  f29 := ⟨"slices.Index[hornbook/flags.Set,hornbook/api.Flag]", by decide, Try.func36.trans (congrArg some (by kernel_rfl))⟩
  f31 := ⟨"slices.Contains[hornbook/flags.Set,hornbook/api.Flag]", by decide, Try.func23.trans (congrArg some (by kernel_rfl))⟩
  t0 := Try.underlying0
  a0 := Try.isAgg0
  z0 := Try.sizeOf0
  v0 := Try.zeroValue0
  t3 := Try.underlying3
  a3 := Try.isAgg3
  z3 := Try.sizeOf3
  v3 := Try.zeroValue3
  t4 := Try.underlying4
  a4 := Try.isAgg4
  z4 := Try.sizeOf4
  v4 := Try.zeroValue4
  t22 := Try.underlying23
  a22 := Try.isAgg23
  z22 := Try.sizeOf23
  v22 := Try.zeroValue23
  a23 := Try.isAgg27
  z23 := Try.sizeOf27 }
open Go.RowKit Go.Lib Go.Sort in
theorem Try.flag_Contains (b off n c : Nat) (zs : List Int) (x : Int) (w : World) (hz : n ≤ zs.length) (hbig : n ≤ 9223372036854775807) (hc : ∀ j, j < zs.length → w.cell? ⟨b, off + j, none⟩ = some (.int .u16 zs[j]!)) :
    Calls Try.prog 23 #[.slice (some ⟨b, off, none⟩) n c, .int .u16 x] w fun e w' => e = .returned (.bool ((zs.take n).any fun y => decide (x = y))) ∧ w' = w :=
  AnyE.slices_Contains Try.laysCn (Value.int .u16) (fun x y => decide (x = y)) (EqlAt.intD _ _ .u16) b off n c zs x w hz hbig hc
theorem Try.flag_Contains_empty (a : Option Addr) (c : Nat) (xv : Value) (w : World) :
    Calls Try.prog 23 #[.slice a 0 c, xv] w fun e w' => e = .returned (.bool false) ∧ w' = w :=
  AnyE.slices_Contains_empty Try.laysCn a c xv w
end Go.Proofs
