/- Contract of slices.Contains at flags, of the shelf, laid at this program: no walk of ours. -/
import Derived.Shelf.SlicesE.Index
import Derived.Shelf.SlicesE.Compact
import Derived.Test.YtgaagbjbolfbjaaDoorProg
namespace Go.Proofs
open Go.Shelf
def Tryd.laysCn_ren : Go.Shelf.Ren := ⟨fun | 29 => 27 | 31 => 21 | n => n, fun | 0 => 0 | 3 => 3 | 4 => 4 | 22 => 26 | 23 => 25 | n => n, fun | n => n⟩
theorem Tryd.laysCn : Go.Proofs.SlLaysE.n31 Tryd.prog Tryd.laysCn_ren := {
  mixed := by kernel_rfl
  f29 := ⟨"slices.Index[hornbook/flags.Set,hornbook/api.Flag]", by decide, Tryd.func27.trans (congrArg some (by kernel_rfl))⟩
  f31 := ⟨"slices.Contains[hornbook/flags.Set,hornbook/api.Flag]", by decide, Tryd.func21.trans (congrArg some (by kernel_rfl))⟩
  t0 := Tryd.underlying0
  a0 := Tryd.isAgg0
  z0 := Tryd.sizeOf0
  v0 := Tryd.zeroValue0
  t3 := Tryd.underlying3
  a3 := Tryd.isAgg3
  z3 := Tryd.sizeOf3
  v3 := Tryd.zeroValue3
  t4 := Tryd.underlying4
  a4 := Tryd.isAgg4
  z4 := Tryd.sizeOf4
  v4 := Tryd.zeroValue4
  t22 := Tryd.underlying26
  a22 := Tryd.isAgg26
  z22 := Tryd.sizeOf26
  v22 := Tryd.zeroValue26
  a23 := Tryd.isAgg25
  z23 := Tryd.sizeOf25 }
open Go.RowKit Go.Lib Go.Sort in
theorem Tryd.flag_Contains (b off n c : Nat) (zs : List Int) (x : Int) (w : World) (hz : n ≤ zs.length) (hbig : n ≤ 9223372036854775807) (hc : ∀ j, j < zs.length → w.cell? ⟨b, off + j, none⟩ = some (.int .u16 zs[j]!)) :
    Calls Tryd.prog 21 #[.slice (some ⟨b, off, none⟩) n c, .int .u16 x] w fun e w' => e = .returned (.bool ((zs.take n).any fun y => decide (x = y))) ∧ w' = w :=
  AnyE.slices_Contains Tryd.laysCn (Value.int .u16) (fun x y => decide (x = y)) (EqlAt.intD _ _ .u16) b off n c zs x w hz hbig hc
theorem Tryd.flag_Contains_empty (a : Option Addr) (c : Nat) (xv : Value) (w : World) :
    Calls Tryd.prog 21 #[.slice a 0 c, xv] w fun e w' => e = .returned (.bool false) ∧ w' = w :=
  AnyE.slices_Contains_empty Tryd.laysCn a c xv w
end Go.Proofs
