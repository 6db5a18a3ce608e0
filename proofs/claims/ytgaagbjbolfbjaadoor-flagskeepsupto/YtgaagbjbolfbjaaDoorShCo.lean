/- Contract of slices.Compact at flags, of the shelf, laid at this program: no walk of ours. -/
import Derived.Shelf.SlicesE.Compact
import Derived.Test.YtgaagbjbolfbjaaDoorProg
namespace Go.Proofs
open Go.Shelf
def Tryd.laysCo_ren : Go.Shelf.Ren := ⟨fun | 43 => 18 | n => n, fun | 0 => 0 | 3 => 3 | 4 => 4 | 22 => 26 | 23 => 25 | n => n, fun | n => n⟩
theorem Tryd.laysCo : Go.Proofs.SlLaysE.n43 Tryd.prog Tryd.laysCo_ren := {
  mixed := by kernel_rfl
  f43 := ⟨"slices.Compact[hornbook/flags.Set,hornbook/api.Flag]", by decide, Tryd.func18.trans (congrArg some (by kernel_rfl))⟩
  t0 := Tryd.underlying0
  a0 := Tryd.isAgg0
  z0 := Tryd.sizeOf0
  v0 := Tryd.zeroValue0
  t3 := Tryd.underlying3
  a3 := Tryd.isAgg3
  z3 := Tryd.sizeOf3
  v3 := Tryd.zeroValue3
  t4 := Tryd.underlying4
  a4 := Tryd.isAgg4
  z4 := Tryd.sizeOf4
  v4 := Tryd.zeroValue4
  t22 := Tryd.underlying26
  a22 := Tryd.isAgg26
  z22 := Tryd.sizeOf26
  v22 := Tryd.zeroValue26
  a23 := Tryd.isAgg25
  z23 := Tryd.sizeOf25 }
open Go.RowKit Go.Lib Go.Sort in
theorem Tryd.flag_Compact (blk off cap : Nat) (d : Array Int) (w : World) (hH : Holds (Value.int .u16) w blk off d) (hsz : d.size ≤ 9223372036854775807) (hcap : d.size ≤ cap) :
    Calls Tryd.prog 18 #[.slice (some ⟨blk, off, none⟩) d.size cap] w fun e w' => e = .returned (.slice (some ⟨blk, off, none⟩) (compactUpTo d d.size).length cap) ∧ ∃ q, w' = putRow (Value.int .u16) (Sort.ahead w q) blk off (compactUpTo d d.size ++ List.replicate (d.size - (compactUpTo d d.size).length) 0).toArray :=
  AnyE.slices_Compact Tryd.laysCo (Value.int .u16) (fun _ => rfl) (EqlAt.intD _ _ .u16) (NeqAt.intD _ _ .u16) 0 Tryd.zeroValue25 blk off cap d w hH hsz hcap
end Go.Proofs
