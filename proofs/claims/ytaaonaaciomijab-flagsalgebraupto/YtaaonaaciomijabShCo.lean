/- Contract of slices.Compact at flags, of the shelf, laid at this program: no walk of ours. -/
import Derived.Shelf.SlicesE.Compact
import Derived.Test.YtaaonaaciomijabProg
namespace Go.Proofs
open Go.Shelf
def Try.laysCo_ren : Go.Shelf.Ren := ⟨fun | 43 => 14 | n => n, fun | 0 => 0 | 3 => 3 | 4 => 4 | 22 => 23 | 23 => 27 | n => n, fun | n => n⟩
theorem Try.laysCo : Go.Proofs.SlLaysE.n43 Try.prog Try.laysCo_ren := {
  mixed := by kernel_rfl
  f43 := ⟨"slices.Compact[hornbook/flags.Set,hornbook/api.Flag]", by decide, Try.func14.trans (congrArg some (by kernel_rfl))⟩
  t0 := Try.underlying0
  a0 := Try.isAgg0
  z0 := Try.sizeOf0
  v0 := Try.zeroValue0
  t3 := Try.underlying3
  a3 := Try.isAgg3
  z3 := Try.sizeOf3
  v3 := Try.zeroValue3
  t4 := Try.underlying4
  a4 := Try.isAgg4
  z4 := Try.sizeOf4
  v4 := Try.zeroValue4
  t22 := Try.underlying23
  a22 := Try.isAgg23
  z22 := Try.sizeOf23
  v22 := Try.zeroValue23
  a23 := Try.isAgg27
  z23 := Try.sizeOf27 }
open Go.RowKit Go.Lib Go.Sort in
theorem Try.flag_Compact (blk off cap : Nat) (d : Array Int) (w : World) (hH : Holds (Value.int .u16) w blk off d) (hsz : d.size ≤ 9223372036854775807) (hcap : d.size ≤ cap) :
    Calls Try.prog 14 #[.slice (some ⟨blk, off, none⟩) d.size cap] w fun e w' => e = .returned (.slice (some ⟨blk, off, none⟩) (compactUpTo d d.size).length cap) ∧ ∃ q, w' = putRow (Value.int .u16) (Sort.ahead w q) blk off (compactUpTo d d.size ++ List.replicate (d.size - (compactUpTo d d.size).length) 0).toArray :=
  AnyE.slices_Compact Try.laysCo (Value.int .u16) (fun _ => rfl) (EqlAt.intD _ _ .u16) (NeqAt.intD _ _ .u16) 0 Try.zeroValue27 blk off cap d w hH hsz hcap
end Go.Proofs
