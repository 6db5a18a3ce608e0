import Derived.Shelf.SlSortCmp.Xorshift
import Derived.Test.YtmhegbeemgagkaaGreatDoorProg
namespace Go.Proofs
open Go.Shelf
def Tryz.laysF48_ren : Go.Shelf.Ren := ⟨fun | 48 => 160 | n => n, fun | 0 => 0 | 39 => 168 | 55 => 207 | 66 => 230 | 76 => 257 | n => n, fun | n => n⟩
theorem Tryz.laysF48 : Go.Proofs.SlLaysF0.n48 Tryz.prog Tryz.laysF48_ren := {
 mixed := by kernel_rfl
 f48 := Tryz.func160.trans (congrArg some (by kernel_rfl))
 t0 := Tryz.underlying0
 a0 := Tryz.isAgg0
 z0 := Tryz.sizeOf0
 v0 := Tryz.zeroValue0
 t39 := Tryz.underlying168
 a39 := Tryz.isAgg168
 z39 := Tryz.sizeOf168
 v39 := Tryz.zeroValue168
 t55 := Tryz.underlying207
 a55 := Tryz.isAgg207
 z55 := Tryz.sizeOf207
 v55 := Tryz.zeroValue207
 t66 := Tryz.underlying230
 a66 := Tryz.isAgg230
 z66 := Tryz.sizeOf230
 v66 := Tryz.zeroValue230
 t76 := Tryz.underlying257
 a76 := Tryz.isAgg257
 z76 := Tryz.sizeOf257
 v76 := Tryz.zeroValue257 }
open Go.RowKit Go.Lib Go.Sort in
theorem Tryz.xorshift_Next (rb ro X : Nat) (hX : X < 18446744073709551616) (w : World) (hc : w.cell? ⟨rb, ro, none⟩ = some (.int .u64 X)) (hf : w.frozen? ⟨rb, ro, none⟩ = false) :
  Calls Tryz.prog 160 #[.pointer (some ⟨rb, ro, none⟩)] w fun e w' => e = .returned (.int .u64 (xorNextN X : Nat)) ∧ w' = (w.setCell ⟨rb, ro, none⟩ (.int .u64 (xorNextN X : Nat))).drewN 3 :=
 AnyF.xorshift_Next Tryz.laysF48 rb ro X hX w hc hf
end Go.Proofs
