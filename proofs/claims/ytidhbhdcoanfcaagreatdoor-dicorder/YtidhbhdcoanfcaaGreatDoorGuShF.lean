import Derived.Shelf.SlSortCmp.Xorshift
import Derived.Test.YtidhbhdcoanfcaaGreatDoorProg
namespace Go.Proofs
open Go.Shelf
def Tryz.laysF48_ren : Go.Shelf.Ren := ⟨fun | 48 => 147 | n => n, fun | 0 => 0 | 39 => 173 | 55 => 204 | 66 => 215 | 76 => 234 | n => n, fun | n => n⟩
theorem Tryz.laysF48 : Go.Proofs.SlLaysF0.n48 Tryz.prog Tryz.laysF48_ren := {
 mixed := by kernel_rfl
 f48 := Tryz.func147.trans (congrArg some (by kernel_rfl))
 t0 := Tryz.underlying0
 a0 := Tryz.isAgg0
 z0 := Tryz.sizeOf0
 v0 := Tryz.zeroValue0
 t39 := Tryz.underlying173
 a39 := Tryz.isAgg173
 z39 := Tryz.sizeOf173
 v39 := Tryz.zeroValue173
 t55 := Tryz.underlying204
 a55 := Tryz.isAgg204
 z55 := Tryz.sizeOf204
 v55 := Tryz.zeroValue204
 t66 := Tryz.underlying215
 a66 := Tryz.isAgg215
 z66 := Tryz.sizeOf215
 v66 := Tryz.zeroValue215
 t76 := Tryz.underlying234
 a76 := Tryz.isAgg234
 z76 := Tryz.sizeOf234
 v76 := Tryz.zeroValue234 }
open Go.RowKit Go.Lib Go.Sort in
theorem Tryz.xorshift_Next (rb ro X : Nat) (hX : X < 18446744073709551616) (w : World) (hc : w.cell? ⟨rb, ro, none⟩ = some (.int .u64 X)) (hf : w.frozen? ⟨rb, ro, none⟩ = false) :
  Calls Tryz.prog 147 #[.pointer (some ⟨rb, ro, none⟩)] w fun e w' => e = .returned (.int .u64 (xorNextN X : Nat)) ∧ w' = (w.setCell ⟨rb, ro, none⟩ (.int .u64 (xorNextN X : Nat))).drewN 3 :=
 AnyF.xorshift_Next Tryz.laysF48 rb ro X hX w hc hf
end Go.Proofs
