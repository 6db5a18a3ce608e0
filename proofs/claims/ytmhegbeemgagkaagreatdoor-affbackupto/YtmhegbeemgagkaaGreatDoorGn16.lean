import Derived.Test.YtmhegbeemgagkaaGreatDoorGn15
namespace Go.Proofs.YtmhegbeemgagkaaGreatDoor
open Go.RowKit
namespace Pt
open Cd

def each : List (UInt8 → Bool) → List UInt8 → Bool
 | f :: fs, b :: bs => f b && each fs bs
 | _, _ => true

def Sz65 (X : Array Value) : Prop := X.size = 65
def ldP (v : Value) : Sem Value := Instr.loadAt 248 v
theorem load_as (v : Value) : Instr.loadAt 248 v = ldP v := rfl
theorem ldP_row {w : World} {g : Nat} {X : Array Value} (hg : w.heap[g]? = some (.cells X 248 (0, 0))) (h : Sz65 X) : (ldP (.pointer (some ⟨g, 0, none⟩))).run Tryz.prog w = .ok (.agg X) w := by
 have hl := run_loadVar_row (P := Tryz.prog) w g 248 248 X (0, 0) _ hg Tryz.underlying248 rfl (by rw [show X.size = 65 from h]; exact infoP)
 simp only [ldP, Instr.loadAt, Instr.sureAddr, Sem.run_bind, Sem.run_pure, Result.andThen_ok, hl]
theorem ldP_new (W : World) (X : Array Value) (h : Sz65 X) : (ldP (.pointer (some ⟨W.heap.size, 0, none⟩))).run Tryz.prog (W.alloc (.cells X 248)) = .ok (.agg X) (W.alloc (.cells X 248)) := ldP_row (heap_alloc_last W _) h
theorem ldP_drew (W : World) (X : Array Value) (h : Sz65 X) : (ldP (.pointer (some ⟨W.heap.size, 0, none⟩))).run Tryz.prog ((W.alloc (.cells X 248)).drew) = .ok (.agg X) ((W.alloc (.cells X 248)).drew) := ldP_row (heap_alloc_last W _) h
attribute [local go_sem ↓] load_as
attribute [local go_sem] ldP_new ldP_drew
end Pt
namespace Pt
open Cd
attribute [local go_sem ↓] load_as
attribute [local go_sem] ldP_new ldP_drew

end Pt
end Go.Proofs.YtmhegbeemgagkaaGreatDoor
