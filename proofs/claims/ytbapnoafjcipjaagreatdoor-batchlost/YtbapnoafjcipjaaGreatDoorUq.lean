/- A region that draws its order, whose callees make memory and turn nothing old: one walk, in the text's order. -/
import Derived.Test.YtbapnoafjcipjaaGreatDoorGb
import Derived.Deep.Quiet
import Derived.BigQuiet
namespace Go.Proofs.YtbapnoafjcipjaaGreatDoor
open Go.RowKit
namespace Um

theorem wp_region_below {P : Program} {id : Nat} {Q : Exit → Act → World → Prop} {a : Act} {w : World} {l : List Oper} (hm : P.follows .mixedOrders = true) (hB : Region.lexB .any l.toArray = true)
    (h : wpQuiet P l.toArray (fun W' => Below w.heap.size w W') (fun a' => ∀ w', Below w.heap.size w w' → Q .normal a' w') l a) : (Code.region id l.toArray true).wp P Q a w :=
  wp_region_quiet (C := fun W' => Below w.heap.size w W') hm hB ((Below.refl _ w).drew) (by simpa using h)
theorem calls_keep {f : FuncId} {args : Array Value} {w0 W : World} {v : Value} (h : Calls Tryz.prog f args W fun e w' => e = .returned v ∧ Below W.heap.size W w') (hW : Below w0.heap.size w0 W) : Calls Tryz.prog f args W fun e w'' => e = .returned v ∧ Below w0.heap.size w0 w'' :=
  h.mono fun _ _ ⟨he, hb⟩ => ⟨he, hW.trans (hb.mono hW.size)⟩
end Um
end Go.Proofs.YtbapnoafjcipjaaGreatDoor
