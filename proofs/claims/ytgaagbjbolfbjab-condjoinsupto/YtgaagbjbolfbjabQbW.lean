/- A region that draws its order, whose callees make memory and turn nothing old: one walk, in the text's order. -/
import Derived.Test.YtgaagbjbolfbjabRtB
import Derived.Deep.Quiet
import Derived.BigQuiet
namespace Go.Proofs.Ytgaagbjbolfbjab
open Go.RowKit
namespace Pt
open Cd

theorem wp_region_below {P : Program} {id : Nat} {Q : Exit → Act → World → Prop} {a : Act} {w : World} {l : List Oper} (hm : P.follows .mixedOrders = true) (hB : Region.lexB .any l.toArray = true)
    (h : wpQuiet P l.toArray (fun W' => Below w.heap.size w W') (fun a' => ∀ w', Below w.heap.size w w' → Q .normal a' w') l a) : (Code.region id l.toArray true).wp P Q a w :=
  wp_region_quiet (C := fun W' => Below w.heap.size w W') hm hB ((Below.refl _ w).drew) (by simpa using h)
theorem quiet_ld {o : Oper} {a : Act} {C : World → Prop} {K : Act → Prop} (x : Operand) (ho : o.op = .load 31 x) (g : Nat) (hx : a.eval x = .pointer (some ⟨g, 0, none⟩)) (X : Array Value) (hX : Sz65 X) (hC : ∀ W, C W → W.heap[g]? = some (.cells X 31 (0, 0))) (hk : K (a.put o.dst (.agg X))) : o.quiet Try.prog a C K := by
  refine ⟨.agg X, fun W hW => ?_, hk⟩
  have hl := run_loadVar_row (P := Try.prog) W g 31 31 X (0, 0) _ (hC W hW) Try.underlying31 rfl (by rw [show X.size = 65 from hX]; exact infoP)
  unfold Oper.quietAt execOp
  simp only [ho, hx, Instr.loadAt, Instr.sureAddr, Sem.run_bind, Sem.run_pure, Result.andThen_ok, hl]
  exact ⟨rfl, rfl⟩
theorem calls_keep {f : FuncId} {args : Array Value} {w0 W : World} {v : Value} (h : Calls Try.prog f args W fun e w' => e = .returned v ∧ Below W.heap.size W w') (hW : Below w0.heap.size w0 W) : Calls Try.prog f args W fun e w'' => e = .returned v ∧ Below w0.heap.size w0 w'' :=
  h.mono fun _ _ ⟨he, hb⟩ => ⟨he, hW.trans (hb.mono hW.size)⟩
end Pt
end Go.Proofs.Ytgaagbjbolfbjab
