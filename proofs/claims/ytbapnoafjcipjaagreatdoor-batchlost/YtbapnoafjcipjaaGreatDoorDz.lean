/- The base of the texts on the document's store, in layer 6. -/
import Derived.Test.YtbapnoafjcipjaaGreatDoorGe
import Derived.Test.YtbapnoafjcipjaaGreatDoorRxb
import Derived.Deep.RegionLaw
import Derived.Deep.RegionHeld3
namespace Go.Proofs.YtbapnoafjcipjaaGreatDoor
open Go.RowKit
namespace Rs
theorem own_base {W : World} {B B2 : Nat} {e : TypeId} {size n : Nat} {v : Value} {xs : List Value} (h : W.ownsRow B e size v n xs) (hB : B2 ≤ B) : W.ownsRow B2 e size v n xs := by
  obtain ⟨hl, h1 | ⟨g, cap, cur, e1, h1, r⟩⟩ := h
  · exact ⟨hl, .inl h1⟩
  · exact ⟨hl, .inr ⟨g, cap, cur, e1, Nat.le_trans hB h1, r⟩⟩
theorem Res.pre {F : Nat → Prop} {W3 W4 w4 : World} {sb : Nat} {m : Sto} (hb : Below W3.heap.size W3 W4) (h : Res F W4 sb m w4) (hlt : ∀ b, F b → b < W3.heap.size) : Res F W3 sb m w4 :=
  ⟨h.1.kept (fun _ _ => rfl) (fun b hu => hu.imp id fun x => ⟨Nat.le_trans hb.size x.1, x.2⟩) (fun b hu => by
    rcases hu with hu | hu
    · have := hlt b hu; have := hb.size; have := h.2.size; omega
    · exact hu.2), ⟨h.2.os.trans hb.os, h.2.tape.trans hb.tape, h.2.output.trans hb.output, Nat.le_trans hb.size h.2.size, fun k hk hn => (h.2.block k (Nat.lt_of_lt_of_le hk hb.size) hn).trans (hb.block k hk)⟩⟩
theorem step_app {P : Program} {ops : Array Oper} {o : Oper} {a : Act} {w : World} {K : Act → World → Prop} {Q : Exit → Act → World → Prop} {E : Prop}
    (hg : o.guard = none) (s x : Operand) (t : TypeId) (hop : o.op = Op.call { callee := Callee.builtin Builtin.append, args := #[s, x], argTypes := #[t, t] })
    (v u v' : Value) (w' : World) (hs : a.eval s = v) (hx : a.eval x = u) (hrun : (Builtin.append_ #[t, t] o.type #[v, u]).run P w = .ok v' w') (hK : K (a.put o.dst v') w') :
    if Region.wanted o (yielded ops a.tmps) = true then Oper.wp P o a w K Q else E := by
  have hw : Region.wanted o (yielded ops a.tmps) = true := by simp [Region.wanted, hg]
  rw [if_pos hw]
  unfold Oper.wp
  simp [execOp, hop, resolve, invoke, builtin, hs, hx, hrun, Result.andThen]
  exact hK
end Rs
end Go.Proofs.YtbapnoafjcipjaaGreatDoor
