import Derived.Test.YtmhegbeemgagkaaGreatDoorGn20
namespace Go.Proofs.YtmhegbeemgagkaaGreatDoor
open Go.RowKit
namespace Af
open RowB
theorem farg_own {n : Nat} {W : World} {v : Value} {l : List Int} (h : W.ownsRow n 34 1 v l.length (l.map So.encF)) : So.FArg W v l := by
 obtain ⟨hl, ⟨e1, e2⟩ | ⟨g, cap, cur, e1, h1, hg, h2, h3, h4, h5⟩⟩ := id h
 ·obtain rfl : l = [] := List.eq_nil_of_length_eq_zero e2
  rw [e1]
  exact So.nil_farg _
 ·subst e1
  exact ⟨_, cap, rfl, h2, h3, (fun e => by cases e), fun h0 => ⟨g, 0, rfl, lt_some hg, fun j x hx => by
   have hj := (List.getElem?_eq_some_iff.1 hx).1
   rw [Nat.zero_add, h.cellAt j (by omega)]
   simp [hx]⟩⟩
theorem wAppend {P : Program} {w : World} {ops : Array Oper} {rest : List Oper} {o : Oper} {a : Act} {Q : Exit → Act → World → Prop} (hgd : o.guard = none) (s x : Operand) (t t' : TypeId)
  (ho : o.op = .call { callee := .builtin .append, args := #[s, x], argTypes := #[t, t'] }) (v f : Value) (hs : a.eval s = v) (hx : a.eval x = f) (v2 : Value) (w2 : World) (hrun : (Builtin.append_ #[t, t'] o.type #[v, f]).run P w = .ok v2 w2)
  (h : wpList P ops Q rest (a.put o.dst v2) w2) : wpList P ops Q (o :: rest) a w := by
 refine wpList_plain hgd fun K hK => ?_
 unfold Oper.wp
 simp [execOp, ho, resolve, invoke, builtin, hs, hx, hrun, Result.andThen]
 exact hK _ _ h
theorem flags_new (f : Value) (F : List Int) (W : World) (hF : So.FArg W f F) (hn : F.length ≤ 1048576) :
  ∃ u W2, (Builtin.append_ #[44, 44] 44 #[.slice none 0 0, f]).run Tryz.prog W = .ok u W2 ∧ So.FArg W2 u F ∧ Below W.heap.size W W2 := by
 obtain ⟨i0, hi, hz0, hz1, hz2⟩ := So.info_parts So.infoF
 obtain ⟨ao, cap, rfl, hc, hm, hnn, hcell⟩ := hF
 by_cases h0 : 0 < F.length
 ·obtain ⟨g, off, rfl, hg, hcl⟩ := hcell h0
  obtain ⟨v2, w2, hrun, hown, hgrow, _⟩ := run_append_own (P := Tryz.prog) W W.heap.size 44 44 34 i0 (.int .u16 0) 1 2 Tryz.underlying44 hi hz0 hz1 hz2 rfl (by decide) (.slice none 0 0) 0 [] (World.ownsRow_nil _ _ _ _) ⟨g, off, none⟩ F.length cap (F.map So.encF) (by simp) (fun j u hu => by
   obtain ⟨x, hx, rfl⟩ : ∃ x, F[j]? = some x ∧ So.encF x = u := by simpa using hu
   rw [Go.WideShapes.add_plain]
   exact hcl j x hx) (fun u hu => by obtain ⟨x, _, rfl⟩ := List.mem_map.1 hu; rfl) (by unfold maxLen; omega) (by omega) (Nat.le_refl _)
  exact ⟨v2, w2, hrun, farg_own (by simpa using hown), (Below.refl _ W).grown hgrow (Nat.le_refl _) (fun k e => by cases e)⟩
 ·obtain rfl : F = [] := List.eq_nil_of_length_eq_zero (by omega)
  refine ⟨.slice none 0 0, W, ?_, So.nil_farg _, Below.refl _ _⟩
  rw [show ([] : List Int).length = 0 from rfl]
  cases ao with
  | none => simp [Builtin.append_, run_underlying Tryz.underlying44, sizeOf, typeInfo, hi, Builtin.lenOf, Builtin.firstCells]
  | some a => simp [Builtin.append_, run_underlying Tryz.underlying44, sizeOf, typeInfo, hi, Builtin.lenOf, run_firstCells_some W i0.size 0 a 0 cap [] (by simp) (fun j u h => by simp at h)]

end Af
end Go.Proofs.YtmhegbeemgagkaaGreatDoor
