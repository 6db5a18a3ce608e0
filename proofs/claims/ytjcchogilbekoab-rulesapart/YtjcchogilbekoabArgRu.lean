/- Layer 15: what it is that a rule came in. No walk. -/
import Derived.Test.YtjcchogilbekoabRows
import Derived.ProofKit
import Derived.OpenShut
import Derived.Deep.Slices
import Derived.SizedLaws
import Derived.Lib.SmallJoins
namespace Go.Proofs.Ytjcchogilbekoab
open Go.RowKit Go.WideShapes Go.ChangeShapes
namespace ArgB
theorem laidOut : laidOutB Try.prog = true := by kernel_rfl
section
variable {H : Type} {enc : TypeId × Value → H} {P : Program} {w : World} {base : Nat} {spare : Nat → Bool} {held : Bool}
theorem array7 {α : Type} {cs : Array α} (h : cs.size = 7) : ∃ c0 c1 c2 c3 c4 c5 c6, cs = #[c0, c1, c2, c3, c4, c5, c6] := by
  obtain ⟨l⟩ := cs
  match l, h with
  | [c0, c1, c2, c3, c4, c5, c6], _ => exact ⟨c0, c1, c2, c3, c4, c5, c6, rfl⟩
theorem open_agg7 {r : Reach} {b0 : Nat} {t : TypeId} {f0 f1 f2 f3 f4 f5 f6 : Field} {v : Value} {d : DataW H} {p : List MemPlace} (hs : P.underlying t = some (.struct #[f0, f1, f2, f3, f4, f5, f6])) (hone : Go.Deep.oneCellFields P #[f0, f1, f2, f3, f4, f5, f6] = true) (hC : P.cellsOf t = 7)
    (hv : Value.okWide P w r b0 t v) (h : DataW.Trod enc P w base spare held t v d p) :
    ∃ (v0 v1 v2 v3 v4 v5 v6 : Value) (y0 y1 y2 y3 y4 y5 y6 : DataW H × List MemPlace) (n : Nat), v = .agg #[v0, v1, v2, v3, v4, v5, v6] ∧ d = .agg [y0.1, y1.1, y2.1, y3.1, y4.1, y5.1, y6.1] ∧ DataW.trod enc P w base spare held n f0.type [v0] = some y0 ∧ DataW.trod enc P w base spare held n f1.type [v1] = some y1 ∧ DataW.trod enc P w base spare held n f2.type [v2] = some y2 ∧ DataW.trod enc P w base spare held n f3.type [v3] = some y3 ∧ DataW.trod enc P w base spare held n f4.type [v4] = some y4 ∧ DataW.trod enc P w base spare held n f5.type [v5] = some y5 ∧ DataW.trod enc P w base spare held n f6.type [v6] = some y6 := by
  obtain ⟨cs, rfl, hsz⟩ := okWide_struct hs hv
  obtain ⟨c0, c1, c2, c3, c4, c5, c6, rfl⟩ := array7 (hsz.trans hC)
  obtain ⟨fuel, hf⟩ := h
  obtain ⟨xs, n, _, hx, _, hlen, hg⟩ := DataW.trod_struct hs hf
  obtain ⟨o0, k0⟩ := Go.Deep.hone_of hone 0 f0 rfl
  obtain ⟨o1, k1⟩ := Go.Deep.hone_of hone 1 f1 rfl
  obtain ⟨o2, k2⟩ := Go.Deep.hone_of hone 2 f2 rfl
  obtain ⟨o3, k3⟩ := Go.Deep.hone_of hone 3 f3 rfl
  obtain ⟨o4, k4⟩ := Go.Deep.hone_of hone 4 f4 rfl
  obtain ⟨o5, k5⟩ := Go.Deep.hone_of hone 5 f5 rfl
  obtain ⟨o6, k6⟩ := Go.Deep.hone_of hone 6 f6 rfl
  match xs, hlen with
  | [y0, y1, y2, y3, y4, y5, y6], _ =>
    simp only [Prod.mk.injEq] at hx
    exact ⟨c0, c1, c2, c3, c4, c5, c6, y0, y1, y2, y3, y4, y5, y6, n, rfl, hx.1, by simpa [Value.cells, o0, k0] using hg 0 f0 rfl, by simpa [Value.cells, o1, k1] using hg 1 f1 rfl, by simpa [Value.cells, o2, k2] using hg 2 f2 rfl, by simpa [Value.cells, o3, k3] using hg 3 f3 rfl, by simpa [Value.cells, o4, k4] using hg 4 f4 rfl, by simpa [Value.cells, o5, k5] using hg 5 f5 rfl, by simpa [Value.cells, o6, k6] using hg 6 f6 rfl⟩
end
section
variable {H : Type} {enc : TypeId × Value → H} {w : World}
set_option maxRecDepth 100000 in
theorem open_rule {r : Reach} {b0 : Nat} {v : Value} {d : DataW H} {p : List MemPlace} (hv : Value.okWide Try.prog w r b0 26 v) (h : DataW.Trod enc Try.prog w 0 (fun _ => true) true 26 v d p) :
    ∃ (k fl : Int) (cr : Bool) (st ad cd : ByteArray) (ao : Option Addr) (nl nc : Nat) (d6 : DataW H), v = .agg #[.int .i64 k, .int .u16 fl, .bool cr, .string st, .string ad, .string cd, .slice ao nl nc] ∧ d = .agg [.lit (.int .i64 k), .lit (.int .u16 fl), .lit (.bool cr), .lit (.string st.data.toList), .lit (.string ad.data.toList), .lit (.string cd.data.toList), d6] := by
  obtain ⟨v0, v1, v2, v3, v4, v5, v6, y0, y1, y2, y3, y4, y5, y6, n, rfl, rfl, h0, h1, h2, h3, h4, h5, h6⟩ := open_agg7 Try.underlying26 (by kernel_rfl) (by kernel_rfl) hv h
  obtain ⟨k, hk, e0, _⟩ := DataW.trod_int Try.underlying3 h0
  obtain ⟨fl, hfl, e1, _⟩ := DataW.trod_int Try.underlying23 h1
  obtain ⟨cr, hcr, e2⟩ := DataW.trod_bool Try.underlying4 h2
  obtain ⟨st, hst, e3, _⟩ := DataW.trod_string Try.underlying9 h3
  obtain ⟨ad, had, e4, _⟩ := DataW.trod_string Try.underlying9 h4
  obtain ⟨cd, hcd, e5, _⟩ := DataW.trod_string Try.underlying9 h5
  have h7 : ∃ a len cap, v6 = .slice a len cap := by
    rcases Go.Deep.open_slice1 Try.underlying24 (by kernel_rfl) h6 with ⟨hcs, _⟩ | ⟨x, len', cap', m, n, V, D, Pl, hcs, _⟩
    · exact ⟨_, _, _, by simpa using hcs⟩
    · exact ⟨_, _, _, by simpa using hcs⟩
  obtain ⟨ao, nl, nc, rfl⟩ := h7
  simp only [List.cons.injEq, and_true] at hk hfl hcr hst had hcd
  subst hk; subst hfl; subst hcr; subst hst; subst had; subst hcd
  exact ⟨k, fl, cr, st, ad, cd, ao, nl, nc, y6.1, rfl, by rw [e0, e1, e2, e3, e4, e5]⟩
/-- how long a rule's pieces may be -/
theorem rule_sized {ts : List TypeId} {ds : List (DataW H)} (h : (DataW.weightsEach Try.prog ts ds).all (· ≤ reachBytes) = true) {j : Nat} {k fl : Int} {cr : Bool} {st ad cd : ByteArray} {d6 : DataW H} (ht : ts[j]? = some 26) (hd : ds[j]? = some (.agg [.lit (.int .i64 k), .lit (.int .u16 fl), .lit (.bool cr), .lit (.string st.data.toList), .lit (.string ad.data.toList), .lit (.string cd.data.toList), d6])) :
    st.size ≤ 140737488351232 ∧ ad.size ≤ 140737488351232 ∧ cd.size ≤ 140737488351232 := by
  have g : ∀ n, n ∈ DataW.weights Try.prog 26 (.agg [.lit (.int .i64 k), .lit (.int .u16 fl), .lit (.bool cr), .lit (.string st.data.toList), .lit (.string ad.data.toList), .lit (.string cd.data.toList), d6]) → n ≤ 140737488351232 := fun n hn => by
    have := List.all_eq_true.1 h _ (DataW.weights_mem_each ht hd n hn)
    have h2 : n ≤ reachBytes := by simpa using this
    have h3 : reachBytes = 140737488351232 := by decide
    omega
  have e : ∀ s : ByteArray, s.data.toList.length = s.size := fun s => by simp
  simp only [DataW.weights, Try.underlying26] at g
  refine ⟨g _ ?_, g _ ?_, g _ ?_⟩ <;> simp [DataW.weightsEach, DataW.weights]
end
end ArgB
end Go.Proofs.Ytjcchogilbekoab
