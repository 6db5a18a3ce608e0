/- Layer 5: plays of a store: Append. -/
import Derived.Test.YtdlmpogmoepkjaaDoorPlE
import Derived.Deep.RegionLaw
import Derived.Deep.RegionHeld3
namespace Go.Proofs.YtdlmpogmoepkjaaDoor
open Go.RowKit
namespace Rs
theorem step_app {P : Program} {ops : Array Oper} {o : Oper} {a : Act} {w : World} {K : Act → World → Prop} {Q : Exit → Act → World → Prop} {E : Prop}
    (hg : o.guard = none) (s x : Operand) (t : TypeId) (hop : o.op = Op.call { callee := Callee.builtin Builtin.append, args := #[s, x], argTypes := #[t, t] })
    (v u v' : Value) (w' : World) (hs : a.eval s = v) (hx : a.eval x = u) (hrun : (Builtin.append_ #[t, t] o.type #[v, u]).run P w = .ok v' w') (hK : K (a.put o.dst v') w') :
    if Region.wanted o (yielded ops a.tmps) = true then Oper.wp P o a w K Q else E := by
  have hw : Region.wanted o (yielded ops a.tmps) = true := by simp [Region.wanted, hg]
  rw [if_pos hw]
  unfold Oper.wp
  simp [execOp, hop, resolve, invoke, builtin, hs, hx, hrun, Result.andThen]
  exact hK
set_option maxRecDepth 100000 in
set_option maxHeartbeats 1000000 in
theorem plays_2 {w : World} {sb : Nat} {m : Sto} {F : Nat → Prop} {E : Nat → Addr} {B : Nat} {pv : Value} {o : Op5} (h : At w sb m F) (V : Env w E B) (hF : ∀ b, F b → B ≤ b) (hB : B ≤ w.heap.size) (ok : o.Ok) (hp : Strs w pv o.L) (hk : o.kd = 2) :
    Calls Tryd.prog 9 #[.pointer (some ⟨sb, 0, none⟩), opV o pv] w fun e w' => ∃ lv, e = .returned (ansV (ply m o).1 lv) ∧ Res F w sb (ply m o).2 w' ∧ Ints w' lv (ply m o).1.l := by
  have HR : ply m o = (⟨0, (app m o.run o.L).1, [], []⟩, (app m o.run o.L).2) := by unfold ply; rw [if_neg (by omega)]; rw [if_pos hk]
  rw [HR]
  have HOP : Hid (∀ W v, Below w.heap.size w W → Strs W v o.L → (∀ g off n c, v = .slice (some ⟨g, off, none⟩) n c → w.heap.size ≤ g) → Calls Tryd.prog 18 #[.pointer (some ⟨sb, 0, none⟩), .int .i64 o.run, v] W fun e w' => e = .returned (errV E (app m o.run o.L).1) ∧ Res F W sb (app m o.run o.L).2 w') := fun W v hb hst hg => append_any (at_below h hb) ((V.below (hb.mono hB)).gs hF) ok.r1 ok.r2 (by
    obtain ⟨ao, cp, rfl, hl, hc⟩ := hst
    refine ⟨ao, cp, rfl, hl, fun h0 => ?_⟩
    obtain ⟨g, off, e, hgl, hcc⟩ := hc h0
    exact ⟨g, off, e, hgl, fun hFg => by have := hg g off _ _ (by rw [e]); have := h.lt g hFg; omega, hcc⟩)
  have HCD : Hid (∀ w', Env w' E B → Calls Tryd.prog 24 #[errV E (app m o.run o.L).1] w' fun e w2 => e = .returned (.int .i64 (((app m o.run o.L).1 : Nat) : Int)) ∧ w2 = w') := fun w' v => code_any v (app_code m o.run o.L)
  have HSP := hide hp
  have HLL := hide ok.len
  obtain ⟨ao, cp, rfl, -, -⟩ := hp
  have hsb := h.lt _ h.own
  have HLT := hide h.lt
  have HTL : Hid (∀ W3 W4 w4, W3 = ((w.alloc (.cells #[.int .i64 2, .int .i64 o.run, .int .i64 o.at_, .int .i64 o.n, .slice ao o.L.length cp] 30)).alloc (.cells #[.int .i64 0, .int .i64 0, .string (strB []), .slice none 0 0] 33)).alloc (.cells #[.int .i64 0, .int .i64 0, .string (strB []), .slice none 0 0] 33) → Below W3.heap.size W3 W4 → Res F W4 sb ((app m o.run o.L).2) w4 → Tl w w4 E B F sb ((app m o.run o.L).2)) := fun W3 W4 w4 hW hb hr => Tl.mk0 hW V hB hF h.lt (Res.pre hb hr (fun b hb2 => Nat.lt_of_lt_of_le (h.lt b hb2) (by rw [hW]; simp; omega)))
  unfold opV ansV
  simp only [hk]
  generalize errV E (app m o.run o.L).1 = ev at *
  generalize (app m o.run o.L).1 = c1 at *
  generalize (app m o.run o.L).2 = m2 at *
  clear h V hF hk HR ok
  go_enter Tryd.func9, Tryd.ntmps9
  go_wp2
  refine gen_world ?_
  intro V hV
  have hbw : Below w.heap.size w V := by rw [hV]; (repeat (first | exact Below.refl _ _ | refine Below.drew ?_ | refine Below.alloc ?_ (by first | (simp; done) | (simp; omega)) _ | refine Below.setCell ?_ (by first | (simp; done) | (simp; omega)) _))
  have hst : Strs V.drew (.slice ao o.L.length cp) o.L := (unhide HSP).below hbw.drew
  obtain ⟨v', V', hap, hbV, hstr, hgs, a', c', rfl⟩ := copy_run hst (unhide HLL) 28
  have k1 : V.cell? ⟨w.heap.size, 1, none⟩ = some (.int .i64 o.run) := by rw [hV]; go_simp
  have k4 : V.cell? ⟨w.heap.size, 4, none⟩ = some (.slice ao o.L.length cp) := by rw [hV]; go_simp
  have hVs : w.heap.size < V.heap.size := by rw [hV]; simp; omega
  have j1 : V'.cell? ⟨w.heap.size, 1, none⟩ = some (.int .i64 o.run) := (hbV.cell (p := ⟨w.heap.size, 1, none⟩) hVs).trans k1
  have j4 : V'.cell? ⟨w.heap.size, 4, none⟩ = some (.slice ao o.L.length cp) := (hbV.cell (p := ⟨w.heap.size, 4, none⟩) hVs).trans k4
  have HOV := hide (unhide HOP V' (.slice a' o.L.length c') ((hbw.drew).trans (hbV.mono (by show w.heap.size ≤ V.heap.size; omega))) hstr (fun g off n c e => Nat.le_trans (Nat.le_of_lt hVs) (hgs g off n c e)))
  have HTV : Hid (∀ w4, Res F V' sb m2 w4 → Tl w w4 E B F sb m2) := fun w4 h4 => unhide HTL V V' w4 hV (((Below.refl _ V).drew).trans hbV) h4
  have HKP : Hid (∀ w4, Res F V' sb m2 w4 → w4.cell? ⟨w.heap.size, 1, none⟩ = some (.int .i64 o.run) ∧ w4.cell? ⟨w.heap.size, 4, none⟩ = some (.slice ao o.L.length cp)) := fun w4 h4 => by
    have hb2 : w4.heap[w.heap.size]? = V'.heap[w.heap.size]? := h4.2.block _ (Nat.lt_of_lt_of_le hVs hbV.size) fun e => by have := unhide HLT _ e; omega
    exact ⟨(World.cell?_of_block (a := ⟨w.heap.size, 1, none⟩) hb2).trans j1, (World.cell?_of_block (a := ⟨w.heap.size, 4, none⟩) hb2).trans j4⟩
  have HAP : Hid ((Builtin.append_ #[28, 28] 28 #[.slice none 0 0, .slice ao o.L.length cp]).run Tryd.prog V.drew = .ok (.slice a' o.L.length c') V') := hap
  generalize o.L.length = N at *
  clear hap hV hbw hst hbV hstr hgs hVs HOP HTL HSP
  go_region_held3 (fun w' => w'.cell? ⟨w.heap.size, 1, none⟩ = some (.int .i64 o.run) ∧ w'.cell? ⟨w.heap.size, 4, none⟩ = some (.slice ao N cp)) (first | exact ⟨i1, i4⟩ | exact ⟨j1, j4⟩ | exact ⟨k1, k4⟩) (first | (go_at_call 18; refine (unhide HOV).mono ?_; rintro e w4 ⟨rfl, h4⟩; have HT := hide (unhide HTV w4 h4); have i1 := (unhide HKP w4 h4).1; have i4 := (unhide HKP w4 h4).2; clear h4) | (refine step_app (by rfl) _ _ _ (by rfl) _ _ _ _ (by rfl) (by rfl) (by exact unhide HAP) ?_))
  all_goals
    clear HAP HOV HTV HKP k1 k4 j1 j4 i1 i4
    obtain ⟨q0, q1, q2, q3, qf⟩ := ans_cells (unhide HT).b2
    obtain ⟨p0, p1, p2, p3, pf⟩ := ans_cells (unhide HT).b1
    have hz := (unhide HT).sz
    go_wp2_with (go_at_call 24; refine (unhide HCD _ ((unhide HT).env.below (by (repeat (first | refine Below.setCell ?_ (by simp; omega) _ | refine Below.drew ?_ | exact Below.refl _ _))))).mono ?_; rintro e w5 ⟨rfl, rfl⟩)
    refine gen_post ?_
    intro V2 hV
    have HRS : Hid (Res F w sb m2 V2) := by
      rw [hV]
      refine (unhide HT).res _ ?_
      (repeat (first | refine Chg.setCell ?_ (.inl (by constructor <;> (simp; try omega))) _ | refine Chg.alloc ?_ _ | refine Chg.drew ?_ | exact Chg.refl _ _))
    have v0 : V2.cell? ⟨w.heap.size + 1, 0, none⟩ = some (.int .i64 0) := by rw [hV]; go_simp
    have v1 : V2.cell? ⟨w.heap.size + 1, 1, none⟩ = some (.int .i64 ((c1 : Nat) : Int)) := by rw [hV]; go_simp
    have v2 : V2.cell? ⟨w.heap.size + 1, 2, none⟩ = some (.string (strB [])) := by rw [hV]; go_simp
    have v3 : V2.cell? ⟨w.heap.size + 1, 3, none⟩ = some (.slice none 0 0) := by rw [hV]; go_simp
    clear hV p0 p1 p2 p3 q0 q1 q2 q3 pf qf
    exact bodyPost_ret (v := .agg #[.int .i64 0, .int .i64 ((c1 : Nat) : Int), .string (strB []), .slice none 0 0]) (by simp [results, Tryd.results9, go_sem, v0, v1, v2, v3]) rfl ⟨.slice none 0 0, rfl, unhide HRS, ints_nil _⟩
end Rs
end Go.Proofs.YtdlmpogmoepkjaaDoor
