/- Layer 5: Remove. -/
import Derived.Test.YtigffjbefbndnaaDoorGa
namespace Go.Proofs.YtigffjbefbndnaaDoor
open Go.RowKit
namespace Rs
def rem (m : Sto) (k : Int) : Nat × Sto :=
  match look m.runs k with
    | none => (3, m)
    | some _ => (0, { m with runs := drop m.runs k })
theorem drop_ok {m : Sto} (h : m.Ok) {r : Run} (h0 : r ∈ m.runs) : ({ m with runs := drop m.runs r.num } : Sto).Ok := by
  have e := tot_drop h.sorted h0
  have k1 := h.used
  have k2 := h.peak
  exact ⟨h.cap, h.made, by simp only; omega, by simp only; omega, h.peakle, h.ahead, drop_sorted _ h.sorted, fun x hx => h.nums x (drop_mem hx).1⟩
theorem Mp.setSb {w : World} {bm sb : Nat} {sl : Nat → Value} {fl : Nat → Bool} {l : List Run} {F : Nat → Prop} {C : Array Value} (h : Mp w bm sl fl l F) (hs : w.heap[sb]? = some (.cells C 52 (0, 0))) (j : Nat) (v : Value) : Mp (w.setCell ⟨sb, j, none⟩ v) bm sl fl l F := by
  refine ⟨h.bmF, map_kept h.map (Below.heap_setCell _ _ _ _ fun e => ?_), ⟨h.rows.fl, fun r hr => own_kept (h.rows.own r hr) fun g hg => Below.heap_setCell _ _ _ _ fun e => ?_, h.rows.inF, h.rows.apart⟩⟩
  · obtain ⟨es, cl, hb, _⟩ := h.map
    rw [show bm = sb from e, hs] at hb
    cases hb
  · obtain ⟨c, fz, hk⟩ := Lib.ownsRow_kind (h.rows.own r hr) g hg
    rw [show g = sb from e, hs] at hk
    injection hk with hk
    injection hk with _ hk _
    exact absurd hk (by decide)
theorem wpList_del (w : World) {ops : Array Oper} {rest : List Oper} {o : Oper} {a : Act} {Q : Exit → Act → World → Prop} (hg : o.guard = none) (mm x : Operand) (hop : o.op = Op.call { callee := Callee.builtin Builtin.delete, args := #[mm, x], argTypes := #[50, 3] })
    (b : Nat) (sl : Nat → Value) (fl : Nat → Bool) (l : List Run) (F : Nat → Prop) (k : Int) (hm : a.eval mm = .map (some b)) (hx : a.eval x = .int .i64 k) (h : Mp w b sl fl l F) (h1 : -9223372036854775808 ≤ k) (h2 : k ≤ 9223372036854775807)
    (hK : ∀ w', Mp w' b sl fl (drop l k) F → w.grownBy w' (some b) → wpList Tryd.prog ops Q rest (a.put o.dst (.tuple #[])) w') : wpList Tryd.prog ops Q (o :: rest) a w := by
  refine wpList_plain hg fun K' hK' => ?_
  obtain ⟨w', hrun, r1, r2⟩ := h.del h1 h2 o.type
  unfold Oper.wp
  simp [execOp, hop, resolve, invoke, builtin, hm, hx, hrun, Result.andThen]
  exact hK' _ _ (hK w' r1 r2)
theorem remove_nil (w : World) (k : Int) {E : Nat → Addr} {F : Nat → Prop} (G : Gs w E F) : Calls Tryd.prog 45 #[.pointer none, .int .i64 k] w fun e w' => e = .returned (errV E 1) ∧ Below w.heap.size w w' := by
  have HF := hide (find_nil w k G)
  clear G
  go_enter Tryd.func45, Tryd.ntmps45
  go_wp2_with (go_at_call 42; refine (unhide HF).mono ?_; rintro e w1 ⟨rfl, hb⟩; have HB := hide hb; clear hb)
  go_ret
  exact ⟨rfl, (unhide HB).trans (((Below.refl _ _).alloc (Nat.le_refl _) _).mono (unhide HB).size)⟩
set_option maxRecDepth 100000 in
set_option maxHeartbeats 1000000 in
theorem remove_any {w : World} {sb : Nat} {m : Sto} {F : Nat → Prop} {E : Nat → Addr} {k : Int} (h : At w sb m F) (G : Gs w E F) (hk1 : -9223372036854775808 ≤ k) (hk2 : k ≤ 9223372036854775807) :
    Calls Tryd.prog 45 #[.pointer (some ⟨sb, 0, none⟩), .int .i64 k] w fun e w' => e = .returned (errV E (rem m k).1) ∧ Res F w sb (rem m k).2 w' := by
  rcases hl : look m.runs k with _ | r
  · have HR : Hid (rem m k = (3, m)) := hide (by unfold rem; rw [hl])
    have HF := hide (find_none h G hk1 hk2 hl)
    have H1 := hide (h.res (Chg.refl F w))
    clear h G hl
    rw [unhide HR]
    go_enter Tryd.func45, Tryd.ntmps45
    go_wp2_with (go_at_call 42; refine (unhide HF).mono ?_; rintro e w1 ⟨rfl, hb⟩; have H2 := hide ((unhide H1).below hb); clear hb)
    go_ret
    exact ⟨rfl, (unhide H2).below ((Below.refl _ _).alloc (Nat.le_refl _) _)⟩
  · have HR : Hid (rem m k = (0, { m with runs := drop m.runs k })) := hide (by unfold rem; rw [hl])
    obtain ⟨bm, sl, fl, hin⟩ : ∃ bm sl fl, In w sb m F bm sl fl := by
      rcases h.open with ⟨_, he⟩ | hx
      · have := (look_mem hl).1
        rw [he] at this
        cases this
      · exact hx
    have hf := find_some hin hk1 hk2 hl
    have HM := hide (look_mem hl)
    obtain ⟨a, c, ev⟩ := own_slice (hin.rows.own r (unhide HM).1)
    rw [ev] at hf
    have HF := hide hf
    have HI := hide hin
    have hU := tot_mem (unhide HM).1
    have hU2 : tot m.runs ≤ 67108864 := by have := hin.ok.used; have := hin.ok.cap; omega
    clear h G hl hf ev hin
    rw [unhide HR]
    go_enter Tryd.func45, Tryd.ntmps45
    go_wp2_with fail
    refine (unhide HF).mono ?_
    rintro e w2 ⟨rfl, hb⟩
    have HI2 := hide ((unhide HI).below hb)
    have H22 : Hid (Chg F w w2) := Chg.of_below hb
    have c1 := (cells_sto (unhide HI2).sto).2.1
    have hsb := (unhide HI2).lt _ (unhide HI2).own
    clear hb
    go_wp2_with (at_delete; refine wpList_del _ rfl _ _ rfl bm sl fl m.runs F k rfl rfl (by exact ((unhide HI2).alloc _).mp) hk1 hk2 ?_; intro V1 hmp hgr; have HMP := hide hmp; have HGR := hide hgr; clear hmp hgr)
    have hsto : V1.heap[sb]? = some (.cells (stoC m (.map (some bm))) 52 (0, 0)) := by
      have hne : sb ≠ bm := fun e => by
        obtain ⟨es, cl, hb, _⟩ := (unhide HI2).map
        rw [← e, (unhide HI2).sto] at hb
        cases hb
      rw [(unhide HGR).block sb (by simp; omega) (fun e => hne (by cases e; rfl))]
      exact ((unhide HI2).alloc _).sto
    have j0 : V1.cell? ⟨w2.heap.size, 0, none⟩ = some (.slice a r.txt.length c) := by
      refine (unhide HGR).cell (a := ⟨w2.heap.size, 0, none⟩) (by rw [World.cell?_alloc_at _ _ _ _ rfl]; rfl) ?_
      have := (unhide HI2).lt _ (unhide HI2).bmF
      intro e
      injection e with e
      simp only at e
      omega
    obtain ⟨-, -, -, k3, -, -, kf⟩ := cells_sto hsto
    have HFIN : Hid (Res F w sb { m with runs := drop m.runs k } (V1.setCell ⟨sb, 3, none⟩ (.int .i64 ((tot m.runs : Int) - r.txt.length)))) := by
      have et := tot_drop (unhide HI).ok.sorted (unhide HM).1
      have ek := (unhide HM).2
      rw [ek] at et
      have ok := drop_ok (unhide HI).ok (unhide HM).1
      rw [ek] at ok
      refine res_of ok ?_ ((unhide HMP).setSb hsto 3 _) (fun b hb => .inl hb) (unhide HI).lt (unhide HI).own ((((unhide H22).alloc _).grown (unhide HGR) (fun k hk => by cases hk; exact .inl (unhide HI).bmF)).setCell (.inl (unhide HI).own) _)
      rw [set_heap1 hsto]
      have e3 : ((tot m.runs : Nat) : Int) - r.txt.length = ((tot (drop m.runs k) : Nat) : Int) := by omega
      rw [e3]
      rfl
    generalize tot m.runs = U at *
    have HW := hide (IntWalk.i64_in ((U : Int) - (r.txt.length : Int)) (by omega))
    clear hsto c1 hsb
    go_region
    all_goals
      go_wp2
      go_ret
      rw [unhide HW]
      exact ⟨rfl, (unhide HFIN).below (Below.refl _ _).drew⟩
end Rs
end Go.Proofs.YtigffjbefbndnaaDoor
