/- Layer 7: the laws' twin and wakes. -/
import Derived.Test.YtddfljlecnllaaaHz
namespace Go.Proofs.Ytddfljlecnllaaa
open Go.RowKit
namespace Hp
theorem wpList_append_run {P : Program} {w : World} {ops : Array Oper} {rest : List Oper} {o : Oper} {a : Act} {Q : Exit → Act → World → Prop} (hgd : o.guard = none) (s x : Operand) (t t' : TypeId)
    (ho : o.op = .call { callee := .builtin .append, args := #[s, x], argTypes := #[t, t'] }) (v f : Value) (hs : a.eval s = v) (hx : a.eval x = f) (v2 : Value) (w2 : World) (hrun : (Builtin.append_ #[t, t'] o.type #[v, f]).run P w = .ok v2 w2)
    (h : wpList P ops Q rest (a.put o.dst v2) w2) : wpList P ops Q (o :: rest) a w := by
  refine wpList_plain hgd fun K hK => ?_
  unfold Oper.wp
  simp [execOp, ho, resolve, invoke, builtin, hs, hx, hrun, Result.andThen]
  exact hK _ _ h
/-- items of a list behind a row of items -/
theorem push_items {W : World} {v u : Value} {A X : List It} {F : Nat → Prop} (hown : W.ownsRow 0 39 2 v A.length (rowI A)) (hx : Its W u X F) (hz : A.length + X.length ≤ 2199023255552) (ty : TypeId) :
    ∃ v' W', (Builtin.append_ #[22, 22] ty #[v, u]).run Try.prog W = .ok v' W' ∧ W'.ownsRow 0 39 2 v' (A ++ X).length (rowI (A ++ X)) ∧ W.grownBy W' v.ownBlock ∧ (v'.ownBlock = v.ownBlock ∨ v'.ownBlock = some W.heap.size) := by
  obtain ⟨i, hi, hz'⟩ := Option.map_eq_some_iff.1 infoI
  simp only [Prod.mk.injEq] at hz'
  obtain ⟨hz0, hz1, hz2⟩ := hz'
  obtain ⟨ao, cap, rfl, hat⟩ := hx
  rcases ao with _ | ad
  · have hX : X = [] := by
      rcases Nat.eq_zero_or_pos X.length with h | h
      · exact List.eq_nil_of_length_eq_zero h
      · obtain ⟨g, off, e, _⟩ := hat h; cases e
    subst hX
    refine ⟨v, W, ?_, by simpa using hown, ⟨rfl, rfl, rfl, Nat.le_refl _, fun _ _ _ => rfl⟩, .inl rfl⟩
    exact run_append_owned_none (P := Try.prog) (w := W) 0 22 ty 39 i 2 Try.underlying22 hi v A.length (rowI A) hown
  · have q := append_blk (P := Try.prog) W 22 ty 39 i _ 2 16 Try.underlying22 hi hz0 hz1 hz2 rfl (by decide) v A.length (rowI A) hown ad X.length cap (rowI X) (rowI_len X) (fun j u hj => by
      have hjl := (List.getElem?_eq_some_iff.1 hj).1
      rw [rowI_len] at hjl
      obtain ⟨g, off, e, hg, hF, hc⟩ := hat (by omega)
      injection e with e
      subst e
      have hx := List.getElem?_eq_getElem (l := X) (i := j / 2) (by omega)
      obtain ⟨a1, a2⟩ := rowI_get hx
      obtain ⟨b1, b2⟩ := hc _ _ hx
      rw [addrO]
      rcases Nat.mod_two_eq_zero_or_one j with e | e
      · have ej : j = j / 2 * 2 := by omega
        rw [← ej] at a1 b1
        rw [hj] at a1
        rw [b1, a1]
      · have ej : j = j / 2 * 2 + 1 := by omega
        rw [← ej] at a2
        rw [Nat.add_assoc, ← ej] at b2
        rw [hj] at a2
        rw [b2, a2]) (by intro u hu; simp [rowI] at hu; obtain ⟨a, b, _, rfl | rfl⟩ := hu <;> rfl) (by unfold maxLen; omega) (by omega)
    rw [rowI_app, List.length_append]
    exact q
theorem twin_any {w : World} {v : Value} {X : List It} {F : Nat → Prop} (hx : Its w v X F) (hz : X.length ≤ 2199023255552) :
    Calls Try.prog 10 #[v] w fun e w' => ∃ u, e = .returned u ∧ IRow w' u X (fun b => b < w.heap.size) ∧ Below w.heap.size w w' := by
  obtain ⟨v', W', hrun, hown, hg, hb⟩ := push_items (W := w) (v := .slice none 0 0) (A := []) (World.ownsRow_nil _ _ _ _) hx (by simpa using hz) 22
  have HR : Hid (IRow W' v' X (fun b => b < w.heap.size) ∧ Below w.heap.size w W') := ⟨⟨by simpa using hown, fun g hg' => by
    rcases hb with e | e
    · rw [e] at hg'; cases hg'
    · rw [e] at hg'; injection hg' with hg'; omega⟩, (Below.refl _ w).grown hg (Nat.le_refl _) (fun k hk => by cases hk)⟩
  have HRUN := hide hrun
  clear hrun hown hg hb hx
  go_enter Try.func10, Try.ntmps10
  go_wp2_with (at_builtin; refine wpList_append_run rfl _ _ 22 22 rfl _ _ rfl rfl v' W' (unhide HRUN) ?_)
  go_ret
  exact ⟨_, rfl, unhide HR⟩
set_option maxRecDepth 100000 in
set_option maxHeartbeats 1000000 in
theorem wakes_any (w : World) : Calls Try.prog 12 #[] w fun e w' => e = .returned (.bool true) ∧ Below w.heap.size w w' := by
  have HIT : Hid (∀ W : World, Its (W.alloc (.cells #[.int .i64 3, .int .i64 1, .int .i64 1, .int .i64 2] 39)) (.slice (some ⟨W.heap.size, 0, none⟩) 2 2) [(3, 1), (1, 2)] (fun b => (W.alloc (.cells #[.int .i64 3, .int .i64 1, .int .i64 1, .int .i64 2] 39)).heap.size ≤ b)) := fun W => by
    refine ⟨_, _, rfl, fun _ => ⟨_, _, rfl, by simp, by simp, fun j x hj => ?_⟩⟩
    rcases j with _ | _ | j
    · simp at hj; subst hj; exact ⟨by simp, by simp⟩
    · simp at hj; subst hj; exact ⟨by simp, by simp⟩
    · simp at hj
  have HL2 : Hid (([(3, 1), (1, 2)] : List It).length ≤ 1099511627775) := by simp [Hid]
  have HL3 : Hid (([(3, 1), (1, 2)] : List It).length ≤ 1099511627776) := by simp [Hid]
  have HDR : Hid (drain rise_ [((3 : Int), (1 : Int)), (1, 2)] = [(1, 2), (3, 1)]) := by unfold Hid; decide
  go_enter Try.func12, Try.ntmps12
  go_wp2_with fail
  have HI0 := unhide HIT w
  have HBW : Hid (Below w.heap.size w (w.alloc (.cells #[.int .i64 3, .int .i64 1, .int .i64 1, .int .i64 2] 39))) := (Below.refl _ _).alloc (Nat.le_refl _) _
  generalize w.alloc (.cells #[.int .i64 3, .int .i64 1, .int .i64 1, .int .i64 2] 39) = W1 at *
  have HI := hide (items_any HI0 (unhide HL2))
  clear HI0 HIT
  refine (unhide HI).mono ?_
  rintro e w1 ⟨rfl, h1, h2⟩
  have HD := hide (drain_any lessV_item h1 (unhide HL3))
  have H2 := hide h2
  clear h1 h2 HI
  rw [unhide HDR] at HD
  go_wp2_with fail
  refine (unhide HD).mono ?_
  rintro e w2 ⟨v, rfl, h3⟩
  have HB3 : Hid (Below w.heap.size w w2) := by
    have s1 := (unhide HBW).size
    exact (unhide HBW).trans (((unhide H2).mono s1).trans (h3.choose_spec.2.2.2.below (Nat.le_trans s1 (unhide H2).size) (fun k hk => by omega)))
  obtain ⟨G, -, -, h4, -⟩ := h3
  obtain ⟨ao, cap, rfl, hat⟩ := h4.its
  obtain ⟨g, off, rfl, hg, -, hc⟩ := hat (by simp)
  obtain ⟨x0, x1⟩ := hc 0 _ rfl
  obtain ⟨y0, y1⟩ := hc 1 _ rfl
  simp only [Nat.zero_mul, Nat.add_zero, Nat.one_mul] at x0 x1 y0 y1
  simp only [List.length_cons, List.length_nil, Nat.zero_add, Nat.reduceAdd]
  clear hc hat h4 HD
  go_wp2
  go_ret
  exact ⟨rfl, unhide HB3⟩
end Hp
end Go.Proofs.Ytddfljlecnllaaa
