/- Layer 5: the document's Remove. -/
import Derived.Test.YtdcffkahijpcbabDoorDf
namespace Go.Proofs.YtdcffkahijpcbabDoor
open Go.RowKit
namespace Rs
theorem rowD_len (sl : Nat → Value) (l : List Run) : (rowD sl l).length = l.length * 3 := by
  induction l with
  | nil => rfl
  | cons x t ih => rw [rowD_cons]; simp [ih]; omega
theorem rowD_app (sl : Nat → Value) (l : List Run) (r : Run) : rowD sl (l ++ [r]) = rowD sl l ++ [.int .i64 r.num, sl r.num, .bool r.shut] := by simp [rowD]
/-- the row was laid anew -/
theorem DIn.newRow {w wr : World} {sb n : Nat} {m m' : Sto} {F : Nat → Prop} {rv v : Value} {sl sl' : Nat → Value} (h : DIn w sb m F rv sl) (hb : Below w.heap.size w wr) (ho : wr.ownsRow w.heap.size 131 3 v n (rowD sl' m'.runs)) (hn : n = m'.runs.length) (ok : m'.Ok) (hst : (stoD m rv).setIfInBounds 4 v = stoD m' v)
    (ht : ∀ r ∈ m'.runs, (∃ r0 ∈ m.runs, r.num = r0.num ∧ r.txt = r0.txt ∧ sl' r.num = sl r0.num) ∨ (r.txt = [] ∧ sl' r.num = .slice none 0 0)) (ha : ∀ r ∈ m'.runs, ∀ r' ∈ m'.runs, r.num ≠ r'.num → ∀ g, (sl' r.num).ownBlock = some g → (sl' r'.num).ownBlock ≠ some g) :
    DIn (wr.setCell ⟨sb, 4, none⟩ v) sb m' (Up F w (wr.setCell ⟨sb, 4, none⟩ v)) v sl' ∧ Chg F w (wr.setCell ⟨sb, 4, none⟩ v) := by
  subst hn
  have hsw := (hb.block sb (h.lt sb h.own)).trans h.sto
  have o0 : wr.ownsRow 0 131 3 v m'.runs.length (rowD sl' m'.runs) := own_base ho (Nat.zero_le _)
  have hz : (wr.setCell ⟨sb, 4, none⟩ v).heap.size = wr.heap.size := by simp
  have htx : ∀ r ∈ m'.runs, wr.ownsRow 0 5 1 (sl' r.num) r.txt.length (r.txt.map encB) := fun r hr => by
    rcases ht r hr with ⟨r0, h0, e1, e2, e3⟩ | ⟨e2, e3⟩
    · rw [e3, e2]
      exact own_kept (h.txt r0 h0) fun g hg => hb.block g ((h.txt r0 h0).lt g hg).2
    · rw [e3, e2]
      exact World.ownsRow_nil _ _ _ _
  have htf : ∀ r ∈ m'.runs, ∀ g, (sl' r.num).ownBlock = some g → F g := fun r hr g hg => by
    rcases ht r hr with ⟨r0, h0, e1, e2, e3⟩ | ⟨e2, e3⟩
    · rw [e3] at hg
      exact h.txF r0 h0 g hg
    · rw [e3] at hg
      cases hg
  refine ⟨⟨ok, fun b hx => ?_, .inl h.own, by rw [set_heap1 hsw, hst], own_kept o0 fun g hg => Below.heap_setCell _ _ _ _ (kind_ne hsw (by decide) o0 g hg), fun g hg => .inr ⟨(ho.lt g hg).1, by rw [hz]; exact (ho.lt g hg).2⟩, fun r hr => own_kept (htx r hr) fun g hg => Below.heap_setCell _ _ _ _ (kind_ne hsw (by decide) (htx r hr) g hg), fun r hr g hg => .inl (htf r hr g hg), ha⟩, (Chg.of_below hb).setCell (.inl h.own) v⟩
  rcases hx with hx | hx
  · rw [hz]; exact Nat.lt_of_lt_of_le (h.lt b hx) hb.size
  · exact hx.2
theorem drop_take {l : List Run} (hs : l.Pairwise fun a b => a.num < b.num) {i j : Nat} {r x : Run} (hi : l[i]? = some r) (hj : l[j]? = some x) : drop (l.take (j + 1)) r.num = if j = i then drop (l.take j) r.num else drop (l.take j) r.num ++ [x] := by
  have hjl := (List.getElem?_eq_some_iff.1 hj).1
  rw [List.take_succ_eq_append_getElem hjl, (List.getElem?_eq_some_iff.1 hj).2]
  unfold drop
  rw [List.filter_append]
  by_cases e : j = i
  · subst e
    rw [hi] at hj
    injection hj with hj
    subst hj
    simp
  · rw [if_neg e]
    have hne : ¬ (x.num : Int) = (r.num : Int) := fun ex => by
      rcases Nat.lt_or_gt_of_ne e with a | a
      · have := sorted_get hs hj hi a; omega
      · have := sorted_get hs hi hj a; omega
    simp [hne]
theorem info_run : (Tryd.prog.info? 131).map (fun i => (i.zero, i.size, i.bytes)) = some (some (.agg #[.int .i64 0, .slice none 0 0, .bool false]), 3, 40) := by kernel_rfl
theorem cell_three_new (w : World) (x y z : Value) (t : TypeId) : ∀ j u, [x, y, z][j]? = some u → (w.alloc (.cells #[x, y, z] t)).cell? ((⟨w.heap.size, 0, none⟩ : Addr).add j) = some u := by
  intro j u hj
  match j, hj with
  | 0, hj => simp at hj; subst hj; simp [Addr.add]
  | 1, hj => simp at hj; subst hj; simp [Addr.add]
  | 2, hj => simp at hj; subst hj; simp [Addr.add]
set_option maxRecDepth 100000 in
set_option maxHeartbeats 1000000 in
theorem remove_doc {w : World} {sb : Nat} {m : Sto} {F : Nat → Prop} {rv : Value} {sl : Nat → Value} (h : DIn w sb m F rv sl) (k : Int) :
    Calls Tryd.prog 70 #[.pointer (some ⟨sb, 0, none⟩), .int .i64 k] w fun e w' => e = .returned (.int .i64 (rem m k).1) ∧ (∃ rv', DIn w' sb (rem m k).2 (Up F w w') rv' sl) ∧ Chg F w w' := by
  obtain ⟨c0, c1, c2, c3, c4, fz⟩ := dcells h.sto
  rcases hl : look m.runs k with _ | r
  · have HP := hide (place_none h hl)
    have e : rem m k = (3, m) := by unfold rem; rw [hl]
    rw [e]
    have HF : Hid (DIn w sb m (Up F w w) rv sl) := h.kept (fun _ _ => rfl) (fun _ x => .inl x) (fun b x => x.elim (h.lt b) fun y => y.2)
    clear h e hl
    go_enter Tryd.func70, Tryd.ntmps70
    go_wp2_with (go_at_call 59; refine (unhide HP).mono ?_; rintro e w1 ⟨rfl, rfl⟩)
    go_ret
    exact ⟨rfl, ⟨rv, unhide HF⟩, Chg.refl _ _⟩
  obtain ⟨i, hi, hn, hil⟩ := look_at_i hl
  have HP := hide (place_some h hi)
  rw [hn] at HP
  have e : rem m k = (0, { m with runs := drop m.runs k }) := by unfold rem; rw [hl]
  rw [e]
  have hok := drop_ok h.ok (look_mem hl).1
  rw [hn] at hok
  have HN : Hid (∀ wr v n, Below w.heap.size w wr → wr.ownsRow w.heap.size 131 3 v n (rowD sl (drop m.runs k)) → n = (drop m.runs k).length → DIn (wr.setCell ⟨sb, 4, none⟩ v) sb { m with runs := drop m.runs k } (Up F w (wr.setCell ⟨sb, 4, none⟩ v)) v sl ∧ Chg F w (wr.setCell ⟨sb, 4, none⟩ v)) := fun wr v n hb ho hn' => h.newRow (m' := { m with runs := drop m.runs k }) hb ho hn' hok (by simp [stoD]) (fun r hr => .inl ⟨r, (drop_mem hr).1, rfl, rfl, rfl⟩) (fun r hr r' hr' => h.apart r (drop_mem hr).1 r' (drop_mem hr').1)
  have HTX : Hid (∀ (j : Nat) (x : Run), m.runs[j]? = some x → ∃ a c, sl x.num = .slice a x.txt.length c) := fun j x hx => txt_slice h hx
  have HDT : Hid (∀ (j : Nat) x, m.runs[j]? = some x → drop (m.runs.take (j + 1)) k = if j = i then drop (m.runs.take j) k else drop (m.runs.take j) k ++ [x]) := fun j x hx => by
    have := drop_take h.ok.sorted hi hx
    rw [hn] at this
    exact this
  have hsb := h.lt _ h.own
  obtain ⟨ao, cc, rfl, hat⟩ := h.at
  obtain ⟨g, rfl, hg, hF, hcl⟩ := hat (by omega)
  have HCL := hide hcl
  have hbl : m.runs.length ≤ 16777216 := by have := h.ok.len; have := h.ok.made; omega
  obtain ⟨i0, hi', hz0⟩ := Option.map_eq_some_iff.1 info_run
  simp only [Prod.mk.injEq] at hz0
  obtain ⟨hz0, hz1, hz2⟩ := hz0
  have hin : ¬ (i : Int) < 0 := by omega
  have HDL : Hid (∀ j : Nat, (drop (m.runs.take j) k).length ≤ j) := fun j => Nat.le_trans (List.length_filter_le _ _) (by simp; omega)
  have HD0 : Hid (drop (m.runs.take 0) k = []) := by simp [drop, Hid]
  clear h hat hcl e hl hi hn hok c0 c1 c2 c3
  generalize hM : m.runs = l at *
  go_enter Tryd.func70, Tryd.ntmps70
  go_wp2_with (go_at_call 59; refine (unhide HP).mono ?_; rintro e w1 ⟨rfl, hw1⟩; have hw2 := hw1.symm; subst hw2)
  go_loopw [6, 7] (fun s6 s7 wr => ∃ (j n6 : Nat) (a6 : Option Addr) (k6 : Nat), j ≤ l.length ∧ s7 = .int .i64 j ∧ s6 = .slice a6 n6 k6 ∧ n6 ≤ j ∧ Hid (n6 = (drop (l.take j) k).length) ∧ Hid (wr.ownsRow w.heap.size 131 3 (.slice a6 n6 k6) n6 (rowD sl (drop (l.take j) k))) ∧ Hid (Below w.heap.size w wr)) (fun _ s7 _ => l.length - (intOf s7).toNat)
  case atStart => exact ⟨0, 0, none, 0, Nat.zero_le _, rfl, rfl, Nat.le_refl _, hide (by rw [unhide HD0]; rfl), hide (by rw [unhide HD0]; exact World.ownsRow_nil _ _ _ _), hide (Below.refl _ _)⟩
  case round =>
    obtain ⟨j, n6, a6, k6, hj, rfl, rfl, hnj, HL6, HOW, HB⟩ := hrel
    have l4 : wr.cell? ⟨sb, 4, none⟩ = some (.slice (some ⟨g, 0, none⟩) l.length cc) := ((unhide HB).cell (p := ⟨sb, 4, none⟩) hsb).trans c4
    have lf : ∀ q, wr.frozen? ⟨sb, q, none⟩ = false := fun q => ((unhide HB).frozen (p := ⟨sb, q, none⟩) hsb).trans (fz q)
    clear c4 fz
    by_cases hlt : j < l.length
    · have hltz : (j : Int) < (l.length : Int) := by omega
      have hj0 : 0 ≤ (j : Int) := by omega
      obtain ⟨x, hx⟩ : ∃ x, l[j]? = some x := ⟨_, List.getElem?_eq_getElem hlt⟩
      have HT := hide (unhide HDT j x hx)
      by_cases hji : j = i
      · subst hji
        rw [if_pos rfl] at HT
        clear hx
        go_wp2
        exact ⟨⟨j + 1, n6, a6, k6, by omega, by go_num, rfl, by omega, by rw [unhide HT]; exact HL6, by rw [unhide HT]; exact HOW, HB⟩, by simp [intOf]; omega⟩
      · rw [if_neg hji] at HT
        have hjz : ¬ (j : Int) = (i : Int) := by omega
        obtain ⟨q0, q1, q2⟩ := unhide HCL j x hx
        have l0 := ((unhide HB).cell (p := ⟨g, j * 3, none⟩) hg).trans q0
        have l1 := ((unhide HB).cell (p := ⟨g, j * 3 + 1, none⟩) hg).trans q1
        have l2 := ((unhide HB).cell (p := ⟨g, j * 3 + 2, none⟩) hg).trans q2
        obtain ⟨a1, k1, e1⟩ := unhide HTX j x hx
        rw [e1] at l1
        have HE1 := hide e1
        have hsz := (unhide HB).size
        clear hx q0 q1 q2 e1
        go_wp2_with (at_builtin; refine wpList_append_own _ rfl _ _ 82 rfl w.heap.size 131 i0 (.agg #[.int .i64 0, .slice none 0 0, .bool false]) 3 40 Tryd.underlying82 hi' hz0 hz1 hz2 rfl (by decide) _ _ _ rfl ((unhide HOW).alloc _) ⟨wr.heap.size, 0, none⟩ 1 1 [.int .i64 x.num, .slice a1 x.txt.length k1, .bool x.shut] rfl rfl (cell_three_new _ _ _ _ _) (by simp [Value.oneCell']) (by unfold maxLen; omega) (by omega) (by simp; omega) ?_; intro v3 w3 hown3 hgrow3 hnil3; obtain ⟨a4, k4, rfl⟩ := own_slice hown3; have HO3 := hide hown3; have HB3 := hide (((unhide HB).alloc hsz _).grown hgrow3 (by simp; omega) (fun k hk => ((unhide HOW).lt k hk).1)); clear hown3 hgrow3 hnil3)
        refine ⟨⟨j + 1, n6 + 1, a4, k4, by omega, by go_num, rfl, by omega, hide (by rw [unhide HT, List.length_append, unhide HL6]; rfl), ?_, HB3⟩, by simp [intOf]; omega⟩
        rw [unhide HT, rowD_app, unhide HE1]
        exact HO3
    · have hltz : ¬ (j : Int) < (l.length : Int) := by omega
      obtain rfl : j = l.length := by omega
      rw [List.take_length] at HOW HL6
      have HFI := hide (unhide HN wr _ n6 (unhide HB) (unhide HOW) (unhide HL6))
      go_wp2
      go_ret
      exact ⟨rfl, ⟨_, (unhide HFI).1⟩, (unhide HFI).2⟩
end Rs
end Go.Proofs.YtdcffkahijpcbabDoor
