/- Layer 5: the document's Live. -/
import Derived.Test.YtohfhkdhccpoaaaGreatDoorGs
import Derived.Deep.RegionHeld3
import Derived.Deep.RegionLaw
import Derived.BigRegion
import Derived.BigQuiet
namespace Go.Proofs.YtohfhkdhccpoaaaGreatDoor
open Go.RowKit
namespace Rs
theorem nums_take {l : List Run} {i : Nat} {r : Run} (h : l[i]? = some r) : nums (l.take (i + 1)) = nums (l.take i) ++ [(r.num : Int)] := by
  have hi := (List.getElem?_eq_some_iff.1 h).1
  rw [List.take_succ_eq_append_getElem hi, (List.getElem?_eq_some_iff.1 h).2]
  simp [nums]
end Rs
end Go.Proofs.YtohfhkdhccpoaaaGreatDoor
/- Layer 5: the document's Read. -/
namespace Go.Proofs.YtohfhkdhccpoaaaGreatDoor
open Go.RowKit
namespace Rs
attribute [local go_sem ↓] cvB_as
set_option maxRecDepth 100000 in
set_option maxHeartbeats 1000000 in
theorem read_doc {w : World} {sb : Nat} {m : Sto} {F : Nat → Prop} {rv : Value} {sl : Nat → Value} (h : DIn w sb m F rv sl) (k a n : Int) (ha2 : a ≤ 9223372036854775807) (hn2 : n ≤ 9223372036854775807) :
    Calls Tryz.prog 84 #[.pointer (some ⟨sb, 0, none⟩), .int .i64 k, .int .i64 a, .int .i64 n] w fun e w' => e = .returned (.tuple #[.string (strB (rea m k a n).1), .int .i64 (rea m k a n).2]) ∧ w' = w := by
  obtain ⟨c0, c1, c2, c3, c4, fz⟩ := dcells h.sto
  rcases hl : look m.runs k with _ | r
  · have HP := hide (place_none h hl)
    have e : rea m k a n = ([], 3) := by unfold rea; rw [hl]
    rw [e]
    clear h e hl
    go_enter Tryz.func84, Tryz.ntmps84
    go_wp2_with (go_at_call 62; refine (unhide HP).mono ?_; rintro e w1 ⟨rfl, rfl⟩)
    go_ret2
    exact ⟨rfl, rfl⟩
  obtain ⟨i, hi, hn, hil⟩ := look_at_i hl
  have HP := hide (place_some h hi)
  rw [hn] at HP
  have hrow := h.txt r (List.mem_of_getElem? hi)
  have hlen : r.txt.length ≤ 67108864 := by have := tot_mem (look_mem hl).1; have := h.ok.used; have := h.ok.cap; omega
  obtain ⟨a0, c, ev⟩ := own_slice hrow
  obtain ⟨ao, cc, rfl, hat⟩ := h.at
  obtain ⟨g, rfl, hg, hF, hcl⟩ := hat (by omega)
  obtain ⟨-, q1, q2⟩ := hcl i r hi
  rw [ev] at q1 hrow
  have HRW := hide hrow
  have hiz : (i : Int) < (m.runs.length : Int) := by omega
  have hi0 : 0 ≤ (i : Int) := by omega
  have hin : ¬ (i : Int) < 0 := by omega
  clear hat hcl hi hn ev h c0 c1 c2 c3 fz
  cases hs : r.shut
  · have e : rea m k a n = ([], 5) := by unfold rea; rw [hl]; simp [hs]
    rw [e]
    rw [hs] at q2
    clear e hl hrow
    go_enter Tryz.func84, Tryz.ntmps84
    go_wp2_with (go_at_call 62; refine (unhide HP).mono ?_; rintro e w1 ⟨rfl, rfl⟩)
    go_ret2
    exact ⟨rfl, rfl⟩
  rw [hs] at q2
  by_cases hbad : a < 0 ∨ n < 0 ∨ a > r.txt.length ∨ n > r.txt.length - a
  · have e : rea m k a n = ([], 6) := by unfold rea; rw [hl]; simp only [hs, if_true]; rw [if_pos hbad]
    rw [e]
    clear e hl hrow hs HRW
    generalize r.txt.length = Z at *
    by_cases h1 : a < 0
    · clear hbad
      go_enter Tryz.func84, Tryz.ntmps84
      go_wp2_with (go_at_call 62; refine (unhide HP).mono ?_; rintro e w1 ⟨rfl, rfl⟩)
      go_ret2
      exact ⟨rfl, rfl⟩
    · by_cases h2 : n < 0
      · clear hbad
        go_enter Tryz.func84, Tryz.ntmps84
        go_wp2_with (go_at_call 62; refine (unhide HP).mono ?_; rintro e w1 ⟨rfl, rfl⟩)
        go_ret2
        exact ⟨rfl, rfl⟩
      · by_cases h3 : (Z : Int) < a
        · clear hbad
          go_enter Tryz.func84, Tryz.ntmps84
          go_wp2_with (go_at_call 62; refine (unhide HP).mono ?_; rintro e w1 ⟨rfl, rfl⟩)
          go_ret2
          exact ⟨rfl, rfl⟩
        · have h4 : (Z : Int) - a < n := by omega
          have h5 : 0 ≤ a := by omega
          have h6 : 0 ≤ n := by omega
          have h7 : a ≤ (Z : Int) := by omega
          clear hbad h1 h2 h3
          go_enter Tryz.func84, Tryz.ntmps84
          go_wp2_with (go_at_call 62; refine (unhide HP).mono ?_; rintro e w1 ⟨rfl, rfl⟩)
          go_ret2
          exact ⟨rfl, rfl⟩
  · have e : rea m k a n = ((r.txt.drop a.toNat).take n.toNat, 0) := by unfold rea; rw [hl]; simp only [hs, if_true]; rw [if_neg hbad]
    rw [e]
    obtain ⟨A, hA⟩ : ∃ A : Nat, a = (A : Int) := ⟨a.toNat, by omega⟩
    obtain ⟨N, hN⟩ : ∃ N : Nat, n = (N : Int) := ⟨n.toNat, by omega⟩
    subst hA hN
    have hAN : A + N ≤ r.txt.length := by omega
    have e1 : ((A : Int)).toNat = A := by omega
    have e2 : ((N : Int)).toNat = N := by omega
    rw [e1, e2]
    have hA2 : (A : Int) ≤ (r.txt.length : Int) := by omega
    have hN3 : (N : Int) ≤ (r.txt.length : Int) - (A : Int) := by omega
    have hAN2 : (A : Int) + (N : Int) ≤ (r.txt.length : Int) := by omega
    clear e hl hrow hs hbad e1 e2 ha2 hn2
    rcases a0 with _ | ⟨gt, o, sp⟩
    · have h0 : r.txt.length = 0 := by
        obtain ⟨_, ⟨_, e⟩ | ⟨g', cap', cur, e, _⟩⟩ := unhide HRW
        · exact e
        · cases e
      obtain rfl : A = 0 := by omega
      obtain rfl : N = 0 := by omega
      have ht : r.txt = [] := List.eq_nil_of_length_eq_zero h0
      rw [ht] at q1 ⊢
      have hcv := conv_none
      clear HRW hAN hA2 hN3 hAN2 h0 ht hlen
      go_enter Tryz.func84, Tryz.ntmps84
      go_wp2_with (go_at_call 62; refine (unhide HP).mono ?_; rintro e w1 ⟨rfl, rfl⟩)
      go_ret2
      exact ⟨rfl, rfl⟩
    · obtain ⟨rfl, rfl⟩ : o = 0 ∧ sp = none := by
        obtain ⟨_, ⟨e, _⟩ | ⟨g', cap', cur, e, _⟩⟩ := unhide HRW
        · cases e
        · injection e with e _ _
          injection e with e
          injection e with _ e1 e2
          exact ⟨e1, e2⟩
      have hcap : r.txt.length ≤ c := by
        obtain ⟨_, ⟨e, _⟩ | ⟨g', cap', cur, e, _, _, hx, _⟩⟩ := unhide HRW
        · cases e
        · injection e with _ _ e; omega
      by_cases hcA : c = A
      · obtain rfl : N = 0 := by omega
        have hcv : ∀ c, (cvB (.slice (some ⟨gt, 0, none⟩) 0 c)).run Tryz.prog w = .ok (.string (strB ((r.txt.drop A).take 0))) w := fun c => conv_row (unhide HRW) 0 0 c (by omega)
        subst hcA
        generalize ((r.txt.drop c).take 0) = T at *
        generalize r.txt.length = Z at *
        clear HRW
        go_enter Tryz.func84, Tryz.ntmps84
        go_wp2_with (go_at_call 62; refine (unhide HP).mono ?_; rintro e w1 ⟨rfl, rfl⟩)
        go_ret2
        exact ⟨rfl, rfl⟩
      · have hcv : ∀ c, (cvB (.slice (some ⟨gt, A, none⟩) N c)).run Tryz.prog w = .ok (.string (strB ((r.txt.drop A).take N))) w := fun c => conv_row (unhide HRW) A N c hAN
        have hcA2 : ¬ A = c := fun e => hcA e.symm
        have hcA3 : ¬ c - A = 0 := by omega
        generalize ((r.txt.drop A).take N) = T at *
        generalize r.txt.length = Z at *
        clear HRW
        go_enter Tryz.func84, Tryz.ntmps84
        go_wp2_with (go_at_call 62; refine (unhide HP).mono ?_; rintro e w1 ⟨rfl, rfl⟩)
        go_ret2
        exact ⟨rfl, rfl⟩
end Rs
end Go.Proofs.YtohfhkdhccpoaaaGreatDoor
/- Layer 5: the document's Remove. -/
namespace Go.Proofs.YtohfhkdhccpoaaaGreatDoor
open Go.RowKit
namespace Rs
theorem rowD_len (sl : Nat → Value) (l : List Run) : (rowD sl l).length = l.length * 3 := by
  induction l with
  | nil => rfl
  | cons x t ih => rw [rowD_cons]; simp [ih]; omega
theorem rowD_app (sl : Nat → Value) (l : List Run) (r : Run) : rowD sl (l ++ [r]) = rowD sl l ++ [.int .i64 r.num, sl r.num, .bool r.shut] := by simp [rowD]
/-- the row was laid anew -/
theorem DIn.newRow {w wr : World} {sb n : Nat} {m m' : Sto} {F : Nat → Prop} {rv v : Value} {sl sl' : Nat → Value} (h : DIn w sb m F rv sl) (hb : Below w.heap.size w wr) (ho : wr.ownsRow w.heap.size 79 3 v n (rowD sl' m'.runs)) (hn : n = m'.runs.length) (ok : m'.Ok) (hst : (stoD m rv).setIfInBounds 4 v = stoD m' v)
    (ht : ∀ r ∈ m'.runs, (∃ r0 ∈ m.runs, r.num = r0.num ∧ r.txt = r0.txt ∧ sl' r.num = sl r0.num) ∨ (r.txt = [] ∧ sl' r.num = .slice none 0 0)) (ha : ∀ r ∈ m'.runs, ∀ r' ∈ m'.runs, r.num ≠ r'.num → ∀ g, (sl' r.num).ownBlock = some g → (sl' r'.num).ownBlock ≠ some g) :
    DIn (wr.setCell ⟨sb, 4, none⟩ v) sb m' (Up F w (wr.setCell ⟨sb, 4, none⟩ v)) v sl' ∧ Chg F w (wr.setCell ⟨sb, 4, none⟩ v) := by
  subst hn
  have hsw := (hb.block sb (h.lt sb h.own)).trans h.sto
  have o0 : wr.ownsRow 0 79 3 v m'.runs.length (rowD sl' m'.runs) := own_base ho (Nat.zero_le _)
  have hz : (wr.setCell ⟨sb, 4, none⟩ v).heap.size = wr.heap.size := by simp
  have htx : ∀ r ∈ m'.runs, wr.ownsRow 0 5 1 (sl' r.num) r.txt.length (r.txt.map encB) := fun r hr => by
    rcases ht r hr with ⟨r0, h0, e1, e2, e3⟩ | ⟨e2, e3⟩
    · rw [e3, e2]
      exact own_kept (h.txt r0 h0) fun g hg => hb.block g ((h.txt r0 h0).lt g hg).2
    · rw [e3, e2]
      exact World.ownsRow_nil _ _ _ _
  have htf : ∀ r ∈ m'.runs, ∀ g, (sl' r.num).ownBlock = some g → F g := fun r hr g hg => by
    rcases ht r hr with ⟨r0, h0, e1, e2, e3⟩ | ⟨e2, e3⟩
    · rw [e3] at hg
      exact h.txF r0 h0 g hg
    · rw [e3] at hg
      cases hg
  refine ⟨⟨ok, fun b hx => ?_, .inl h.own, by rw [set_heap1 hsw, hst], own_kept o0 fun g hg => Below.heap_setCell _ _ _ _ (kind_ne hsw (by decide) o0 g hg), fun g hg => .inr ⟨(ho.lt g hg).1, by rw [hz]; exact (ho.lt g hg).2⟩, fun r hr => own_kept (htx r hr) fun g hg => Below.heap_setCell _ _ _ _ (kind_ne hsw (by decide) (htx r hr) g hg), fun r hr g hg => .inl (htf r hr g hg), ha⟩, (Chg.of_below hb).setCell (.inl h.own) v⟩
  rcases hx with hx | hx
  · rw [hz]; exact Nat.lt_of_lt_of_le (h.lt b hx) hb.size
  · exact hx.2
theorem drop_take {l : List Run} (hs : l.Pairwise fun a b => a.num < b.num) {i j : Nat} {r x : Run} (hi : l[i]? = some r) (hj : l[j]? = some x) : drop (l.take (j + 1)) r.num = if j = i then drop (l.take j) r.num else drop (l.take j) r.num ++ [x] := by
  have hjl := (List.getElem?_eq_some_iff.1 hj).1
  rw [List.take_succ_eq_append_getElem hjl, (List.getElem?_eq_some_iff.1 hj).2]
  unfold drop
  rw [List.filter_append]
  by_cases e : j = i
  · subst e
    rw [hi] at hj
    injection hj with hj
    subst hj
    simp
  · rw [if_neg e]
    have hne : ¬ (x.num : Int) = (r.num : Int) := fun ex => by
      rcases Nat.lt_or_gt_of_ne e with a | a
      · have := sorted_get hs hj hi a; omega
      · have := sorted_get hs hi hj a; omega
    simp [hne]
theorem info_run : (Tryz.prog.info? 79).map (fun i => (i.zero, i.size, i.bytes)) = some (some (.agg #[.int .i64 0, .slice none 0 0, .bool false]), 3, 40) := by kernel_rfl
theorem cell_three_new (w : World) (x y z : Value) (t : TypeId) : ∀ j u, [x, y, z][j]? = some u → (w.alloc (.cells #[x, y, z] t)).cell? ((⟨w.heap.size, 0, none⟩ : Addr).add j) = some u := by
  intro j u hj
  match j, hj with
  | 0, hj => simp at hj; subst hj; simp [Addr.add]
  | 1, hj => simp at hj; subst hj; simp [Addr.add]
  | 2, hj => simp at hj; subst hj; simp [Addr.add]
set_option maxRecDepth 100000 in
set_option maxHeartbeats 1000000 in
theorem remove_doc {w : World} {sb : Nat} {m : Sto} {F : Nat → Prop} {rv : Value} {sl : Nat → Value} (h : DIn w sb m F rv sl) (k : Int) :
    Calls Tryz.prog 33 #[.pointer (some ⟨sb, 0, none⟩), .int .i64 k] w fun e w' => e = .returned (.int .i64 (rem m k).1) ∧ (∃ rv', DIn w' sb (rem m k).2 (Up F w w') rv' sl) ∧ Chg F w w' := by
  obtain ⟨c0, c1, c2, c3, c4, fz⟩ := dcells h.sto
  rcases hl : look m.runs k with _ | r
  · have HP := hide (place_none h hl)
    have e : rem m k = (3, m) := by unfold rem; rw [hl]
    rw [e]
    have HF : Hid (DIn w sb m (Up F w w) rv sl) := h.kept (fun _ _ => rfl) (fun _ x => .inl x) (fun b x => x.elim (h.lt b) fun y => y.2)
    clear h e hl
    go_enter Tryz.func33, Tryz.ntmps33
    go_wp2_with (go_at_call 62; refine (unhide HP).mono ?_; rintro e w1 ⟨rfl, rfl⟩)
    go_ret
    exact ⟨rfl, ⟨rv, unhide HF⟩, Chg.refl _ _⟩
  obtain ⟨i, hi, hn, hil⟩ := look_at_i hl
  have HP := hide (place_some h hi)
  rw [hn] at HP
  have e : rem m k = (0, { m with runs := drop m.runs k }) := by unfold rem; rw [hl]
  rw [e]
  have hok := drop_ok h.ok (look_mem hl).1
  rw [hn] at hok
  have HN : Hid (∀ wr v n, Below w.heap.size w wr → wr.ownsRow w.heap.size 79 3 v n (rowD sl (drop m.runs k)) → n = (drop m.runs k).length → DIn (wr.setCell ⟨sb, 4, none⟩ v) sb { m with runs := drop m.runs k } (Up F w (wr.setCell ⟨sb, 4, none⟩ v)) v sl ∧ Chg F w (wr.setCell ⟨sb, 4, none⟩ v)) := fun wr v n hb ho hn' => h.newRow (m' := { m with runs := drop m.runs k }) hb ho hn' hok (by simp [stoD]) (fun r hr => .inl ⟨r, (drop_mem hr).1, rfl, rfl, rfl⟩) (fun r hr r' hr' => h.apart r (drop_mem hr).1 r' (drop_mem hr').1)
  have HTX : Hid (∀ (j : Nat) (x : Run), m.runs[j]? = some x → ∃ a c, sl x.num = .slice a x.txt.length c) := fun j x hx => txt_slice h hx
  have HDT : Hid (∀ (j : Nat) x, m.runs[j]? = some x → drop (m.runs.take (j + 1)) k = if j = i then drop (m.runs.take j) k else drop (m.runs.take j) k ++ [x]) := fun j x hx => by
    have := drop_take h.ok.sorted hi hx
    rw [hn] at this
    exact this
  have hsb := h.lt _ h.own
  obtain ⟨ao, cc, rfl, hat⟩ := h.at
  obtain ⟨g, rfl, hg, hF, hcl⟩ := hat (by omega)
  have HCL := hide hcl
  have hbl : m.runs.length ≤ 16777216 := by have := h.ok.len; have := h.ok.made; omega
  obtain ⟨i0, hi', hz0⟩ := Option.map_eq_some_iff.1 info_run
  simp only [Prod.mk.injEq] at hz0
  obtain ⟨hz0, hz1, hz2⟩ := hz0
  have hin : ¬ (i : Int) < 0 := by omega
  have HDL : Hid (∀ j : Nat, (drop (m.runs.take j) k).length ≤ j) := fun j => Nat.le_trans (List.length_filter_le _ _) (by simp; omega)
  have HD0 : Hid (drop (m.runs.take 0) k = []) := by simp [drop, Hid]
  clear h hat hcl e hl hi hn hok c0 c1 c2 c3
  generalize hM : m.runs = l at *
  go_enter Tryz.func33, Tryz.ntmps33
  go_wp2_with (go_at_call 62; refine (unhide HP).mono ?_; rintro e w1 ⟨rfl, hw1⟩; have hw2 := hw1.symm; subst hw2)
  go_loopw [6, 7] (fun s6 s7 wr => ∃ (j n6 : Nat) (a6 : Option Addr) (k6 : Nat), j ≤ l.length ∧ s7 = .int .i64 j ∧ s6 = .slice a6 n6 k6 ∧ n6 ≤ j ∧ Hid (n6 = (drop (l.take j) k).length) ∧ Hid (wr.ownsRow w.heap.size 79 3 (.slice a6 n6 k6) n6 (rowD sl (drop (l.take j) k))) ∧ Hid (Below w.heap.size w wr)) (fun _ s7 _ => l.length - (intOf s7).toNat)
  case atStart => exact ⟨0, 0, none, 0, Nat.zero_le _, rfl, rfl, Nat.le_refl _, hide (by rw [unhide HD0]; rfl), hide (by rw [unhide HD0]; exact World.ownsRow_nil _ _ _ _), hide (Below.refl _ _)⟩
  case round =>
    obtain ⟨j, n6, a6, k6, hj, rfl, rfl, hnj, HL6, HOW, HB⟩ := hrel
    have l4 : wr.cell? ⟨sb, 4, none⟩ = some (.slice (some ⟨g, 0, none⟩) l.length cc) := ((unhide HB).cell (p := ⟨sb, 4, none⟩) hsb).trans c4
    have lf : ∀ q, wr.frozen? ⟨sb, q, none⟩ = false := fun q => ((unhide HB).frozen (p := ⟨sb, q, none⟩) hsb).trans (fz q)
    clear c4 fz
    by_cases hlt : j < l.length
    · have hltz : (j : Int) < (l.length : Int) := by omega
      have hj0 : 0 ≤ (j : Int) := by omega
      obtain ⟨x, hx⟩ : ∃ x, l[j]? = some x := ⟨_, List.getElem?_eq_getElem hlt⟩
      have HT := hide (unhide HDT j x hx)
      by_cases hji : j = i
      · subst hji
        rw [if_pos rfl] at HT
        clear hx
        go_wp2
        exact ⟨⟨j + 1, n6, a6, k6, by omega, by go_num, rfl, by omega, by rw [unhide HT]; exact HL6, by rw [unhide HT]; exact HOW, HB⟩, by simp [intOf]; omega⟩
      · rw [if_neg hji] at HT
        have hjz : ¬ (j : Int) = (i : Int) := by omega
        obtain ⟨q0, q1, q2⟩ := unhide HCL j x hx
        have l0 := ((unhide HB).cell (p := ⟨g, j * 3, none⟩) hg).trans q0
        have l1 := ((unhide HB).cell (p := ⟨g, j * 3 + 1, none⟩) hg).trans q1
        have l2 := ((unhide HB).cell (p := ⟨g, j * 3 + 2, none⟩) hg).trans q2
        obtain ⟨a1, k1, e1⟩ := unhide HTX j x hx
        rw [e1] at l1
        have HE1 := hide e1
        have hsz := (unhide HB).size
        clear hx q0 q1 q2 e1
        go_wp2_with (at_builtin; refine wpList_append_own _ rfl _ _ 70 rfl w.heap.size 79 i0 (.agg #[.int .i64 0, .slice none 0 0, .bool false]) 3 40 Tryz.underlying70 hi' hz0 hz1 hz2 rfl (by decide) _ _ _ rfl ((unhide HOW).alloc _) ⟨wr.heap.size, 0, none⟩ 1 1 [.int .i64 x.num, .slice a1 x.txt.length k1, .bool x.shut] rfl rfl (cell_three_new _ _ _ _ _) (by simp [Value.oneCell']) (by unfold maxLen; omega) (by omega) (by simp; omega) ?_; intro v3 w3 hown3 hgrow3 hnil3; obtain ⟨a4, k4, rfl⟩ := own_slice hown3; have HO3 := hide hown3; have HB3 := hide (((unhide HB).alloc hsz _).grown hgrow3 (by simp; omega) (fun k hk => ((unhide HOW).lt k hk).1)); clear hown3 hgrow3 hnil3)
        refine ⟨⟨j + 1, n6 + 1, a4, k4, by omega, by go_num, rfl, by omega, hide (by rw [unhide HT, List.length_append, unhide HL6]; rfl), ?_, HB3⟩, by simp [intOf]; omega⟩
        rw [unhide HT, rowD_app, unhide HE1]
        exact HO3
    · have hltz : ¬ (j : Int) < (l.length : Int) := by omega
      obtain rfl : j = l.length := by omega
      rw [List.take_length] at HOW HL6
      have HFI := hide (unhide HN wr _ n6 (unhide HB) (unhide HOW) (unhide HL6))
      go_wp2
      go_ret
      exact ⟨rfl, ⟨_, (unhide HFI).1⟩, (unhide HFI).2⟩
end Rs
end Go.Proofs.YtohfhkdhccpoaaaGreatDoor
/- Layer 5: the document's Create. -/
namespace Go.Proofs.YtohfhkdhccpoaaaGreatDoor
open Go.RowKit
namespace Rs
theorem run_append_run {W : World} {B n : Nat} {v : Value} {xs : List Value} (ho : W.ownsRow B 79 3 v n xs) (hB : B ≤ W.heap.size) (hn : n ≤ 16777216) (x : Int) (ty : TypeId) :
    ∃ v' w', (Builtin.append_ #[70, 70] ty #[v, .slice (some ⟨W.heap.size, 0, none⟩) 1 1]).run Tryz.prog (W.alloc (.cells #[.int .i64 x, .slice none 0 0, .bool false] 79)) = .ok v' w' ∧ w'.ownsRow B 79 3 v' (n + 1) (xs ++ [.int .i64 x, .slice none 0 0, .bool false]) ∧ (W.alloc (.cells #[.int .i64 x, .slice none 0 0, .bool false] 79)).grownBy w' v.ownBlock ∧ (v'.ownBlock = v.ownBlock ∨ v'.ownBlock = some (W.heap.size + 1)) := by
  obtain ⟨i0, hi, hz0⟩ := Option.map_eq_some_iff.1 info_run
  simp only [Prod.mk.injEq] at hz0
  obtain ⟨hz0, hz1, hz2⟩ := hz0
  obtain ⟨v', w', h1, h2, h3, _, h5⟩ := run_append_own_at (P := Tryz.prog) (W.alloc (.cells #[.int .i64 x, .slice none 0 0, .bool false] 79)) B 70 ty 79 i0 (.agg #[.int .i64 0, .slice none 0 0, .bool false]) 3 40 Tryz.underlying70 hi hz0 hz1 hz2 rfl (by decide) v n xs (ho.alloc _) ⟨W.heap.size, 0, none⟩ 1 1 [.int .i64 x, .slice none 0 0, .bool false] rfl (cell_three_new _ _ _ _ _) (by simp [Value.oneCell']) (by unfold maxLen; omega) (by omega) (by simp; omega)
  exact ⟨v', w', h1, h2, h3, by simpa using h5⟩
def slN (sl : Nat → Value) (n j : Nat) : Value := if j = n then .slice none 0 0 else sl j
theorem rowD_slN {sl : Nat → Value} {l : List Run} {n : Nat} (h : ∀ r ∈ l, r.num ≠ n) : rowD (slN sl n) l = rowD sl l := by
  unfold rowD
  induction l with
  | nil => rfl
  | cons x t ih =>
    rw [List.flatMap_cons, List.flatMap_cons, ih fun r hr => h r (List.mem_cons_of_mem _ hr)]
    simp [slN, h x (List.mem_cons_self ..)]
/-- a run was laid behind the others -/
theorem DIn.pushRow {w1 W w3 : World} {sb : Nat} {m : Sto} {F : Nat → Prop} {rv v' : Value} {sl : Nat → Value} {o : Obj} (h : DIn w1 sb m F rv sl) (hm : m.made < 16777216)
    (hsW : W.heap[sb]? = some (.cells #[.int .i64 m.cap, .int .i64 m.peak, .int .i64 ((m.made : Int) + 1), .int .i64 m.ahead, rv] 72 (0, 0)))
    (hkW : Chg (fun b => b = sb) w1 W) (hzW : W.heap.size = w1.heap.size)
    (hg : (W.alloc o).grownBy w3 rv.ownBlock) (ho : w3.ownsRow 0 79 3 v' (m.runs.length + 1) (rowD sl m.runs ++ [.int .i64 ((m.made : Int) + 1), .slice none 0 0, .bool false])) (ha : v'.ownBlock = rv.ownBlock ∨ v'.ownBlock = some (W.heap.size + 1)) :
    DIn (w3.setCell ⟨sb, 4, none⟩ v') sb m.newRun (Up F w1 (w3.setCell ⟨sb, 4, none⟩ v')) v' (slN sl (m.made + 1)) ∧ Chg F w1 (w3.setCell ⟨sb, 4, none⟩ v') := by
  have hnum : ∀ r ∈ m.runs, r.num ≠ m.made + 1 := fun r hr e => by have := h.ok.nums r hr; omega
  have hsb := h.lt sb h.own
  have hrs : rv.ownBlock ≠ some sb := fun e => kind_ne h.sto (by decide) h.row sb e rfl
  have hc1 : Chg F w1 (W.alloc o) := (hkW.mono fun b hb => by rw [hb]; exact h.own).alloc o
  have hc3 : Chg F w1 w3 := hc1.grown hg fun k hk => .inl (h.rowF k hk)
  have hs3 : w3.heap[sb]? = some (.cells #[.int .i64 m.cap, .int .i64 m.peak, .int .i64 ((m.made : Int) + 1), .int .i64 m.ahead, rv] 72 (0, 0)) := by
    rw [hg.block sb (by simp; omega) (fun e => hrs e.symm), Below.heap_alloc _ _ _ (by omega)]
    exact hsW
  have hz3 : (w3.setCell ⟨sb, 4, none⟩ v').heap.size = w3.heap.size := by simp
  have htx : ∀ r ∈ m.runs, w3.ownsRow 0 5 1 (sl r.num) r.txt.length (r.txt.map encB) := fun r hr => own_kept (h.txt r hr) fun g hg' => by
    have hl := ((h.txt r hr).lt g hg').2
    have hgs : g ≠ sb := kind_ne h.sto (by decide) (h.txt r hr) g hg'
    have hgr : rv.ownBlock ≠ some g := fun e => by
      rcases h.row.2 with ⟨e1, _⟩ | ⟨g', cap, cur, e1, _, hx, _⟩
      · rw [e1] at e; cases e
      · rw [e1] at e
        have e2 : g' = g := by injection e
        rw [e2] at hx
        exact kind_ne hx (by decide) (h.txt r hr) g hg' rfl
    rw [hg.block g (by simp; omega) (fun e => hgr e.symm), Below.heap_alloc _ _ _ (by omega), hkW.block g hl hgs]
  have hsl : ∀ r ∈ m.runs, slN sl (m.made + 1) r.num = sl r.num := fun r hr => by unfold slN; rw [if_neg (hnum r hr)]
  have hs0 : slN sl (m.made + 1) (m.made + 1) = .slice none 0 0 := by unfold slN; rw [if_pos rfl]
  have hrow : rowD (slN sl (m.made + 1)) m.newRun.runs = rowD sl m.runs ++ [.int .i64 ((m.made : Int) + 1), .slice none 0 0, .bool false] := by
    show rowD (slN sl (m.made + 1)) (m.runs ++ [⟨m.made + 1, [], false⟩]) = _
    rw [rowD_app, rowD_slN hnum, hs0]
    simp
  have hlen : m.newRun.runs.length = m.runs.length + 1 := by simp [Sto.newRun]
  have hmem : ∀ r ∈ m.newRun.runs, r ∈ m.runs ∨ r = ⟨m.made + 1, [], false⟩ := fun r hr => by simpa [Sto.newRun] using hr
  have hlt : ∀ b, Up F w1 (w3.setCell ⟨sb, 4, none⟩ v') b → b < (w3.setCell ⟨sb, 4, none⟩ v').heap.size := fun b hb => by
    rcases hb with hb | hb
    · rw [hz3]; exact Nat.lt_of_lt_of_le (h.lt b hb) hc3.size
    · exact hb.2
  refine ⟨⟨newRun_ok h.ok hm, hlt, .inl h.own, by rw [set_heap1 hs3]; simp [stoD, Sto.newRun], by rw [hrow, hlen]; exact own_kept ho fun g hg' => Below.heap_setCell _ _ _ _ (kind_ne hs3 (by decide) ho g hg'), fun g hg' => ?_, fun r hr => ?_, fun r hr g hg' => ?_, fun r hr r' hr' hne g hg' hg2 => ?_⟩, hc3.setCell (.inl h.own) v'⟩
  · rcases ha with e | e
    · rw [e] at hg'; exact .inl (h.rowF g hg')
    · have := (ho.lt g hg').2
      rw [e] at hg'
      injection hg' with hg'
      exact .inr ⟨by omega, by rw [hz3]; exact this⟩
  · rcases hmem r hr with hr | rfl
    · rw [hsl r hr]
      exact own_kept (htx r hr) fun g hg' => Below.heap_setCell _ _ _ _ (kind_ne hs3 (by decide) (htx r hr) g hg')
    · show World.ownsRow _ 0 5 1 (slN sl (m.made + 1) (m.made + 1)) _ _
      rw [hs0]
      exact World.ownsRow_nil _ _ _ _
  · rcases hmem r hr with hr | rfl
    · rw [hsl r hr] at hg'
      exact .inl (h.txF r hr g hg')
    · change (slN sl (m.made + 1) (m.made + 1)).ownBlock = some g at hg'
      rw [hs0] at hg'
      cases hg'
  · rcases hmem r hr with hr | rfl
    · rcases hmem r' hr' with hr' | rfl
      · rw [hsl r hr] at hg'
        rw [hsl r' hr'] at hg2
        exact h.apart r hr r' hr' hne g hg' hg2
      · change (slN sl (m.made + 1) (m.made + 1)).ownBlock = some g at hg2
        rw [hs0] at hg2
        cases hg2
    · change (slN sl (m.made + 1) (m.made + 1)).ownBlock = some g at hg'
      rw [hs0] at hg'
      cases hg'
end Rs
end Go.Proofs.YtohfhkdhccpoaaaGreatDoor
/- Layer 5: the document's Create. -/
namespace Go.Proofs.YtohfhkdhccpoaaaGreatDoor
open Go.RowKit
namespace Rs
theorem DIn.up {w w1 : World} {sb : Nat} {m : Sto} {F : Nat → Prop} {rv : Value} {sl : Nat → Value} (h : DIn w1 sb m F rv sl) : DIn w1 sb m (Up F w w1) rv sl := h.kept (fun _ _ => rfl) (fun _ x => .inl x) (fun b x => x.elim (h.lt b) fun y => y.2)
set_option maxRecDepth 100000 in
set_option maxHeartbeats 1000000 in
theorem create_doc {w : World} {sb : Nat} {m : Sto} {F : Nat → Prop} {rv : Value} {sl : Nat → Value} (h : DIn w sb m F rv sl) :
    Calls Tryz.prog 44 #[.pointer (some ⟨sb, 0, none⟩)] w fun e w' => e = .returned (.tuple #[.int .i64 (crt m).1.1, .int .i64 (crt m).1.2]) ∧ (∃ rv' sl', DIn w' sb (crt m).2 (Up F w w') rv' sl') ∧ Chg F w w' := by
  have HR := hide (refused_any h)
  have hsz : sb < w.heap.size := h.lt sb h.own
  by_cases ha : m.ahead = 1
  · have e : crt m = ((0, 9), m.tick) := by unfold crt; rw [if_pos ha]
    rw [e]
    rw [show decide (m.ahead = 1) = true by simp [ha]] at HR
    clear h e
    go_enter Tryz.func44, Tryz.ntmps44
    go_wp2_with (go_at_call 71; refine (unhide HR).mono ?_; rintro e w1 ⟨rfl, hd1⟩; have HD := hide hd1; clear hd1)
    go_ret2
    exact ⟨rfl, ⟨_, _, (unhide HD).1.up⟩, (unhide HD).2.1⟩
  rw [show decide (m.ahead = 1) = false by simp [ha]] at HR
  obtain ⟨md, hmd⟩ : ∃ md : Int, md = (m.made : Int) := ⟨_, rfl⟩
  have HMD := hide hmd
  by_cases hm : 16777216 ≤ m.made
  · have e : crt m = ((0, 8), m.tick) := by unfold crt; rw [if_neg ha, if_pos hm]
    rw [e]
    have hge : 16777216 ≤ md := by omega
    clear h e hm hmd
    go_enter Tryz.func44, Tryz.ntmps44
    go_wp2_with (go_at_call 71; refine (unhide HR).mono ?_; rintro e w1 ⟨rfl, hd1⟩; have HD := hide hd1; have c2 := (dcells hd1.1.sto).2.2.1; rw [show ((m.tick.made : Nat) : Int) = md from (unhide HMD).symm] at c2; clear hd1)
    go_ret2
    exact ⟨rfl, ⟨_, _, (unhide HD).1.up⟩, (unhide HD).2.1⟩
  · have e : crt m = ((((m.made + 1 : Nat) : Int), 0), m.tick.newRun) := by unfold crt; rw [if_neg ha, if_neg hm]
    rw [e]
    have hge : ¬ 16777216 ≤ md := by omega
    have hm0 : 0 ≤ md := by omega
    have e2 : ((m.made + 1 : Nat) : Int) = md + 1 := by omega
    simp only [e2]
    have hbl : m.runs.length ≤ 16777216 := by have := h.ok.len; have := h.ok.made; omega
    obtain ⟨ao, cc, rfl, -⟩ := h.at
    have HM := hide hm
    clear h e hm hmd e2
    go_enter Tryz.func44, Tryz.ntmps44
    go_wp2_with (go_at_call 71; refine (unhide HR).mono ?_; rintro e w1 ⟨rfl, hd1⟩; have HD := hide hd1; obtain ⟨d0, d1, d2, d3, d4, df⟩ := dcells hd1.1.sto; rw [show ((m.tick.made : Nat) : Int) = md from (unhide HMD).symm] at d2; have hs1 : sb < w1.heap.size := hd1.1.lt sb hd1.1.own; clear hd1)
    refine gen_world ?_
    intro V hV
    have k2 : V.cell? ⟨sb, 2, none⟩ = some (.int .i64 (md + 1)) := by rw [hV]; go_simp
    have k4 : V.cell? ⟨sb, 4, none⟩ = some (.slice ao m.runs.length cc) := by rw [hV]; go_simp
    have hVs : V.heap[sb]? = some (.cells #[.int .i64 m.cap, .int .i64 m.peak, .int .i64 (md + 1), .int .i64 m.tick.ahead, .slice ao m.runs.length cc] 72 (0, 0)) := by
      rw [hV, set_heap1 (unhide HD).1.sto]
      simp [stoD, Sto.tick]
    have hVc : Chg (fun b => b = sb) w1 V := by rw [hV]; exact (Chg.refl (fun b => b = sb) w1).setCell (p := ⟨sb, 2, none⟩) (.inl rfl) _
    have hVz : V.heap.size = w1.heap.size := by rw [hV]; simp
    have hVo : V.drew.ownsRow 0 79 3 (.slice ao m.runs.length cc) m.runs.length (rowD sl m.runs) := own_kept (unhide HD).1.row fun g hg => hVc.block g ((unhide HD).1.row.lt g hg).2 (kind_ne (unhide HD).1.sto (by decide) (unhide HD).1.row g hg)
    obtain ⟨v', V3, hap, hown, hgrow, hat⟩ := run_append_run hVo (Nat.zero_le _) hbl (md + 1) 70
    obtain ⟨a3, k3, rfl⟩ := own_slice hown
    have hne : (Value.slice ao m.runs.length cc).ownBlock ≠ some sb := fun e => kind_ne (unhide HD).1.sto (by decide) (unhide HD).1.row sb e rfl
    have hb3 : V3.heap[sb]? = V.heap[sb]? := by
      rw [hgrow.block sb (by simp [hVz]; omega) (fun e => hne e.symm), Below.heap_alloc _ _ _ (by show sb < V.heap.size; omega)]
      rfl
    have j2 : V3.cell? ⟨sb, 2, none⟩ = some (.int .i64 (md + 1)) := (World.cell?_of_block (a := ⟨sb, 2, none⟩) hb3).trans k2
    have j4 : V3.cell? ⟨sb, 4, none⟩ = some (.slice ao m.runs.length cc) := (World.cell?_of_block (a := ⟨sb, 4, none⟩) hb3).trans k4
    have jf : V3.frozen? ⟨sb, 4, none⟩ = false := by
      rw [World.frozen?_of_block (a := ⟨sb, 4, none⟩) hb3]
      simp [World.frozen?, hVs]
    have HFI : Hid ((∃ rv' sl', DIn (V3.setCell ⟨sb, 4, none⟩ (.slice a3 (m.runs.length + 1) k3)) sb m.tick.newRun (Up F w (V3.setCell ⟨sb, 4, none⟩ (.slice a3 (m.runs.length + 1) k3))) rv' sl') ∧ Chg F w (V3.setCell ⟨sb, 4, none⟩ (.slice a3 (m.runs.length + 1) k3))) := by
      have e := unhide HMD
      subst e
      obtain ⟨p1, p2⟩ := DIn.pushRow (m := m.tick) (W := V.drew) (unhide HD).1 (by have := unhide HM; show m.made < 16777216; omega) hVs ⟨hVc.os, hVc.tape, hVc.output, hVc.size, hVc.block⟩ hVz hgrow hown hat
      have hz := (unhide HD).2.2
      refine ⟨⟨_, _, p1.kept (fun _ _ => rfl) (fun b x => ?_) (fun b x => ?_)⟩, (unhide HD).2.1.trans (p2.mono fun b x => .inl x)⟩
      · rcases x with x | x
        · exact .inl x
        · exact .inr ⟨by omega, x.2⟩
      · rcases x with x | x
        · exact p1.lt b (.inl x)
        · exact x.2
    have HAP := hide hap
    have hsV : sb < V.heap.size := by omega
    have l4 : ∀ o, (V.alloc o).cell? ⟨sb, 4, none⟩ = some (.slice ao m.runs.length cc) := fun o => cell?_alloc_old o k4
    clear hap hown hgrow hat hne hb3 hVs hVc hVz hVo hV d0 d1 d2 d3 d4 df
    go_region_law (refine step_appD (by rfl) _ _ _ (by rfl) _ _ _ _ (by rfl) (by rfl) (by exact unhide HAP) ?_)
    all_goals
      go_wp2
      go_ret2
      exact ⟨rfl, unhide HFI⟩
end Rs
end Go.Proofs.YtohfhkdhccpoaaaGreatDoor
/- Layer 5: the document's Append, its plain part; Used over rows. -/
namespace Go.Proofs.YtohfhkdhccpoaaaGreatDoor
open Go.RowKit
namespace Rs
/-- behind a call of the document's store -/
def DRes (F : Nat → Prop) (w : World) (sb : Nat) (m : Sto) (w' : World) : Prop := (∃ rv sl, DIn w' sb m (Up F w w') rv sl) ∧ Chg F w w'
theorem row_at {w : World} {l : List Run} {rv : Value} {sl : Nat → Value} (ho : w.ownsRow 0 79 3 rv l.length (rowD sl l)) : ∃ ao c, rv = .slice ao l.length c ∧ (0 < l.length → ∃ g, ao = some ⟨g, 0, none⟩ ∧ g < w.heap.size ∧ ∀ (j : Nat) r, l[j]? = some r → w.cell? ⟨g, j * 3, none⟩ = some (.int .i64 r.num) ∧ w.cell? ⟨g, j * 3 + 1, none⟩ = some (sl r.num) ∧ w.cell? ⟨g, j * 3 + 2, none⟩ = some (.bool r.shut)) := by
  rcases id ho.2 with ⟨e, e0⟩ | ⟨g, cap, cur, e, _, hx, _⟩
  · exact ⟨none, 0, by rw [e, e0], fun h0 => by omega⟩
  · subst e
    refine ⟨_, _, rfl, fun _ => ⟨g, rfl, (Array.getElem?_eq_some_iff.1 hx).1, fun j r hj => ?_⟩⟩
    have hjl := (List.getElem?_eq_some_iff.1 hj).1
    obtain ⟨a1, a2, a3⟩ := rowD_get (sl := sl) hj
    exact ⟨by rw [ho.cellAt (j * 3) (by omega)]; exact a1, by rw [ho.cellAt (j * 3 + 1) (by omega)]; exact a2, by rw [ho.cellAt (j * 3 + 2) (by omega)]; exact a3⟩
set_option maxRecDepth 100000 in
set_option maxHeartbeats 1000000 in
theorem used_row {w : World} {sb : Nat} {l : List Run} {rv : Value} {sl : Nat → Value} (c4 : w.cell? ⟨sb, 4, none⟩ = some rv) (ho : w.ownsRow 0 79 3 rv l.length (rowD sl l)) (htx : ∀ r ∈ l, w.ownsRow 0 5 1 (sl r.num) r.txt.length (r.txt.map encB)) (hbl : l.length ≤ 16777216) (htl : tot l ≤ 67108864) :
    Calls Tryz.prog 34 #[.pointer (some ⟨sb, 0, none⟩)] w fun e w' => e = .returned (.int .i64 (tot l)) ∧ w' = w := by
  have HTX : Hid (∀ (i : Nat) (r : Run), l[i]? = some r → ∃ a c, sl r.num = .slice a r.txt.length c) := fun i r hr => own_slice (htx r (List.mem_of_getElem? hr))
  obtain ⟨ao, cc, rfl, hat⟩ := row_at ho
  have HCL := hide hat
  clear hat ho htx
  go_enter Tryz.func34, Tryz.ntmps34
  go_wp2
  go_loop [3, 4] (fun s3 s4 => ∃ i : Nat, i ≤ l.length ∧ s4 = .int .i64 i ∧ s3 = .int .i64 (tot (l.take i))) (fun _ s4 => l.length - (intOf s4).toNat)
  case atStart => exact ⟨0, Nat.zero_le _, rfl, rfl⟩
  case round =>
    obtain ⟨i, hi, rfl, rfl⟩ := hrel
    by_cases hlt : i < l.length
    · have hltz : (i : Int) < (l.length : Int) := by omega
      have hi0 : 0 ≤ (i : Int) := by omega
      obtain ⟨r, hr⟩ : ∃ r, l[i]? = some r := ⟨_, List.getElem?_eq_getElem hlt⟩
      obtain ⟨g, rfl, hg, hcl⟩ := unhide HCL (by omega)
      have q1 := (hcl i r hr).2.1
      obtain ⟨a1, k1, e1⟩ := unhide HTX i r hr
      rw [e1] at q1
      have ht := tot_take hr
      have hle := tot_take_le l (i + 1)
      have HT := hide ht
      obtain ⟨u, hu⟩ : ∃ u, u = tot (l.take i) := ⟨_, rfl⟩
      rw [← hu] at ht ⊢
      have hul : u + r.txt.length ≤ 67108864 := by omega
      have HU := hide hu
      clear hcl HCL e1 hr ht hle hu
      generalize r.txt.length = n at *
      go_wp2
      exact ⟨⟨i + 1, by omega, by go_num, by rw [unhide HT, ← unhide HU]; go_num⟩, by simp [intOf]; omega⟩
    · have hltz : ¬ (i : Int) < (l.length : Int) := by omega
      obtain rfl : i = l.length := by omega
      rw [List.take_length]
      go_wp2
      go_ret
      exact ⟨rfl, rfl⟩
/-- while the bytes are put behind the run r -/
structure Dp (w wr : World) (F : Nat → Prop) (sb : Nat) (m : Sto) (rv : Value) (sl : Nat → Value) (r : Run) (u : Value) (xs : List UInt8) : Prop where
  sto : wr.heap[sb]? = some (.cells (stoD m rv) 72 (0, 0))
  row : wr.ownsRow 0 79 3 rv m.runs.length (rowD sl m.runs)
  txt : ∀ x ∈ m.runs, x.num ≠ r.num → wr.ownsRow 0 5 1 (sl x.num) x.txt.length (x.txt.map encB)
  own : wr.ownsRow 0 5 1 u xs.length (xs.map encB)
  inF : ∀ g, u.ownBlock = some g → F g ∨ w.heap.size ≤ g
  apart : ∀ g, u.ownBlock = some g → ∀ x ∈ m.runs, x.num ≠ r.num → (sl x.num).ownBlock ≠ some g
  chg : Chg F w wr
section
variable {w wr : World} {F : Nat → Prop} {sb : Nat} {m : Sto} {rv : Value} {sl : Nat → Value} {r : Run} {u : Value} {xs : List UInt8}
theorem Dp.start {w1 : World} (h : DIn w1 sb m F rv sl) (hc : Chg F w w1) (hr : r ∈ m.runs) : Dp w w1 F sb m rv sl r (sl r.num) r.txt :=
  ⟨h.sto, h.row, fun x hx _ => h.txt x hx, h.txt r hr, fun g hg => .inl (h.txF r hr g hg), fun g hg x hx hn => h.apart r hr x hx (fun e => hn e.symm) g hg, hc⟩
theorem Dp.push (h : Dp w wr F sb m rv sl r u xs) {o : Obj} {w2 : World} {v' : Value} {c : UInt8} (hg : (wr.alloc o).grownBy w2 u.ownBlock) (ho : w2.ownsRow 0 5 1 v' (xs.length + 1) (xs.map encB ++ [.int .u8 (c.toNat : Int)])) (hat : v'.ownBlock = u.ownBlock ∨ v'.ownBlock = some (wr.alloc o).heap.size) : Dp w w2 F sb m rv sl r v' (xs ++ [c]) := by
  have keep : ∀ b, b < wr.heap.size → u.ownBlock ≠ some b → w2.heap[b]? = wr.heap[b]? := fun b hb hn => by
    rw [hg.block b (by simp; omega) (fun e => hn e.symm), Below.heap_alloc _ _ _ hb]
  have hsb := (Array.getElem?_eq_some_iff.1 h.sto).1
  refine ⟨?_, ?_, fun x hx hn => ?_, ?_, fun g hg' => ?_, fun g hg' x hx hn e => ?_, ?_⟩
  · rw [keep sb hsb (fun e => kind_ne h.sto (by decide) h.own sb e rfl)]; exact h.sto
  · refine own_kept h.row fun g hg' => keep g (h.row.lt g hg').2 fun e => ?_
    obtain ⟨c1, z1, q1⟩ := Lib.ownsRow_kind h.row g hg'
    obtain ⟨c2, z2, q2⟩ := Lib.ownsRow_kind h.own g e
    rw [q1] at q2
    injection q2 with q2
    injection q2 with _ q2 _
    exact absurd q2 (by decide)
  · exact own_kept (h.txt x hx hn) fun g hg' => keep g ((h.txt x hx hn).lt g hg').2 fun e => h.apart g e x hx hn hg'
  · rw [List.length_append, List.map_append]; exact ho
  · rcases hat with e | e
    · rw [e] at hg'; exact h.inF g hg'
    · rw [e] at hg'
      injection hg' with hg'
      have := h.chg.size
      simp at hg'
      exact .inr (by omega)
  · rcases hat with e2 | e2
    · rw [e2] at hg'; exact h.apart g hg' x hx hn e
    · rw [e2] at hg'
      injection hg' with hg'
      have := ((h.txt x hx hn).lt g e).2
      simp at hg'
      omega
  · refine (h.chg.alloc o).grown hg fun k hk => ?_
    exact h.inF k hk
theorem rowD_txt {l : List Run} (hs : l.Pairwise fun a b => a.num < b.num) {i : Nat} (hi : l[i]? = some r) : (rowD sl l).set (i * 3 + 1) u = rowD (upd sl r.num u) (l.set i { r with txt := xs }) := by
  induction l generalizing i with
  | nil => simp at hi
  | cons x t ih =>
    obtain ⟨h1, h2⟩ := List.pairwise_cons.1 hs
    rcases i with _ | i
    · have : x = r := by simpa using hi
      subst this
      have e : rowD (upd sl x.num u) t = rowD sl t := by
        unfold rowD
        have : ∀ y ∈ t, upd sl x.num u y.num = sl y.num := fun y hy => upd_ne _ _ (by have := h1 y hy; omega)
        clear h1 h2 ih hs hi
        induction t with
        | nil => rfl
        | cons y s ih => rw [List.flatMap_cons, List.flatMap_cons, ih fun z hz => this z (List.mem_cons_of_mem _ hz), this y (List.mem_cons_self ..)]
      rw [rowD_cons, List.set_cons_zero, rowD_cons]
      simp only [Nat.zero_mul, Nat.zero_add, List.set_cons_succ, List.set_cons_zero]
      rw [e, upd_same]
    · have hi' : t[i]? = some r := by simpa using hi
      have := ih h2 hi'
      have hn : upd sl r.num u x.num = sl x.num := upd_ne _ _ (by have := h1 r (List.mem_of_getElem? hi'); omega)
      rw [show (i + 1) * 3 + 1 = i * 3 + 1 + 1 + 1 + 1 by omega, rowD_cons]
      simp [rowD_cons, this, hn]
/-- the text was laid into its row -/
theorem Dp.laid {g n c : Nat} (h : Dp w wr F sb m (.slice (some ⟨g, 0, none⟩) n c) sl r u xs) (hs : m.runs.Pairwise fun a b => a.num < b.num) {i : Nat} (hi : m.runs[i]? = some r) :
    (wr.setCell ⟨g, i * 3 + 1, none⟩ u).heap[sb]? = some (.cells (stoD m (.slice (some ⟨g, 0, none⟩) n c)) 72 (0, 0)) ∧
    (wr.setCell ⟨g, i * 3 + 1, none⟩ u).ownsRow 0 79 3 (.slice (some ⟨g, 0, none⟩) n c) (repl m.runs { r with txt := xs }).length (rowD (upd sl r.num u) (repl m.runs { r with txt := xs })) ∧
    (∀ x ∈ repl m.runs { r with txt := xs }, (wr.setCell ⟨g, i * 3 + 1, none⟩ u).ownsRow 0 5 1 (upd sl r.num u x.num) x.txt.length (x.txt.map encB)) := by
  have e2 : repl m.runs { r with txt := xs } = m.runs.set i { r with txt := xs } := repl_set hs hi rfl
  obtain rfl : n = m.runs.length := by
    obtain ⟨_, _, e⟩ := own_slice h.row
    injection e
  obtain ⟨cur, z, hcur⟩ := Lib.ownsRow_kind h.row g rfl
  refine ⟨?_, ?_, fun x hx => ?_⟩
  · rw [Below.heap_setCell _ _ _ _ (fun e => kind_ne h.sto (by decide) h.row g rfl e.symm)]; exact h.sto
  · rw [e2, ← rowD_txt hs hi, List.length_set]
    exact (h.row.stored (i * 3 + 1) u).1
  · rcases repl_mem hx with ⟨rfl, _⟩ | ⟨hx, hn⟩
    · rw [show upd sl r.num u ({ r with txt := xs } : Run).num = u from upd_same _ _ _]
      exact own_kept h.own fun b hb => Below.heap_setCell _ _ _ _ (kind_ne hcur (by decide) h.own b hb)
    · rw [upd_ne _ _ hn]
      exact own_kept (h.txt x hx hn) fun b hb => Below.heap_setCell _ _ _ _ (kind_ne hcur (by decide) (h.txt x hx hn) b hb)
/-- and the store is whole again -/
theorem Dp.fin {g n c : Nat} (h : Dp w wr F sb m (.slice (some ⟨g, 0, none⟩) n c) sl r u xs) (hd : ∀ b, F b → b < w.heap.size) (hF : F sb) (hG : F g) (htx : ∀ x ∈ m.runs, ∀ g, (sl x.num).ownBlock = some g → F g) (hap : ∀ x ∈ m.runs, ∀ y ∈ m.runs, x.num ≠ y.num → ∀ g, (sl x.num).ownBlock = some g → (sl y.num).ownBlock ≠ some g) (hs : m.runs.Pairwise fun a b => a.num < b.num) {i : Nat} (hi : m.runs[i]? = some r)
    {m' : Sto} (hm : m'.runs = repl m.runs { r with txt := xs }) (ok : m'.Ok) {W : World} (hW : W.heap[sb]? = some (.cells (stoD m' (.slice (some ⟨g, 0, none⟩) n c)) 72 (0, 0))) (hk : ∀ b, b ≠ sb → W.heap[b]? = (wr.setCell ⟨g, i * 3 + 1, none⟩ u).heap[b]?) (hz : W.heap.size = wr.heap.size) (hc : Chg F w W) : DRes F w sb m' W := by
  obtain ⟨l1, l2, l3⟩ := h.laid hs hi
  have hlt : ∀ b, Up F w W b → b < W.heap.size := fun b hb => by
    rcases hb with hb | hb
    · exact Nat.lt_of_lt_of_le (hd b hb) hc.size
    · exact hb.2
  have hub : ∀ g', u.ownBlock = some g' → Up F w W g' := fun g' hg' => by
    have := (h.own.lt g' hg').2
    rcases h.inF g' hg' with x | x
    · exact .inl x
    · exact .inr ⟨x, by omega⟩
  refine ⟨⟨.slice (some ⟨g, 0, none⟩) n c, upd sl r.num u, ⟨ok, hlt, .inl hF, hW, ?_, fun g' hg' => ?_, fun x hx => ?_, fun x hx g' hg' => ?_, fun x hx y hy hn g' hg' hg2 => ?_⟩⟩, hc⟩
  · rw [hm]
    exact own_kept l2 fun b hb => hk b (kind_ne l1 (by decide) l2 b hb)
  · injection hg' with hg'
    exact .inl (hg' ▸ hG)
  · rw [hm] at hx
    exact own_kept (l3 x hx) fun b hb => hk b (kind_ne l1 (by decide) (l3 x hx) b hb)
  · rw [hm] at hx
    rcases repl_mem hx with ⟨rfl, _⟩ | ⟨hx, hn⟩
    · rw [show upd sl r.num u ({ r with txt := xs } : Run).num = u from upd_same _ _ _] at hg'
      exact hub g' hg'
    · rw [upd_ne _ _ hn] at hg'
      exact .inl (htx x hx g' hg')
  · rw [hm] at hx hy
    rcases repl_mem hx with ⟨rfl, _⟩ | ⟨hx, hxn⟩
    · rcases repl_mem hy with ⟨rfl, _⟩ | ⟨hy, hyn⟩
      · exact hn rfl
      · rw [show upd sl r.num u ({ r with txt := xs } : Run).num = u from upd_same _ _ _] at hg'
        rw [upd_ne _ _ hyn] at hg2
        exact h.apart g' hg' y hy hyn hg2
    · rcases repl_mem hy with ⟨rfl, _⟩ | ⟨hy, hyn⟩
      · rw [show upd sl r.num u ({ r with txt := xs } : Run).num = u from upd_same _ _ _] at hg2
        rw [upd_ne _ _ hxn] at hg'
        exact h.apart g' hg2 x hx hxn hg'
      · rw [upd_ne _ _ hxn] at hg'
        rw [upd_ne _ _ hyn] at hg2
        exact hap x hx y hy hn g' hg' hg2
end
end Rs
end Go.Proofs.YtohfhkdhccpoaaaGreatDoor
/- Layer 5: the document's Append. -/
namespace Go.Proofs.YtohfhkdhccpoaaaGreatDoor
open Go.RowKit
namespace Rs
theorem DRes.of {F : Nat → Prop} {w w1 : World} {sb : Nat} {m : Sto} {rv : Value} {sl : Nat → Value} (h : DIn w1 sb m F rv sl) (hc : Chg F w w1) : DRes F w sb m w1 := ⟨⟨rv, sl, h.up⟩, hc⟩
theorem DRes.drewN {F : Nat → Prop} {w w1 : World} {sb : Nat} {m : Sto} (h : DRes F w sb m w1) (n : Nat) : DRes F w sb m (w1.drewN n) := by
  obtain ⟨⟨rv, sl, hd⟩, hc⟩ := h
  exact ⟨⟨rv, sl, hd.kept (fun _ _ => rfl) (fun _ x => x) (fun b hb => hd.lt b hb)⟩, ⟨hc.os, hc.tape, hc.output, hc.size, hc.block⟩⟩
theorem new_cell1 {W : World} {x u : Value} {t : TypeId} {j : Nat} (hu : [x][j]? = some u) : (W.alloc (.cells #[x] t)).cell? ((⟨W.heap.size, 0, none⟩ : Addr).add j) = some u := by
  have : j = 0 := by
    have := (List.getElem?_eq_some_iff.1 hu).1
    simpa using this
  subst this
  simp at hu
  subst hu
  rw [Go.WideShapes.add_plain, Nat.zero_add, World.cell?_alloc_at _ _ _ _ rfl]
  rfl
set_option maxRecDepth 100000 in
set_option maxHeartbeats 2000000 in
theorem append_doc {w : World} {sb : Nat} {m : Sto} {F : Nat → Prop} {rv : Value} {sl : Nat → Value} (h : DIn w sb m F rv sl) (k : Int) {v : Value} {L : List ByteArray} (hL : Parts w v L F) (c : Nat) (m' : Sto) (HA : Hid (app m k L = (c, m'))) :
    Calls Tryz.prog 46 #[.pointer (some ⟨sb, 0, none⟩), .int .i64 k, v] w fun e w' => e = .returned (.int .i64 (c : Int)) ∧ DRes F w sb m' w' := by
  have HR := hide (refused_any h)
  by_cases ha : m.ahead = 1
  · have e := unhide HA
    unfold app at e
    rw [if_pos ha] at e
    injection e with e1 e2
    subst e1 e2
    rw [show decide (m.ahead = 1) = true by simp [ha]] at HR
    clear h HA
    go_enter Tryz.func46, Tryz.ntmps46
    go_wp2_with (go_at_call 71; refine (unhide HR).mono ?_; rintro e w1 ⟨rfl, hd1⟩; have HD := hide hd1; clear hd1)
    go_ret
    exact ⟨rfl, DRes.of (unhide HD).1 (unhide HD).2.1⟩
  rw [show decide (m.ahead = 1) = false by simp [ha]] at HR
  rcases hl : look m.runs k with _ | r
  · have e := unhide HA
    unfold app at e
    rw [if_neg ha, hl] at e
    injection e with e1 e2
    subst e1 e2
    have HL := hide hl
    clear h HA hl
    go_enter Tryz.func46, Tryz.ntmps46
    go_wp2_with (first | (go_at_call 71; refine (unhide HR).mono ?_; rintro e w1 ⟨rfl, hd1⟩; have HD := hide hd1; clear hd1) | (go_at_call 74; refine (fit_none (unhide HD).1 (unhide HL)).mono ?_; rintro e w2 ⟨rfl, rfl⟩))
    go_ret
    exact ⟨rfl, DRes.of (unhide HD).1 (unhide HD).2.1⟩
  obtain ⟨i, hi, hn, hil⟩ := look_at_i hl
  have HI := hide hi
  cases hs : r.shut
  · have HAPP : Hid ((if tot m.runs + sz L ≤ m.cap then (0, m.tick.app r L) else (7, m.tick)) = (c, m')) := by
      show _ = _
      have e := unhide HA
      unfold app at e
      rw [if_neg ha, hl] at e
      simpa [hs] using e
    have HSH := hide hs
    have HP := hide hL
    have hcap : m.cap ≤ 67108864 := h.ok.cap
    have hus : tot m.runs ≤ m.cap := h.ok.used
    have HLT := hide h.lt
    have HOWN := hide h.own
    have HOK := hide h.ok
    have HTXF := hide h.txF
    have HAPT := hide h.apart
    obtain ⟨ro, rc, rfl, hat⟩ := h.at
    obtain ⟨g, rfl, hg, hF, -⟩ := hat (by omega)
    have HGF := hide hF
    have hbl : m.runs.length ≤ 16777216 := by have := h.ok.len; have := h.ok.made; omega
    obtain ⟨a1, k1, e1⟩ := txt_slice h hi
    obtain ⟨ao, cp, rfl, hn2, -⟩ := hL
    obtain ⟨N, hN⟩ : ∃ N, N = L.length := ⟨_, rfl⟩
    have HN := hide hN
    rw [← hN] at hn2 ⊢
    have HP2 : Hid (Parts w (.slice ao N cp) L F) := by rw [hN]; exact HP
    have HE1 := hide e1
    have hiz : (i : Int) < (m.runs.length : Int) := by omega
    have hi0 : 0 ≤ (i : Int) := by omega
    clear h HA hl hs hi hat hN e1 HP
    subst hn
    have HFIT : Hid (∀ w1, DIn w1 sb m.tick F (.slice (some ⟨g, 0, none⟩) m.runs.length rc) sl → Calls Tryz.prog 74 #[.pointer (some ⟨sb, 0, none⟩), .int .i64 r.num] w1 fun e w' => e = .returned (.tuple #[.int .i64 i, .int .i64 0]) ∧ w' = w1) := fun w1 d1 => by
      have q := fit_some d1 (unhide HI)
      rw [unhide HSH] at q
      simpa using q
    go_enter Tryz.func46, Tryz.ntmps46
    go_wp2_with (first | (go_at_call 71; refine (unhide HR).mono ?_; rintro e w1 ⟨rfl, hd1⟩; have HD := hide hd1; obtain ⟨x0, x1, x2, x3, x4, xf⟩ := dcells hd1.1.sto; have hsz1 : sb < w1.heap.size := hd1.1.lt sb hd1.1.own; clear hd1) | (go_at_call 74; refine (unhide HFIT _ (unhide HD).1).mono ?_; rintro e w2 ⟨rfl, hw2⟩; have hw3 := hw2.symm; subst hw3; clear hw2))
    have HUS : Hid (∀ n, Calls Tryz.prog 34 #[.pointer (some ⟨sb, 0, none⟩)] (w1.drewN n) fun e w' => e = .returned (.int .i64 (tot m.runs)) ∧ w' = w1.drewN n) := fun n => used_doc (m := m.tick) ((unhide HD).1.kept (w' := w1.drewN n) (fun _ _ => rfl) (fun _ x => x) (fun b hb => (unhide HD).1.lt b hb))
    have x0' : w1.cell? ⟨sb, 0, none⟩ = some (.int .i64 (m.cap : Int)) := x0
    obtain ⟨U, hU⟩ : ∃ U, tot m.runs = U := ⟨_, rfl⟩
    rw [hU] at HUS hus
    have HUE := hide hU
    clear hU x0
    go_quiet ((go_at_call 34; exact Calls.quiet_of_same (unhide HUS _)))
    have HDq : Hid (DIn (w1.drewN nq) sb m.tick F (.slice (some ⟨g, 0, none⟩) m.runs.length rc) sl ∧ Chg F w (w1.drewN nq)) := ⟨(unhide HD).1.kept (fun _ _ => rfl) (fun _ x => x) (fun b hb => (unhide HD).1.lt b hb), ⟨(unhide HD).2.1.os, (unhide HD).2.1.tape, (unhide HD).2.1.output, (unhide HD).2.1.size, (unhide HD).2.1.block⟩⟩
    clear HUS HD HFIT HR x0' x1 x2 x3 x4 xf hsz1
    generalize w1.drewN nq = V at *
    go_wp2
    go_loopw [10, 11] (fun s10 s11 wr => ∃ (j rm : Nat), s11 = .int .i64 (j : Int) ∧ j ≤ N ∧ s10 = .int .i64 (rm : Int) ∧ rm ≤ 67108864 ∧ Hid (rm + sz (L.take j) + U = m.cap) ∧ wr = V) (fun _ j _ => N - (intOf j).toNat)
    case atStart => exact ⟨0, m.cap - U, rfl, Nat.zero_le _, by rw [show ((m.cap - U : Nat) : Int) = (m.cap : Int) - (U : Int) by omega], by omega, (by show _ = _; simp [sz]; omega), rfl⟩
    case round =>
      obtain ⟨j, rm, rfl, hj, rfl, hrm, HRM, hwr⟩ := hrel
      subst hwr
      by_cases hlt : j < N
      · obtain ⟨x, hx⟩ : ∃ x, L[j]? = some x := ⟨_, List.getElem?_eq_getElem (by rw [← unhide HN]; exact hlt)⟩
        obtain ⟨ao', cp', ea, -, hcc⟩ := (unhide HP2).chg (unhide HDq).2
        obtain ⟨rfl, -⟩ : ao = ao' ∧ cp = cp' := by injection ea with e1 e2 e3; exact ⟨e1, e3⟩
        obtain ⟨g2, off, rfl, hg2, -, hc⟩ := hcc (by rw [← unhide HN]; omega)
        have hcx : wr.cell? ⟨g2, off + j, none⟩ = some (.string x) := hc j x hx
        have hltz : (j : Int) < (N : Int) := by omega
        have HSX := hide (sz_take hx)
        clear hcc hc hx ea
        by_cases hfit : x.size ≤ rm
        · have hfz : ¬ (rm : Int) < (x.size : Int) := by omega
          go_wp2
          go_roundw
          case rel => exact ⟨j + 1, rm - x.size, by go_num, by omega, by rw [show ((rm - x.size : Nat) : Int) = (rm : Int) - (x.size : Int) by omega], by omega, (by show _ = _; have := unhide HRM; have := unhide HSX; omega), (by first | rfl | trivial)⟩
          case measure => simp [intOf]; omega
        · have hfz : (rm : Int) < (x.size : Int) := by omega
          go_wp2
          go_ret
          have e := unhide HAPP
          rw [if_neg (by have := unhide HRM; have := unhide HSX; have := sz_le L (j + 1); have := unhide HUE; omega)] at e
          injection e with e1 e2
          subst e1 e2
          exact ⟨rfl, DRes.of (unhide HDq).1 (unhide HDq).2⟩
      · have hltz : ¬ (j : Int) < (N : Int) := by omega
        have HF2 : Hid (tot m.runs + sz L ≤ m.cap) := by
          show _ ≤ _
          have h1 := unhide HRM
          rw [List.take_of_length_le (by rw [← unhide HN]; omega)] at h1
          have := unhide HUE
          omega
        have e := unhide HAPP
        rw [if_pos (unhide HF2)] at e
        injection e with e1 e2
        subst e1 e2
        have HSZ : Hid (sz L ≤ 67108864) := by show _ ≤ _; have := unhide HF2; omega
        have hrt : r.txt.length ≤ 67108864 := by have := tot_mem (List.mem_of_getElem? (unhide HI)); have := unhide HUE; omega
        have HDP0 : Hid (Dp w wr F sb m.tick (.slice (some ⟨g, 0, none⟩) m.runs.length rc) sl r (.slice a1 r.txt.length k1) (r.txt ++ bytes (L.take 0))) := by
          have d := Dp.start (unhide HDq).1 (unhide HDq).2 (List.mem_of_getElem? (unhide HI))
          rw [unhide HE1] at d
          simpa [bytes, Hid] using d
        obtain ⟨d0, d1, d2, d3, d4, df⟩ := dcells (unhide HDq).1.sto
        have q1 : wr.cell? ⟨g, i * 3 + 1, none⟩ = some (.slice a1 r.txt.length k1) := by
          have := (unhide HDq).1.row.cellAt (i * 3 + 1) (by show i * 3 + 1 < m.runs.length * 3; omega)
          rw [this, ← unhide HE1]
          exact (rowD_get (sl := sl) (unhide HI)).2.1
        have hgw : g < wr.heap.size := (unhide HDq).1.lt g (unhide HGF)
        have hsw : sb < wr.heap.size := (unhide HDq).1.lt sb (unhide HOWN)
        go_wp2
        clear d0 d1 d2 d3 d4 df q1 hgw hsw HRM
        obtain ⟨wo, rfl⟩ : ∃ x : World, x = wr := ⟨_, rfl⟩
        go_loopw [12, 13] (fun s12 s13 wr => ∃ (q : Nat) (u : Value), u = s12 ∧ s13 = .int .i64 (q : Int) ∧ q ≤ N ∧ Hid (Dp w wr F sb m.tick (.slice (some ⟨g, 0, none⟩) m.runs.length rc) sl r u (r.txt ++ bytes (L.take q)))) (fun _ q _ => N - (intOf q).toNat)
        case atStart => exact ⟨0, _, rfl, rfl, Nat.zero_le _, HDP0⟩
        case round =>
          obtain ⟨q, u, rfl, rfl, hq, HDP⟩ := hrel
          by_cases hqn : q < N
          · obtain ⟨x, hx⟩ : ∃ x, L[q]? = some x := ⟨_, List.getElem?_eq_getElem (by rw [← unhide HN]; exact hqn)⟩
            have hqz : (q : Int) < (N : Int) := by omega
            have HCX : Hid (∃ g2 off, ao = some ⟨g2, off, none⟩ ∧ ∀ W, Chg F w W → g2 < W.heap.size ∧ W.cell? ⟨g2, off + q, none⟩ = some (.string x)) := by
              obtain ⟨ao', cp', ea, -, hcc⟩ := unhide HP2
              obtain ⟨rfl, -⟩ : ao = ao' ∧ cp = cp' := by injection ea with e1 e2 e3; exact ⟨e1, e3⟩
              obtain ⟨g2, off, rfl, hg2, hgF, hc⟩ := hcc (by rw [← unhide HN]; omega)
              exact ⟨g2, off, rfl, fun W hW => ⟨Nat.lt_of_lt_of_le hg2 hW.size, (World.cell?_of_block (a := ⟨g2, off + q, none⟩) (hW.block g2 hg2 hgF)).trans (hc q x hx)⟩⟩
            obtain ⟨g2, off, rfl, hcW⟩ := unhide HCX
            have HCW := hide hcW
            have HSX := hide (sz_take hx)
            have HBX := hide (bytes_take hx)
            have hszq : sz (L.take q) + x.size ≤ 67108864 := by have := sz_le L (q + 1); have := unhide HSX; have := unhide HSZ; omega
            have HDP1 : Hid (Dp w wr F sb m.tick (.slice (some ⟨g, 0, none⟩) m.runs.length rc) sl r u ((r.txt ++ bytes (L.take q)) ++ (x.data.toList).take 0)) := by
              rw [List.take_zero, List.append_nil]; exact HDP
            clear hcW HCX hx HDP
            go_wp2
            obtain ⟨wq, rfl⟩ : ∃ x : World, x = wr := ⟨_, rfl⟩
            go_loopw [12, 14] (fun s12 s14 wr => ∃ (y : Nat) (u : Value), u = s12 ∧ s14 = .int .i64 (y : Int) ∧ y ≤ x.size ∧ Hid (Dp w wr F sb m.tick (.slice (some ⟨g, 0, none⟩) m.runs.length rc) sl r u ((r.txt ++ bytes (L.take q)) ++ (x.data.toList).take y))) (fun _ y _ => x.size - (intOf y).toNat)
            case atStart => exact ⟨0, _, rfl, rfl, Nat.zero_le _, HDP1⟩
            case round =>
              obtain ⟨y, u2, rfl, rfl, hy, HDPy⟩ := hrel
              obtain ⟨hg2, hcx⟩ := unhide HCW wr (unhide HDPy).chg
              by_cases hyx : y < x.size
              · have hyz : (y : Int) < (x.size : Int) := by omega
                obtain ⟨b, hb⟩ : ∃ b, x[y] = b := ⟨_, rfl⟩
                have HTK : Hid (x.data.toList.take (y + 1) = x.data.toList.take y ++ [b]) := by
                  show _ = _
                  rw [List.take_succ_eq_append_getElem (by simpa using hyx), ← hb]
                  rfl
                have hlen : ((r.txt ++ bytes (L.take q)) ++ (x.data.toList).take y).length = r.txt.length + sz (L.take q) + y := by
                  rw [List.length_append, List.length_append, bytes_len, List.length_take]
                  have : x.data.toList.length = x.size := by simp
                  omega
                obtain ⟨i0, hi00, hz0⟩ := Option.map_eq_some_iff.1 infoB
                simp only [Prod.mk.injEq] at hz0
                obtain ⟨hz0, hz1, hz2⟩ := hz0
                go_wp2_with (at_builtin; refine wpList_append_own_at _ rfl _ _ 77 rfl 0 5 i0 (.int .u8 0) 1 1 Tryz.underlying77 hi00 hz0 hz1 hz2 rfl (by decide) _ _ _ rfl (own_kept (unhide HDPy).own fun g' hg' => Below.heap_alloc _ _ _ ((unhide HDPy).own.lt g' hg').2) ⟨wr.heap.size, 0, none⟩ 1 1 [.int .u8 (b.toNat : Int)] rfl rfl (fun j u hu => new_cell1 hu) (by simp [Value.oneCell']) (by unfold maxLen; rw [hlen]; omega) (by rw [hlen]; omega) (Nat.zero_le _) ?_; intro v' w2 hown' hgrow hnil hat; clear hnil; have HDP2 := hide ((unhide HDPy).push (c := b) hgrow hown' hat); clear hown' hgrow hat)
                go_roundw
                case rel => exact ⟨y + 1, v', rfl, by go_num, by omega, (by rw [unhide HTK, ← List.append_assoc]; exact HDP2)⟩
                case measure => simp [intOf]; omega
              · have hyz : ¬ (y : Int) < (x.size : Int) := by omega
                have HDP3 : Hid (Dp w wr F sb m.tick (.slice (some ⟨g, 0, none⟩) m.runs.length rc) sl r u2 (r.txt ++ bytes (L.take (q + 1)))) := by
                  have d := unhide HDPy
                  have e0 : x.data.toList.take y = x.data.toList := List.take_of_length_le (by have : x.data.toList.length = x.size := by simp
                                                                                               omega)
                  rw [e0, List.append_assoc, ← unhide HBX] at d
                  exact d
                go_wp2
                go_roundw
                case rel => exact ⟨q + 1, u2, rfl, by go_num, by omega, HDP3⟩
                case measure => simp [intOf]; omega
          · have hqz : ¬ (q : Int) < (N : Int) := by omega
            have HDPF : Hid (Dp w wr F sb m.tick (.slice (some ⟨g, 0, none⟩) m.runs.length rc) sl r u (r.txt ++ bytes L)) := by
              have d := unhide HDP
              rw [List.take_of_length_le (by rw [← unhide HN]; omega)] at d
              exact d
            obtain ⟨au, cu, eu⟩ := own_slice (unhide HDPF).own
            subst eu
            clear HDP
            obtain ⟨d0, d1, d2, d3, d4, df⟩ := dcells (unhide HDPF).sto
            have q1 : wr.cell? ⟨g, i * 3 + 1, none⟩ = some (sl r.num) := ((unhide HDPF).row.cellAt (i * 3 + 1) (by show i * 3 + 1 < m.runs.length * 3; omega)).trans (rowD_get (sl := sl) (unhide HI)).2.1
            have qf := (unhide HDPF).row.frozenAt (i * 3 + 1)
            have hsb := (Array.getElem?_eq_some_iff.1 (unhide HDPF).sto).1
            have hgl := ((unhide HDPF).row.lt g rfl).2
            have hgs : ¬ g = sb := kind_ne (unhide HDPF).sto (by decide) (unhide HDPF).row g rfl
            have hsg : ¬ sb = g := fun e => hgs e.symm
            have okT : m.tick.Ok := (unhide HOK).tick
            obtain ⟨l1, l2, l3⟩ := (unhide HDPF).laid okT.sorted (unhide HI)
            have hrm2 := List.mem_of_getElem? (unhide HI)
            have htt : tot (repl m.runs { r with txt := r.txt ++ bytes L }) = tot m.runs + sz L := app_tot okT hrm2 L
            have HUS2 := hide (used_row (dcells l1).2.2.2.2.1 l2 l3 (by show (repl m.runs _).length ≤ _; unfold repl; rw [List.length_map]; exact hbl) (by show tot (repl m.runs _) ≤ _; rw [htt]; have := unhide HF2; omega))
            rw [show tot (repl m.tick.runs { r with txt := r.txt ++ bytes L }) = tot m.runs + sz L from htt] at HUS2
            obtain ⟨T, hT⟩ : ∃ T, tot m.runs + sz L = T := ⟨_, rfl⟩
            have hTl : T ≤ 67108864 := by have := unhide HF2; omega
            rw [hT] at HUS2
            have HTT := hide hT
            have HOKA := hide (app_ok okT hrm2 (L := L) (unhide HF2))
            have HL1 := hide l1
            have d1' : wr.cell? ⟨sb, 1, none⟩ = some (.int .i64 (m.peak : Int)) := d1
            clear l1 l2 l3 htt hT okT d0 d2 d3 d1
            generalize (r.txt ++ bytes L).length = ln at *
            obtain ⟨P, hP⟩ : ∃ P, m.peak = P := ⟨_, rfl⟩
            have hPl : P ≤ 67108864 := by have := (unhide HOK).peakle; omega
            rw [hP] at d1'
            have HPE := hide hP
            clear hP
            have HCH : Hid (Chg F w (wr.setCell ⟨g, i * 3 + 1, none⟩ (.slice au ln cu))) := (unhide HDPF).chg.setCell (.inl (unhide HGF)) _
            have HFIN : Hid (∀ W, W.heap[sb]? = some (.cells (stoD (m.tick.app r L) (.slice (some ⟨g, 0, none⟩) m.runs.length rc)) 72 (0, 0)) → (∀ b, b ≠ sb → W.heap[b]? = (wr.setCell ⟨g, i * 3 + 1, none⟩ (.slice au ln cu)).heap[b]?) → W.heap.size = wr.heap.size → Chg F w W → DRes F w sb (m.tick.app r L) W) := fun W h1 h2 h3 h4 =>
              (unhide HDPF).fin (unhide HLT) (unhide HOWN) (unhide HGF) (unhide HTXF) (unhide HAPT) (unhide HOK).tick.sorted (unhide HI) (m' := m.tick.app r L) rfl (unhide HOKA) h1 h2 h3 h4
            by_cases hpk : P < T
            · have hpz : (P : Int) < (T : Int) := by omega
              have HEND : Hid (DRes F w sb (m.tick.app r L) ((wr.setCell ⟨g, i * 3 + 1, none⟩ (.slice au ln cu)).setCell ⟨sb, 1, none⟩ (.int .i64 (T : Int)))) := by
                refine unhide HFIN _ ?_ (fun b hb => Below.heap_setCell _ _ _ _ hb) (by simp) ((unhide HCH).setCell (.inl (unhide HOWN)) _)
                rw [set_heap1 (unhide HL1)]
                have e3 : max m.peak (tot m.runs + sz L) = T := by rw [unhide HTT, unhide HPE]; omega
                simp [stoD, Sto.app, Sto.tick, e3]
              go_wp2_with (go_at_call 34; refine (unhide HUS2).mono ?_; rintro e w5 ⟨rfl, hw5⟩; subst hw5)
              go_ret
              exact ⟨rfl, unhide HEND⟩
            · have hpz : ¬ (P : Int) < (T : Int) := by omega
              have HEND : Hid (DRes F w sb (m.tick.app r L) (wr.setCell ⟨g, i * 3 + 1, none⟩ (.slice au ln cu))) := by
                refine unhide HFIN _ ?_ (fun b _ => rfl) (by simp) (unhide HCH)
                rw [unhide HL1]
                have e3 : max m.peak (tot m.runs + sz L) = m.peak := by rw [unhide HTT, unhide HPE]; omega
                simp [stoD, Sto.app, Sto.tick, e3]
              go_wp2_with (go_at_call 34; refine (unhide HUS2).mono ?_; rintro e w5 ⟨rfl, hw5⟩; subst hw5)
              go_ret
              exact ⟨rfl, unhide HEND⟩
  · have e := unhide HA
    unfold app at e
    rw [if_neg ha, hl] at e
    simp [hs] at e
    obtain ⟨e1, e2⟩ := e
    subst e1 e2
    have HSH := hide hs
    clear h HA hl hi hs
    subst hn
    go_enter Tryz.func46, Tryz.ntmps46
    go_wp2_with (first | (go_at_call 71; refine (unhide HR).mono ?_; rintro e w1 ⟨rfl, hd1⟩; have HD := hide hd1; clear hd1) | (go_at_call 74; have q := fit_some (unhide HD).1 (unhide HI); rw [unhide HSH] at q; simp only [if_true] at q; refine q.mono ?_; clear q; rintro e w2 ⟨rfl, rfl⟩))
    go_ret
    exact ⟨rfl, DRes.of (unhide HD).1 (unhide HD).2.1⟩
end Rs
end Go.Proofs.YtohfhkdhccpoaaaGreatDoor
