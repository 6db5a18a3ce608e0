/- Layer 5: the document's Append, its plain part; Used over rows. -/
import Derived.Test.YtdcffkahijpcbabDoorDi
namespace Go.Proofs.YtdcffkahijpcbabDoor
open Go.RowKit
namespace Rs
/-- behind a call of the document's store -/
def DRes (F : Nat → Prop) (w : World) (sb : Nat) (m : Sto) (w' : World) : Prop := (∃ rv sl, DIn w' sb m (Up F w w') rv sl) ∧ Chg F w w'
theorem row_at {w : World} {l : List Run} {rv : Value} {sl : Nat → Value} (ho : w.ownsRow 0 131 3 rv l.length (rowD sl l)) : ∃ ao c, rv = .slice ao l.length c ∧ (0 < l.length → ∃ g, ao = some ⟨g, 0, none⟩ ∧ g < w.heap.size ∧ ∀ (j : Nat) r, l[j]? = some r → w.cell? ⟨g, j * 3, none⟩ = some (.int .i64 r.num) ∧ w.cell? ⟨g, j * 3 + 1, none⟩ = some (sl r.num) ∧ w.cell? ⟨g, j * 3 + 2, none⟩ = some (.bool r.shut)) := by
  rcases id ho.2 with ⟨e, e0⟩ | ⟨g, cap, cur, e, _, hx, _⟩
  · exact ⟨none, 0, by rw [e, e0], fun h0 => by omega⟩
  · subst e
    refine ⟨_, _, rfl, fun _ => ⟨g, rfl, (Array.getElem?_eq_some_iff.1 hx).1, fun j r hj => ?_⟩⟩
    have hjl := (List.getElem?_eq_some_iff.1 hj).1
    obtain ⟨a1, a2, a3⟩ := rowD_get (sl := sl) hj
    exact ⟨by rw [ho.cellAt (j * 3) (by omega)]; exact a1, by rw [ho.cellAt (j * 3 + 1) (by omega)]; exact a2, by rw [ho.cellAt (j * 3 + 2) (by omega)]; exact a3⟩
set_option maxRecDepth 100000 in
set_option maxHeartbeats 1000000 in
theorem used_row {w : World} {sb : Nat} {l : List Run} {rv : Value} {sl : Nat → Value} (c4 : w.cell? ⟨sb, 4, none⟩ = some rv) (ho : w.ownsRow 0 131 3 rv l.length (rowD sl l)) (htx : ∀ r ∈ l, w.ownsRow 0 5 1 (sl r.num) r.txt.length (r.txt.map encB)) (hbl : l.length ≤ 16777216) (htl : tot l ≤ 67108864) :
    Calls Tryd.prog 37 #[.pointer (some ⟨sb, 0, none⟩)] w fun e w' => e = .returned (.int .i64 (tot l)) ∧ w' = w := by
  have HTX : Hid (∀ (i : Nat) (r : Run), l[i]? = some r → ∃ a c, sl r.num = .slice a r.txt.length c) := fun i r hr => own_slice (htx r (List.mem_of_getElem? hr))
  obtain ⟨ao, cc, rfl, hat⟩ := row_at ho
  have HCL := hide hat
  clear hat ho htx
  go_enter Tryd.func37, Tryd.ntmps37
  go_wp2
  go_loop [3, 4] (fun s3 s4 => ∃ i : Nat, i ≤ l.length ∧ s4 = .int .i64 i ∧ s3 = .int .i64 (tot (l.take i))) (fun _ s4 => l.length - (intOf s4).toNat)
  case atStart => exact ⟨0, Nat.zero_le _, rfl, rfl⟩
  case round =>
    obtain ⟨i, hi, rfl, rfl⟩ := hrel
    by_cases hlt : i < l.length
    · have hltz : (i : Int) < (l.length : Int) := by omega
      have hi0 : 0 ≤ (i : Int) := by omega
      obtain ⟨r, hr⟩ : ∃ r, l[i]? = some r := ⟨_, List.getElem?_eq_getElem hlt⟩
      obtain ⟨g, rfl, hg, hcl⟩ := unhide HCL (by omega)
      have q1 := (hcl i r hr).2.1
      obtain ⟨a1, k1, e1⟩ := unhide HTX i r hr
      rw [e1] at q1
      have ht := tot_take hr
      have hle := tot_take_le l (i + 1)
      have HT := hide ht
      obtain ⟨u, hu⟩ : ∃ u, u = tot (l.take i) := ⟨_, rfl⟩
      rw [← hu] at ht ⊢
      have hul : u + r.txt.length ≤ 67108864 := by omega
      have HU := hide hu
      clear hcl HCL e1 hr ht hle hu
      generalize r.txt.length = n at *
      go_wp2
      exact ⟨⟨i + 1, by omega, by go_num, by rw [unhide HT, ← unhide HU]; go_num⟩, by simp [intOf]; omega⟩
    · have hltz : ¬ (i : Int) < (l.length : Int) := by omega
      obtain rfl : i = l.length := by omega
      rw [List.take_length]
      go_wp2
      go_ret
      exact ⟨rfl, rfl⟩
/-- while the bytes are put behind the run r -/
structure Dp (w wr : World) (F : Nat → Prop) (sb : Nat) (m : Sto) (rv : Value) (sl : Nat → Value) (r : Run) (u : Value) (xs : List UInt8) : Prop where
  sto : wr.heap[sb]? = some (.cells (stoD m rv) 84 (0, 0))
  row : wr.ownsRow 0 131 3 rv m.runs.length (rowD sl m.runs)
  txt : ∀ x ∈ m.runs, x.num ≠ r.num → wr.ownsRow 0 5 1 (sl x.num) x.txt.length (x.txt.map encB)
  own : wr.ownsRow 0 5 1 u xs.length (xs.map encB)
  inF : ∀ g, u.ownBlock = some g → F g ∨ w.heap.size ≤ g
  apart : ∀ g, u.ownBlock = some g → ∀ x ∈ m.runs, x.num ≠ r.num → (sl x.num).ownBlock ≠ some g
  chg : Chg F w wr
section
variable {w wr : World} {F : Nat → Prop} {sb : Nat} {m : Sto} {rv : Value} {sl : Nat → Value} {r : Run} {u : Value} {xs : List UInt8}
theorem Dp.start {w1 : World} (h : DIn w1 sb m F rv sl) (hc : Chg F w w1) (hr : r ∈ m.runs) : Dp w w1 F sb m rv sl r (sl r.num) r.txt :=
  ⟨h.sto, h.row, fun x hx _ => h.txt x hx, h.txt r hr, fun g hg => .inl (h.txF r hr g hg), fun g hg x hx hn => h.apart r hr x hx (fun e => hn e.symm) g hg, hc⟩
theorem Dp.push (h : Dp w wr F sb m rv sl r u xs) {o : Obj} {w2 : World} {v' : Value} {c : UInt8} (hg : (wr.alloc o).grownBy w2 u.ownBlock) (ho : w2.ownsRow 0 5 1 v' (xs.length + 1) (xs.map encB ++ [.int .u8 (c.toNat : Int)])) (hat : v'.ownBlock = u.ownBlock ∨ v'.ownBlock = some (wr.alloc o).heap.size) : Dp w w2 F sb m rv sl r v' (xs ++ [c]) := by
  have keep : ∀ b, b < wr.heap.size → u.ownBlock ≠ some b → w2.heap[b]? = wr.heap[b]? := fun b hb hn => by
    rw [hg.block b (by simp; omega) (fun e => hn e.symm), Below.heap_alloc _ _ _ hb]
  have hsb := (Array.getElem?_eq_some_iff.1 h.sto).1
  refine ⟨?_, ?_, fun x hx hn => ?_, ?_, fun g hg' => ?_, fun g hg' x hx hn e => ?_, ?_⟩
  · rw [keep sb hsb (fun e => kind_ne h.sto (by decide) h.own sb e rfl)]; exact h.sto
  · refine own_kept h.row fun g hg' => keep g (h.row.lt g hg').2 fun e => ?_
    obtain ⟨c1, z1, q1⟩ := Lib.ownsRow_kind h.row g hg'
    obtain ⟨c2, z2, q2⟩ := Lib.ownsRow_kind h.own g e
    rw [q1] at q2
    injection q2 with q2
    injection q2 with _ q2 _
    exact absurd q2 (by decide)
  · exact own_kept (h.txt x hx hn) fun g hg' => keep g ((h.txt x hx hn).lt g hg').2 fun e => h.apart g e x hx hn hg'
  · rw [List.length_append, List.map_append]; exact ho
  · rcases hat with e | e
    · rw [e] at hg'; exact h.inF g hg'
    · rw [e] at hg'
      injection hg' with hg'
      have := h.chg.size
      simp at hg'
      exact .inr (by omega)
  · rcases hat with e2 | e2
    · rw [e2] at hg'; exact h.apart g hg' x hx hn e
    · rw [e2] at hg'
      injection hg' with hg'
      have := ((h.txt x hx hn).lt g e).2
      simp at hg'
      omega
  · refine (h.chg.alloc o).grown hg fun k hk => ?_
    exact h.inF k hk
theorem rowD_txt {l : List Run} (hs : l.Pairwise fun a b => a.num < b.num) {i : Nat} (hi : l[i]? = some r) : (rowD sl l).set (i * 3 + 1) u = rowD (upd sl r.num u) (l.set i { r with txt := xs }) := by
  induction l generalizing i with
  | nil => simp at hi
  | cons x t ih =>
    obtain ⟨h1, h2⟩ := List.pairwise_cons.1 hs
    rcases i with _ | i
    · have : x = r := by simpa using hi
      subst this
      have e : rowD (upd sl x.num u) t = rowD sl t := by
        unfold rowD
        have : ∀ y ∈ t, upd sl x.num u y.num = sl y.num := fun y hy => upd_ne _ _ (by have := h1 y hy; omega)
        clear h1 h2 ih hs hi
        induction t with
        | nil => rfl
        | cons y s ih => rw [List.flatMap_cons, List.flatMap_cons, ih fun z hz => this z (List.mem_cons_of_mem _ hz), this y (List.mem_cons_self ..)]
      rw [rowD_cons, List.set_cons_zero, rowD_cons]
      simp only [Nat.zero_mul, Nat.zero_add, List.set_cons_succ, List.set_cons_zero]
      rw [e, upd_same]
    · have hi' : t[i]? = some r := by simpa using hi
      have := ih h2 hi'
      have hn : upd sl r.num u x.num = sl x.num := upd_ne _ _ (by have := h1 r (List.mem_of_getElem? hi'); omega)
      rw [show (i + 1) * 3 + 1 = i * 3 + 1 + 1 + 1 + 1 by omega, rowD_cons]
      simp [rowD_cons, this, hn]
/-- the text was laid into its row -/
theorem Dp.laid {g n c : Nat} (h : Dp w wr F sb m (.slice (some ⟨g, 0, none⟩) n c) sl r u xs) (hs : m.runs.Pairwise fun a b => a.num < b.num) {i : Nat} (hi : m.runs[i]? = some r) :
    (wr.setCell ⟨g, i * 3 + 1, none⟩ u).heap[sb]? = some (.cells (stoD m (.slice (some ⟨g, 0, none⟩) n c)) 84 (0, 0)) ∧
    (wr.setCell ⟨g, i * 3 + 1, none⟩ u).ownsRow 0 131 3 (.slice (some ⟨g, 0, none⟩) n c) (repl m.runs { r with txt := xs }).length (rowD (upd sl r.num u) (repl m.runs { r with txt := xs })) ∧
    (∀ x ∈ repl m.runs { r with txt := xs }, (wr.setCell ⟨g, i * 3 + 1, none⟩ u).ownsRow 0 5 1 (upd sl r.num u x.num) x.txt.length (x.txt.map encB)) := by
  have e2 : repl m.runs { r with txt := xs } = m.runs.set i { r with txt := xs } := repl_set hs hi rfl
  obtain rfl : n = m.runs.length := by
    obtain ⟨_, _, e⟩ := own_slice h.row
    injection e
  obtain ⟨cur, z, hcur⟩ := Lib.ownsRow_kind h.row g rfl
  refine ⟨?_, ?_, fun x hx => ?_⟩
  · rw [Below.heap_setCell _ _ _ _ (fun e => kind_ne h.sto (by decide) h.row g rfl e.symm)]; exact h.sto
  · rw [e2, ← rowD_txt hs hi, List.length_set]
    exact (h.row.stored (i * 3 + 1) u).1
  · rcases repl_mem hx with ⟨rfl, _⟩ | ⟨hx, hn⟩
    · rw [show upd sl r.num u ({ r with txt := xs } : Run).num = u from upd_same _ _ _]
      exact own_kept h.own fun b hb => Below.heap_setCell _ _ _ _ (kind_ne hcur (by decide) h.own b hb)
    · rw [upd_ne _ _ hn]
      exact own_kept (h.txt x hx hn) fun b hb => Below.heap_setCell _ _ _ _ (kind_ne hcur (by decide) (h.txt x hx hn) b hb)
/-- and the store is whole again -/
theorem Dp.fin {g n c : Nat} (h : Dp w wr F sb m (.slice (some ⟨g, 0, none⟩) n c) sl r u xs) (hd : ∀ b, F b → b < w.heap.size) (hF : F sb) (hG : F g) (htx : ∀ x ∈ m.runs, ∀ g, (sl x.num).ownBlock = some g → F g) (hap : ∀ x ∈ m.runs, ∀ y ∈ m.runs, x.num ≠ y.num → ∀ g, (sl x.num).ownBlock = some g → (sl y.num).ownBlock ≠ some g) (hs : m.runs.Pairwise fun a b => a.num < b.num) {i : Nat} (hi : m.runs[i]? = some r)
    {m' : Sto} (hm : m'.runs = repl m.runs { r with txt := xs }) (ok : m'.Ok) {W : World} (hW : W.heap[sb]? = some (.cells (stoD m' (.slice (some ⟨g, 0, none⟩) n c)) 84 (0, 0))) (hk : ∀ b, b ≠ sb → W.heap[b]? = (wr.setCell ⟨g, i * 3 + 1, none⟩ u).heap[b]?) (hz : W.heap.size = wr.heap.size) (hc : Chg F w W) : DRes F w sb m' W := by
  obtain ⟨l1, l2, l3⟩ := h.laid hs hi
  have hlt : ∀ b, Up F w W b → b < W.heap.size := fun b hb => by
    rcases hb with hb | hb
    · exact Nat.lt_of_lt_of_le (hd b hb) hc.size
    · exact hb.2
  have hub : ∀ g', u.ownBlock = some g' → Up F w W g' := fun g' hg' => by
    have := (h.own.lt g' hg').2
    rcases h.inF g' hg' with x | x
    · exact .inl x
    · exact .inr ⟨x, by omega⟩
  refine ⟨⟨.slice (some ⟨g, 0, none⟩) n c, upd sl r.num u, ⟨ok, hlt, .inl hF, hW, ?_, fun g' hg' => ?_, fun x hx => ?_, fun x hx g' hg' => ?_, fun x hx y hy hn g' hg' hg2 => ?_⟩⟩, hc⟩
  · rw [hm]
    exact own_kept l2 fun b hb => hk b (kind_ne l1 (by decide) l2 b hb)
  · injection hg' with hg'
    exact .inl (hg' ▸ hG)
  · rw [hm] at hx
    exact own_kept (l3 x hx) fun b hb => hk b (kind_ne l1 (by decide) (l3 x hx) b hb)
  · rw [hm] at hx
    rcases repl_mem hx with ⟨rfl, _⟩ | ⟨hx, hn⟩
    · rw [show upd sl r.num u ({ r with txt := xs } : Run).num = u from upd_same _ _ _] at hg'
      exact hub g' hg'
    · rw [upd_ne _ _ hn] at hg'
      exact .inl (htx x hx g' hg')
  · rw [hm] at hx hy
    rcases repl_mem hx with ⟨rfl, _⟩ | ⟨hx, hxn⟩
    · rcases repl_mem hy with ⟨rfl, _⟩ | ⟨hy, hyn⟩
      · exact hn rfl
      · rw [show upd sl r.num u ({ r with txt := xs } : Run).num = u from upd_same _ _ _] at hg'
        rw [upd_ne _ _ hyn] at hg2
        exact h.apart g' hg' y hy hyn hg2
    · rcases repl_mem hy with ⟨rfl, _⟩ | ⟨hy, hyn⟩
      · rw [show upd sl r.num u ({ r with txt := xs } : Run).num = u from upd_same _ _ _] at hg2
        rw [upd_ne _ _ hxn] at hg'
        exact h.apart g' hg2 x hx hxn hg'
      · rw [upd_ne _ _ hxn] at hg'
        rw [upd_ne _ _ hyn] at hg2
        exact hap x hx y hy hn g' hg' hg2
end
end Rs
end Go.Proofs.YtdcffkahijpcbabDoor
