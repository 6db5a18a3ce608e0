/- Layer 5: Break. -/
import Derived.Test.YtohfhkdhccpoaaaGreatDoorGb
import Derived.Test.YtohfhkdhccpoaaaGreatDoorGh
import Derived.Deep.RegionLaw
import Derived.Deep.RegionHeld3
namespace Go.Proofs.YtohfhkdhccpoaaaGreatDoor
open Go.RowKit
namespace Rs
theorem break_nil (w : World) (n : Int) : Calls Tryz.prog 24 #[.pointer none, .int .i64 n] w fun e w' => e = .returned (.tuple #[]) ∧ w' = w := by
  go_enter Tryz.func24, Tryz.ntmps24
  go_wp2
  go_end0
  exact ⟨rfl, rfl⟩
def Sto.brk (m : Sto) (n : Int) : Sto := { m with ahead := n.toNat }
theorem brk_ok {m : Sto} (h : m.Ok) {n : Int} (hn : n ≤ 9223372036854775807) : (m.brk n).Ok := ⟨h.cap, h.made, h.used, h.peak, h.peakle, by simp only [Sto.brk]; omega, h.sorted, h.nums⟩
theorem break_any {w : World} {sb : Nat} {m : Sto} {F : Nat → Prop} (h : At w sb m F) (n : Int) (hn : n ≤ 9223372036854775807) : Calls Tryz.prog 24 #[.pointer (some ⟨sb, 0, none⟩), .int .i64 n] w fun e w' => e = .returned (.tuple #[]) ∧ Res F w sb (m.brk n) w' := by
  obtain ⟨mv, hs, _⟩ := h.map
  obtain ⟨_, _, _, _, _, c5, fz⟩ := cells_sto hs
  have HA : Hid (∀ x : Int, x = max n 0 → Res F w sb (m.brk n) (w.setCell ⟨sb, 5, none⟩ (.int .i64 x))) := fun x hx =>
    (h.set (m' := m.brk n) 5 (.int .i64 x) rfl (brk_ok h.ok hn) (fun mv => by
      have e : ((n.toNat : Nat) : Int) = x := by omega
      simp [stoC, Sto.brk, e])).res (h.chg 5 _)
  clear h hs
  go_enter Tryz.func24, Tryz.ntmps24
  go_wp2
  all_goals
    go_end0
    exact ⟨rfl, unhide HA _ (by omega)⟩
end Rs
end Go.Proofs.YtohfhkdhccpoaaaGreatDoor
/- The base of the texts on the document's store, in layer 6. -/
namespace Go.Proofs.YtohfhkdhccpoaaaGreatDoor
open Go.RowKit
namespace Rs
theorem own_base {W : World} {B B2 : Nat} {e : TypeId} {size n : Nat} {v : Value} {xs : List Value} (h : W.ownsRow B e size v n xs) (hB : B2 ≤ B) : W.ownsRow B2 e size v n xs := by
  obtain ⟨hl, h1 | ⟨g, cap, cur, e1, h1, r⟩⟩ := h
  · exact ⟨hl, .inl h1⟩
  · exact ⟨hl, .inr ⟨g, cap, cur, e1, Nat.le_trans hB h1, r⟩⟩
theorem Res.preD {F : Nat → Prop} {W3 W4 w4 : World} {sb : Nat} {m : Sto} (hb : Below W3.heap.size W3 W4) (h : Res F W4 sb m w4) (hlt : ∀ b, F b → b < W3.heap.size) : Res F W3 sb m w4 :=
  ⟨h.1.kept (fun _ _ => rfl) (fun b hu => hu.imp id fun x => ⟨Nat.le_trans hb.size x.1, x.2⟩) (fun b hu => by
    rcases hu with hu | hu
    · have := hlt b hu; have := hb.size; have := h.2.size; omega
    · exact hu.2), ⟨h.2.os.trans hb.os, h.2.tape.trans hb.tape, h.2.output.trans hb.output, Nat.le_trans hb.size h.2.size, fun k hk hn => (h.2.block k (Nat.lt_of_lt_of_le hk hb.size) hn).trans (hb.block k hk)⟩⟩
theorem step_appD {P : Program} {ops : Array Oper} {o : Oper} {a : Act} {w : World} {K : Act → World → Prop} {Q : Exit → Act → World → Prop} {E : Prop}
    (hg : o.guard = none) (s x : Operand) (t : TypeId) (hop : o.op = Op.call { callee := Callee.builtin Builtin.append, args := #[s, x], argTypes := #[t, t] })
    (v u v' : Value) (w' : World) (hs : a.eval s = v) (hx : a.eval x = u) (hrun : (Builtin.append_ #[t, t] o.type #[v, u]).run P w = .ok v' w') (hK : K (a.put o.dst v') w') :
    if Region.wanted o (yielded ops a.tmps) = true then Oper.wp P o a w K Q else E := by
  have hw : Region.wanted o (yielded ops a.tmps) = true := by simp [Region.wanted, hg]
  rw [if_pos hw]
  unfold Oper.wp
  simp [execOp, hop, resolve, invoke, builtin, hs, hx, hrun, Result.andThen]
  exact hK
end Rs
end Go.Proofs.YtohfhkdhccpoaaaGreatDoor
/- Layer 5: the document's store; New, refused, Break. -/
namespace Go.Proofs.YtohfhkdhccpoaaaGreatDoor
open Go.RowKit
namespace Rs
def stoD (m : Sto) (rv : Value) : Array Value := #[.int .i64 m.cap, .int .i64 m.peak, .int .i64 m.made, .int .i64 m.ahead, rv]
def rowD (sl : Nat → Value) (l : List Run) : List Value := l.flatMap fun r => [.int .i64 r.num, sl r.num, .bool r.shut]
/-- the document's store m at block sb, in the blocks F -/
structure DIn (w : World) (sb : Nat) (m : Sto) (F : Nat → Prop) (rv : Value) (sl : Nat → Value) : Prop where
  ok : m.Ok
  lt : ∀ b, F b → b < w.heap.size
  own : F sb
  sto : w.heap[sb]? = some (.cells (stoD m rv) 72 (0, 0))
  row : w.ownsRow 0 79 3 rv m.runs.length (rowD sl m.runs)
  rowF : ∀ g, rv.ownBlock = some g → F g
  txt : ∀ r ∈ m.runs, w.ownsRow 0 5 1 (sl r.num) r.txt.length (r.txt.map encB)
  txF : ∀ r ∈ m.runs, ∀ g, (sl r.num).ownBlock = some g → F g
  apart : ∀ r ∈ m.runs, ∀ r' ∈ m.runs, r.num ≠ r'.num → ∀ g, (sl r.num).ownBlock = some g → (sl r'.num).ownBlock ≠ some g
theorem DIn.kept {w w' : World} {sb : Nat} {m : Sto} {F G : Nat → Prop} {rv : Value} {sl : Nat → Value} (h : DIn w sb m F rv sl) (hb : ∀ b, F b → w'.heap[b]? = w.heap[b]?) (hG : ∀ b, F b → G b) (hl : ∀ b, G b → b < w'.heap.size) : DIn w' sb m G rv sl :=
  ⟨h.ok, hl, hG _ h.own, (hb _ h.own).trans h.sto, own_kept h.row fun g hg => hb g (h.rowF g hg), fun g hg => hG g (h.rowF g hg), fun r hr => own_kept (h.txt r hr) fun g hg => hb g (h.txF r hr g hg), fun r hr g hg => hG g (h.txF r hr g hg), h.apart⟩
theorem DIn.below {w w' : World} {sb : Nat} {m : Sto} {F : Nat → Prop} {rv : Value} {sl : Nat → Value} (h : DIn w sb m F rv sl) (hb : Below w.heap.size w w') : DIn w' sb m F rv sl :=
  h.kept (fun b hF => hb.block b (h.lt b hF)) (fun _ x => x) fun b hF => Nat.lt_of_lt_of_le (h.lt b hF) hb.size
theorem dcells {w : World} {sb : Nat} {m : Sto} {rv : Value} (h : w.heap[sb]? = some (.cells (stoD m rv) 72 (0, 0))) :
    w.cell? ⟨sb, 0, none⟩ = some (.int .i64 m.cap) ∧ w.cell? ⟨sb, 1, none⟩ = some (.int .i64 m.peak) ∧ w.cell? ⟨sb, 2, none⟩ = some (.int .i64 m.made) ∧ w.cell? ⟨sb, 3, none⟩ = some (.int .i64 m.ahead) ∧ w.cell? ⟨sb, 4, none⟩ = some rv ∧ ∀ k, w.frozen? ⟨sb, k, none⟩ = false := by
  refine ⟨?_, ?_, ?_, ?_, ?_, fun k => ?_⟩ <;> simp [World.cell?, World.frozen?, h, stoD]
/-- a cell of the store itself, not of its rows, was set -/
theorem DIn.set {w : World} {sb : Nat} {m m' : Sto} {F : Nat → Prop} {rv : Value} {sl : Nat → Value} (h : DIn w sb m F rv sl) (k : Nat) (v : Value) (hr : m'.runs = m.runs) (ok : m'.Ok) (hc : (stoD m rv).setIfInBounds k v = stoD m' rv) : DIn (w.setCell ⟨sb, k, none⟩ v) sb m' F rv sl := by
  have ne : ∀ {e : TypeId} {size n : Nat} {u : Value} {xs : List Value}, e ≠ 72 → w.ownsRow 0 e size u n xs → ∀ g, u.ownBlock = some g → g ≠ sb := fun {e size n u xs} he ho g hg eq => by
    rcases ho.2 with ⟨e1, _⟩ | ⟨g', cap, cur, e1, _, hx, _⟩
    · rw [e1] at hg; cases hg
    · rw [e1] at hg
      have hg' : g' = g := by injection hg
      rw [hg', eq, h.sto] at hx
      injection hx with hx
      injection hx with _ hx _
      exact he hx.symm
  refine ⟨ok, fun b hb => by simpa using h.lt b hb, h.own, by rw [set_heap1 h.sto, hc], by rw [hr]; exact own_kept h.row fun g hg => Below.heap_setCell _ _ _ _ (ne (by decide) h.row g hg), h.rowF, fun r hx => ?_, fun r hx => h.txF r (by rw [← hr]; exact hx), fun r hx r' hx' => h.apart r (by rw [← hr]; exact hx) r' (by rw [← hr]; exact hx')⟩
  have hx' : r ∈ m.runs := by rw [← hr]; exact hx
  exact own_kept (h.txt r hx') fun g hg => Below.heap_setCell _ _ _ _ (ne (by decide) (h.txt r hx') g hg)
theorem dnew_any (c : Int) (w : World) (h1 : -9223372036854775808 ≤ c) (h2 : c ≤ 9223372036854775807) :
    Calls Tryz.prog 10 #[.int .i64 c] w fun e w' => e = .returned (.pointer (some ⟨w.heap.size, 0, none⟩)) ∧ DIn w' w.heap.size (newS c) (fun b => b = w.heap.size) (.slice none 0 0) (fun _ => .slice none 0 0) ∧ Below w.heap.size w w' ∧ w'.heap.size = w.heap.size + 1 := by
  have HD : Hid (∀ k : Int, k = ((newS c).cap : Int) → DIn (w.alloc (.cells #[.int .i64 k, .int .i64 0, .int .i64 0, .int .i64 0, .slice none 0 0] 72)) w.heap.size (newS c) (fun b => b = w.heap.size) (.slice none 0 0) (fun _ => .slice none 0 0) ∧ Below w.heap.size w (w.alloc (.cells #[.int .i64 k, .int .i64 0, .int .i64 0, .int .i64 0, .slice none 0 0] 72)) ∧ (w.alloc (.cells #[.int .i64 k, .int .i64 0, .int .i64 0, .int .i64 0, .slice none 0 0] 72)).heap.size = w.heap.size + 1) := fun k hk => by
    subst hk
    refine ⟨⟨newS_ok c, fun b hb => by rw [hb]; simp, rfl, (MapKept.heap_alloc w _).1, World.ownsRow_nil _ _ _ _, fun g hg => (by cases hg), fun r hr => (by simp [newS] at hr), fun r hr => (by simp [newS] at hr), fun r hr => (by simp [newS] at hr)⟩, (Below.refl _ w).alloc (Nat.le_refl _) _, by simp⟩
  have e : ((newS c).cap : Int) = min (max c 0) 67108864 := by simp only [newS]; omega
  rw [e] at HD
  clear e
  by_cases hl : c < 0
  · go_enter Tryz.func10, Tryz.ntmps10
    go_wp2
    go_ret
    exact ⟨rfl, unhide HD 0 (by omega)⟩
  · by_cases hh : 67108864 < c
    · go_enter Tryz.func10, Tryz.ntmps10
      go_wp2
      go_ret
      exact ⟨rfl, unhide HD 67108864 (by omega)⟩
    · go_enter Tryz.func10, Tryz.ntmps10
      go_wp2
      go_ret
      exact ⟨rfl, unhide HD c (by omega)⟩
set_option maxRecDepth 100000 in
theorem refused_any {w : World} {sb : Nat} {m : Sto} {F : Nat → Prop} {rv : Value} {sl : Nat → Value} (h : DIn w sb m F rv sl) :
    Calls Tryz.prog 71 #[.pointer (some ⟨sb, 0, none⟩)] w fun e w' => e = .returned (.bool (decide (m.ahead = 1))) ∧ DIn w' sb m.tick F rv sl ∧ Chg F w w' ∧ w'.heap.size = w.heap.size := by
  obtain ⟨c0, c1, c2, c3, c4, fz⟩ := dcells h.sto
  by_cases h0 : m.ahead = 0
  · have HH : Hid (DIn w sb m.tick F rv sl) := by rw [tick_zero h0]; exact h
    rw [h0] at c3
    have e0 : decide (m.ahead = 1) = false := by simp [h0]
    rw [e0]
    clear h e0
    go_enter Tryz.func71, Tryz.ntmps71
    go_wp2
    go_ret
    exact ⟨rfl, unhide HH, Chg.refl _ _, rfl⟩
  · obtain ⟨a, ha⟩ : ∃ a : Nat, m.ahead = a + 1 := ⟨m.ahead - 1, by omega⟩
    have HH : Hid (DIn (w.setCell ⟨sb, 3, none⟩ (.int .i64 (a : Int))) sb m.tick F rv sl ∧ Chg F w (w.setCell ⟨sb, 3, none⟩ (.int .i64 (a : Int))) ∧ (w.setCell ⟨sb, 3, none⟩ (.int .i64 (a : Int))).heap.size = w.heap.size) := ⟨h.set (m' := m.tick) 3 _ rfl h.ok.tick (by simp [stoD, Sto.tick, ha]), (Chg.refl F w).setCell (.inl h.own) _, by simp⟩
    have hal : a ≤ 9223372036854775806 := by have := h.ok.ahead; omega
    rw [ha] at c3
    have e3 : w.cell? ⟨sb, 3, none⟩ = some (.int .i64 ((a : Int) + 1)) := by rw [c3]; simp
    have e0 : decide (m.ahead = 1) = ((a : Int) == 0) := by
      rw [ha]
      by_cases hz : a = 0
      · subst hz; rfl
      · have : ((a : Int) == 0) = false := by simp; omega
        rw [this]; simp; omega
    rw [e0]
    have hp : ¬ (a : Int) + 1 < 1 := by omega
    clear h e0 c3 ha h0
    go_enter Tryz.func71, Tryz.ntmps71
    go_wp2
    all_goals
      go_ret
      exact ⟨by simp_all, unhide HH⟩
end Rs
end Go.Proofs.YtohfhkdhccpoaaaGreatDoor
/- Layer 5: the document's place. -/
namespace Go.Proofs.YtohfhkdhccpoaaaGreatDoor
open Go.RowKit
namespace Rs
theorem rowD_cons (sl : Nat → Value) (r : Run) (l : List Run) : rowD sl (r :: l) = .int .i64 r.num :: sl r.num :: .bool r.shut :: rowD sl l := rfl
theorem rowD_get {sl : Nat → Value} {l : List Run} {j : Nat} {r : Run} (h : l[j]? = some r) : (rowD sl l)[j * 3]? = some (.int .i64 r.num) ∧ (rowD sl l)[j * 3 + 1]? = some (sl r.num) ∧ (rowD sl l)[j * 3 + 2]? = some (.bool r.shut) := by
  induction l generalizing j with
  | nil => simp at h
  | cons x t ih =>
    rw [rowD_cons]
    rcases j with _ | j
    · have : x = r := by simpa using h
      subst this
      exact ⟨rfl, rfl, rfl⟩
    · have := ih (j := j) (by simpa using h)
      rw [show (j + 1) * 3 = j * 3 + 1 + 1 + 1 by omega]
      simpa using this
/-- the rows as the walk reads them -/
theorem DIn.at {w : World} {sb : Nat} {m : Sto} {F : Nat → Prop} {rv : Value} {sl : Nat → Value} (h : DIn w sb m F rv sl) : ∃ ao c, rv = .slice ao m.runs.length c ∧ (0 < m.runs.length → ∃ g, ao = some ⟨g, 0, none⟩ ∧ g < w.heap.size ∧ F g ∧ ∀ (j : Nat) r, m.runs[j]? = some r → w.cell? ⟨g, j * 3, none⟩ = some (.int .i64 r.num) ∧ w.cell? ⟨g, j * 3 + 1, none⟩ = some (sl r.num) ∧ w.cell? ⟨g, j * 3 + 2, none⟩ = some (.bool r.shut)) := by
  have ho := h.row
  rcases id ho.2 with ⟨e, e0⟩ | ⟨g, cap, cur, e, _, hx, _⟩
  · exact ⟨none, 0, by rw [e, e0], fun h0 => by omega⟩
  · subst e
    refine ⟨_, _, rfl, fun _ => ⟨g, rfl, (Array.getElem?_eq_some_iff.1 hx).1, h.rowF g rfl, fun j r hj => ?_⟩⟩
    have hjl := (List.getElem?_eq_some_iff.1 hj).1
    obtain ⟨a1, a2, a3⟩ := rowD_get (sl := sl) hj
    exact ⟨by rw [ho.cellAt (j * 3) (by omega)]; exact a1, by rw [ho.cellAt (j * 3 + 1) (by omega)]; exact a2, by rw [ho.cellAt (j * 3 + 2) (by omega)]; exact a3⟩
structure Cut (l : List Run) (k : Int) (lo hi : Nat) : Prop where
  le : lo ≤ hi
  hn : hi ≤ l.length
  low : ∀ (j : Nat) r, j < lo → l[j]? = some r → (r.num : Int) < k
  high : ∀ (j : Nat) r, hi ≤ j → l[j]? = some r → k ≤ (r.num : Int)
theorem sorted_get {l : List Run} (hs : l.Pairwise fun a b => a.num < b.num) {i j : Nat} {r s : Run} (hi : l[i]? = some r) (hj : l[j]? = some s) (h : i < j) : r.num < s.num := by
  obtain ⟨a, ea⟩ := List.getElem?_eq_some_iff.1 hi
  obtain ⟨b, eb⟩ := List.getElem?_eq_some_iff.1 hj
  have := List.pairwise_iff_getElem.1 hs i j a b h
  rw [ea, eb] at this
  exact this
theorem Cut.up {l : List Run} {k : Int} {lo hi mid : Nat} {r : Run} (h : Cut l k lo hi) (hs : l.Pairwise fun a b => a.num < b.num) (hm : lo ≤ mid) (hh : mid < hi) (hr : l[mid]? = some r) (hl : (r.num : Int) < k) : Cut l k (mid + 1) hi := by
  refine ⟨hh, h.hn, fun j s hj hs' => ?_, h.high⟩
  rcases Nat.lt_or_ge j mid with x | x
  · have := sorted_get hs hs' hr x; omega
  · obtain rfl : j = mid := by omega
    rw [hr] at hs'; injection hs' with e; rw [← e]; exact hl
theorem Cut.down {l : List Run} {k : Int} {lo hi mid : Nat} {r : Run} (h : Cut l k lo hi) (hs : l.Pairwise fun a b => a.num < b.num) (hm : lo ≤ mid) (hh : mid < hi) (hr : l[mid]? = some r) (hl : ¬ (r.num : Int) < k) : Cut l k lo mid := by
  refine ⟨hm, by have := h.hn; omega, h.low, fun j s hj hs' => ?_⟩
  rcases Nat.lt_or_ge mid j with x | x
  · have := sorted_get hs hr hs' x; omega
  · obtain rfl : j = mid := by omega
    rw [hr] at hs'; injection hs' with e; rw [← e]; omega
set_option maxRecDepth 100000 in
set_option maxHeartbeats 1000000 in
theorem place_some {w : World} {sb : Nat} {m : Sto} {F : Nat → Prop} {rv : Value} {sl : Nat → Value} {i : Nat} {r : Run} (h : DIn w sb m F rv sl) (hr : m.runs[i]? = some r) :
    Calls Tryz.prog 62 #[.pointer (some ⟨sb, 0, none⟩), .int .i64 r.num] w fun e w' => e = .returned (.int .i64 i) ∧ w' = w := by
  obtain ⟨c0, c1, c2, c3, c4, fz⟩ := dcells h.sto
  obtain ⟨ao, cc, rfl, hat⟩ := h.at
  have hil := (List.getElem?_eq_some_iff.1 hr).1
  obtain ⟨g, rfl, hg, hF, hcl⟩ := hat (by omega)
  have HSO := hide h.ok.sorted
  have HCL := hide hcl
  have HR := hide hr
  have hbl : m.runs.length ≤ 16777216 := by have := h.ok.len; have := h.ok.made; omega
  have HC0 : Hid (Cut m.runs r.num 0 m.runs.length) := ⟨Nat.zero_le _, Nat.le_refl _, fun j r hj => by omega, fun j s hj hs => by rw [List.getElem?_eq_none hj] at hs; cases hs⟩
  obtain ⟨kk, hkk⟩ : ∃ kk : Int, kk = (r.num : Int) := ⟨_, rfl⟩
  rw [← hkk] at HC0 ⊢
  have HKK := hide hkk
  clear h hat hcl hr hkk
  generalize m.runs = l at *
  go_enter Tryz.func62, Tryz.ntmps62
  go_wp2
  go_loop [5, 6] (fun s5 s6 => ∃ lo hi : Nat, s5 = .int .i64 lo ∧ s6 = .int .i64 hi ∧ Hid (Cut l kk lo hi)) (fun s5 s6 => (intOf s6 - intOf s5).toNat)
  case atStart => exact ⟨0, l.length, rfl, rfl, HC0⟩
  case round =>
    obtain ⟨lo, hi, rfl, rfl, HC⟩ := hrel
    have hle := (unhide HC).le
    have hhn := (unhide HC).hn
    by_cases hlt : lo < hi
    · have hltz : (lo : Int) < (hi : Int) := by omega
      obtain ⟨d, hd⟩ : ∃ d : Nat, d = (hi - lo) / 2 := ⟨_, rfl⟩
      have hd1 : ((hi : Int) - (lo : Int)).tdiv 2 = (d : Int) := by
        rw [show (hi : Int) - (lo : Int) = ((hi - lo : Nat) : Int) by omega, hd]
        rfl
      have hm2 : lo + d < hi := by omega
      have hm3 : (lo : Int) + (d : Int) < (l.length : Int) := by omega
      have hm0 : 0 ≤ (lo : Int) + (d : Int) := by omega
      obtain ⟨x, hx⟩ : ∃ x, l[lo + d]? = some x := ⟨_, List.getElem?_eq_getElem (by omega)⟩
      have q0 := (unhide HCL (lo + d) x hx).1
      by_cases hc : (x.num : Int) < kk
      · have HC2 := hide ((unhide HC).up (unhide HSO) (Nat.le_add_right _ _) hm2 hx hc)
        clear hd hx
        go_wp2
        exact ⟨⟨lo + d + 1, hi, by go_num, rfl, HC2⟩, by simp [intOf]; omega⟩
      · have HC2 := hide ((unhide HC).down (unhide HSO) (Nat.le_add_right _ _) hm2 hx hc)
        clear hd hx
        go_wp2
        exact ⟨⟨lo, lo + d, rfl, by go_num, HC2⟩, by simp [intOf]; omega⟩
    · have hltz : ¬ (lo : Int) < (hi : Int) := by omega
      obtain rfl : lo = hi := by omega
      have hli : lo = i := by
        have h1 := (unhide HC).low
        have h2 := (unhide HC).high
        rcases Nat.lt_trichotomy lo i with x | x | x
        · obtain ⟨y, hy⟩ : ∃ y, l[lo]? = some y := ⟨_, List.getElem?_eq_getElem (by omega)⟩
          have := h2 lo y (Nat.le_refl _) hy
          have := sorted_get (unhide HSO) hy (unhide HR) x
          have := unhide HKK
          omega
        · exact x
        · have := h1 i r x (unhide HR)
          have := unhide HKK
          omega
      subst hli
      have q0 := (unhide HCL lo r (unhide HR)).1
      rw [← unhide HKK] at q0
      have hlz : (lo : Int) < (l.length : Int) := by omega
      have hl0 : 0 ≤ (lo : Int) := by omega
      go_wp2
      go_ret
      exact ⟨rfl, rfl⟩
set_option maxRecDepth 100000 in
set_option maxHeartbeats 1000000 in
theorem place_none {w : World} {sb : Nat} {m : Sto} {F : Nat → Prop} {rv : Value} {sl : Nat → Value} {kk : Int} (h : DIn w sb m F rv sl) (hr : look m.runs kk = none) :
    Calls Tryz.prog 62 #[.pointer (some ⟨sb, 0, none⟩), .int .i64 kk] w fun e w' => e = .returned (.int .i64 (-1)) ∧ w' = w := by
  obtain ⟨c0, c1, c2, c3, c4, fz⟩ := dcells h.sto
  obtain ⟨ao, cc, rfl, hat⟩ := h.at
  have HSO := hide h.ok.sorted
  have HCL := hide hat
  have HR := hide (look_none hr)
  have hbl : m.runs.length ≤ 16777216 := by have := h.ok.len; have := h.ok.made; omega
  have HC0 : Hid (Cut m.runs kk 0 m.runs.length) := ⟨Nat.zero_le _, Nat.le_refl _, fun j r hj => by omega, fun j s hj hs => by rw [List.getElem?_eq_none hj] at hs; cases hs⟩
  clear h hat hr
  generalize m.runs = l at *
  go_enter Tryz.func62, Tryz.ntmps62
  go_wp2
  go_loop [5, 6] (fun s5 s6 => ∃ lo hi : Nat, s5 = .int .i64 lo ∧ s6 = .int .i64 hi ∧ Hid (Cut l kk lo hi)) (fun s5 s6 => (intOf s6 - intOf s5).toNat)
  case atStart => exact ⟨0, l.length, rfl, rfl, HC0⟩
  case round =>
    obtain ⟨lo, hi, rfl, rfl, HC⟩ := hrel
    have hle := (unhide HC).le
    have hhn := (unhide HC).hn
    by_cases hlt : lo < hi
    · have hltz : (lo : Int) < (hi : Int) := by omega
      obtain ⟨d, hd⟩ : ∃ d : Nat, d = (hi - lo) / 2 := ⟨_, rfl⟩
      have hd1 : ((hi : Int) - (lo : Int)).tdiv 2 = (d : Int) := by
        rw [show (hi : Int) - (lo : Int) = ((hi - lo : Nat) : Int) by omega, hd]
        rfl
      have hm2 : lo + d < hi := by omega
      have hm3 : (lo : Int) + (d : Int) < (l.length : Int) := by omega
      have hm0 : 0 ≤ (lo : Int) + (d : Int) := by omega
      obtain ⟨x, hx⟩ : ∃ x, l[lo + d]? = some x := ⟨_, List.getElem?_eq_getElem (by omega)⟩
      obtain ⟨g, rfl, hg, hF, hcl⟩ := unhide HCL (by omega)
      have q0 := (hcl (lo + d) x hx).1
      clear hcl HCL
      by_cases hc : (x.num : Int) < kk
      · have HC2 := hide ((unhide HC).up (unhide HSO) (Nat.le_add_right _ _) hm2 hx hc)
        clear hd hx
        go_wp2
        exact ⟨⟨lo + d + 1, hi, by go_num, rfl, HC2⟩, by simp [intOf]; omega⟩
      · have HC2 := hide ((unhide HC).down (unhide HSO) (Nat.le_add_right _ _) hm2 hx hc)
        clear hd hx
        go_wp2
        exact ⟨⟨lo, lo + d, rfl, by go_num, HC2⟩, by simp [intOf]; omega⟩
    · have hltz : ¬ (lo : Int) < (hi : Int) := by omega
      obtain rfl : lo = hi := by omega
      by_cases hll : lo < l.length
      · obtain ⟨x, hx⟩ : ∃ x, l[lo]? = some x := ⟨_, List.getElem?_eq_getElem hll⟩
        obtain ⟨g, rfl, hg, hF, hcl⟩ := unhide HCL (by omega)
        have q0 := (hcl lo x hx).1
        have hlz : (lo : Int) < (l.length : Int) := by omega
        have hl0 : 0 ≤ (lo : Int) := by omega
        have hne : ¬ (x.num : Int) = kk := unhide HR x (List.mem_of_getElem? hx)
        have hnb : ((x.num : Int) == kk) = false := by simp [hne]
        clear hcl HCL
        go_wp2
        go_ret
        exact ⟨rfl, rfl⟩
      · have hlz : ¬ (lo : Int) < (l.length : Int) := by omega
        go_wp2
        go_ret
        exact ⟨rfl, rfl⟩
end Rs
end Go.Proofs.YtohfhkdhccpoaaaGreatDoor
/- Layer 5: the document's Used, Size, fit. -/
namespace Go.Proofs.YtohfhkdhccpoaaaGreatDoor
open Go.RowKit
namespace Rs
theorem look_at_i {l : List Run} {k : Int} {r : Run} (h : look l k = some r) : ∃ i : Nat, l[i]? = some r ∧ (r.num : Int) = k ∧ i < l.length := by
  obtain ⟨hm, hn⟩ := look_mem h
  obtain ⟨i, hi⟩ := List.mem_iff_getElem?.1 hm
  exact ⟨i, hi, hn, (List.getElem?_eq_some_iff.1 hi).1⟩
theorem txt_slice {w : World} {sb : Nat} {m : Sto} {F : Nat → Prop} {rv : Value} {sl : Nat → Value} (h : DIn w sb m F rv sl) {i : Nat} {r : Run} (hr : m.runs[i]? = some r) : ∃ a c, sl r.num = .slice a r.txt.length c := own_slice (h.txt r (List.mem_of_getElem? hr))
theorem tot_take {l : List Run} {i : Nat} {r : Run} (h : l[i]? = some r) : tot (l.take (i + 1)) = tot (l.take i) + r.txt.length := by
  have hi := (List.getElem?_eq_some_iff.1 h).1
  rw [List.take_succ_eq_append_getElem hi, (List.getElem?_eq_some_iff.1 h).2, tot_app]
  simp [tot]
theorem tot_take_le (l : List Run) (i : Nat) : tot (l.take i) ≤ tot l := by
  have := tot_app (l.take i) (l.drop i)
  rw [List.take_append_drop] at this
  omega
set_option maxRecDepth 100000 in
set_option maxHeartbeats 1000000 in
theorem used_doc {w : World} {sb : Nat} {m : Sto} {F : Nat → Prop} {rv : Value} {sl : Nat → Value} (h : DIn w sb m F rv sl) :
    Calls Tryz.prog 34 #[.pointer (some ⟨sb, 0, none⟩)] w fun e w' => e = .returned (.int .i64 (tot m.runs)) ∧ w' = w := by
  obtain ⟨c0, c1, c2, c3, c4, fz⟩ := dcells h.sto
  have HTX : Hid (∀ (i : Nat) (r : Run), m.runs[i]? = some r → ∃ a c, sl r.num = .slice a r.txt.length c) := fun i r hr => txt_slice h hr
  obtain ⟨ao, cc, rfl, hat⟩ := h.at
  have HCL := hide hat
  have hbl : m.runs.length ≤ 16777216 := by have := h.ok.len; have := h.ok.made; omega
  have htl : tot m.runs ≤ 67108864 := by have := h.ok.used; have := h.ok.cap; omega
  clear h hat
  generalize m.runs = l at *
  go_enter Tryz.func34, Tryz.ntmps34
  go_wp2
  go_loop [3, 4] (fun s3 s4 => ∃ i : Nat, i ≤ l.length ∧ s4 = .int .i64 i ∧ s3 = .int .i64 (tot (l.take i))) (fun _ s4 => l.length - (intOf s4).toNat)
  case atStart => exact ⟨0, Nat.zero_le _, rfl, rfl⟩
  case round =>
    obtain ⟨i, hi, rfl, rfl⟩ := hrel
    by_cases hlt : i < l.length
    · have hltz : (i : Int) < (l.length : Int) := by omega
      have hi0 : 0 ≤ (i : Int) := by omega
      obtain ⟨r, hr⟩ : ∃ r, l[i]? = some r := ⟨_, List.getElem?_eq_getElem hlt⟩
      obtain ⟨g, rfl, hg, hF, hcl⟩ := unhide HCL (by omega)
      have q1 := (hcl i r hr).2.1
      obtain ⟨a1, k1, e1⟩ := unhide HTX i r hr
      rw [e1] at q1
      have ht := tot_take hr
      have hle := tot_take_le l (i + 1)
      have HT := hide ht
      obtain ⟨u, hu⟩ : ∃ u, u = tot (l.take i) := ⟨_, rfl⟩
      rw [← hu] at ht ⊢
      have hul : u + r.txt.length ≤ 67108864 := by omega
      have HU := hide hu
      clear hcl HCL e1 hr ht hle hu
      generalize r.txt.length = n at *
      go_wp2
      exact ⟨⟨i + 1, by omega, by go_num, by rw [unhide HT, ← unhide HU]; go_num⟩, by simp [intOf]; omega⟩
    · have hltz : ¬ (i : Int) < (l.length : Int) := by omega
      obtain rfl : i = l.length := by omega
      rw [List.take_length]
      go_wp2
      go_ret
      exact ⟨rfl, rfl⟩
set_option maxRecDepth 100000 in
theorem size_doc {w : World} {sb : Nat} {m : Sto} {F : Nat → Prop} {rv : Value} {sl : Nat → Value} (h : DIn w sb m F rv sl) (k : Int) :
    Calls Tryz.prog 89 #[.pointer (some ⟨sb, 0, none⟩), .int .i64 k] w fun e w' => e = .returned (.tuple #[.int .i64 (siz m k).1, .int .i64 (siz m k).2]) ∧ w' = w := by
  obtain ⟨c0, c1, c2, c3, c4, fz⟩ := dcells h.sto
  rcases hl : look m.runs k with _ | r
  · have HP := hide (place_none h hl)
    have e : siz m k = (0, 3) := by unfold siz; rw [hl]
    rw [e]
    clear h e hl
    go_enter Tryz.func89, Tryz.ntmps89
    go_wp2_with (go_at_call 62; refine (unhide HP).mono ?_; rintro e w1 ⟨rfl, rfl⟩)
    go_ret2
    exact ⟨rfl, rfl⟩
  · obtain ⟨i, hi, hn, hil⟩ := look_at_i hl
    have HP := hide (place_some h hi)
    rw [hn] at HP
    have e : siz m k = ((r.txt.length : Int), 0) := by unfold siz; rw [hl]
    rw [e]
    obtain ⟨a1, k1, e1⟩ := txt_slice h hi
    obtain ⟨ao, cc, rfl, hat⟩ := h.at
    obtain ⟨g, rfl, hg, hF, hcl⟩ := hat (by omega)
    have q1 := (hcl i r hi).2.1
    rw [e1] at q1
    have hiz : (i : Int) < (m.runs.length : Int) := by omega
    have hi0 : 0 ≤ (i : Int) := by omega
    have hin : ¬ (i : Int) < 0 := by omega
    clear h e hl hat hcl hi hn e1
    go_enter Tryz.func89, Tryz.ntmps89
    go_wp2_with (go_at_call 62; refine (unhide HP).mono ?_; rintro e w1 ⟨rfl, rfl⟩)
    go_ret2
    exact ⟨rfl, rfl⟩
set_option maxRecDepth 100000 in
theorem fit_none {w : World} {sb : Nat} {m : Sto} {F : Nat → Prop} {rv : Value} {sl : Nat → Value} (h : DIn w sb m F rv sl) {k : Int} (hl : look m.runs k = none) :
    Calls Tryz.prog 74 #[.pointer (some ⟨sb, 0, none⟩), .int .i64 k] w fun e w' => e = .returned (.tuple #[.int .i64 0, .int .i64 3]) ∧ w' = w := by
  obtain ⟨c0, c1, c2, c3, c4, fz⟩ := dcells h.sto
  have HP := hide (place_none h hl)
  clear h hl
  go_enter Tryz.func74, Tryz.ntmps74
  go_wp2_with (go_at_call 62; refine (unhide HP).mono ?_; rintro e w1 ⟨rfl, rfl⟩)
  go_ret2
  exact ⟨rfl, rfl⟩
set_option maxRecDepth 100000 in
theorem fit_some {w : World} {sb : Nat} {m : Sto} {F : Nat → Prop} {rv : Value} {sl : Nat → Value} (h : DIn w sb m F rv sl) {i : Nat} {r : Run} (hi : m.runs[i]? = some r) :
    Calls Tryz.prog 74 #[.pointer (some ⟨sb, 0, none⟩), .int .i64 r.num] w fun e w' => e = .returned (if r.shut then .tuple #[.int .i64 0, .int .i64 4] else .tuple #[.int .i64 i, .int .i64 0]) ∧ w' = w := by
  obtain ⟨c0, c1, c2, c3, c4, fz⟩ := dcells h.sto
  have HP := hide (place_some h hi)
  have hil := (List.getElem?_eq_some_iff.1 hi).1
  obtain ⟨ao, cc, rfl, hat⟩ := h.at
  obtain ⟨g, rfl, hg, hF, hcl⟩ := hat (by omega)
  have q2 := (hcl i r hi).2.2
  have hiz : (i : Int) < (m.runs.length : Int) := by omega
  have hi0 : 0 ≤ (i : Int) := by omega
  have hin : ¬ (i : Int) < 0 := by omega
  clear h hat hcl hi
  cases hs : r.shut
  · rw [hs] at q2
    simp only [Bool.false_eq_true, if_false]
    go_enter Tryz.func74, Tryz.ntmps74
    go_wp2_with (go_at_call 62; refine (unhide HP).mono ?_; rintro e w1 ⟨rfl, rfl⟩)
    go_ret2
    exact ⟨rfl, rfl⟩
  · rw [hs] at q2
    simp only [if_true]
    go_enter Tryz.func74, Tryz.ntmps74
    go_wp2_with (go_at_call 62; refine (unhide HP).mono ?_; rintro e w1 ⟨rfl, rfl⟩)
    go_ret2
    exact ⟨rfl, rfl⟩
end Rs
end Go.Proofs.YtohfhkdhccpoaaaGreatDoor
/- Layer 5: the document's Break, Seal, Live. -/
namespace Go.Proofs.YtohfhkdhccpoaaaGreatDoor
open Go.RowKit
namespace Rs
theorem break_doc {w : World} {sb : Nat} {m : Sto} {F : Nat → Prop} {rv : Value} {sl : Nat → Value} (h : DIn w sb m F rv sl) (n : Int) (hn : n ≤ 9223372036854775807) :
    Calls Tryz.prog 25 #[.pointer (some ⟨sb, 0, none⟩), .int .i64 n] w fun e w' => e = .returned (.tuple #[]) ∧ DIn w' sb (m.brk n) F rv sl ∧ Chg F w w' ∧ w'.heap.size = w.heap.size := by
  obtain ⟨c0, c1, c2, c3, c4, fz⟩ := dcells h.sto
  have HA : Hid (∀ x : Int, x = max n 0 → DIn (w.setCell ⟨sb, 3, none⟩ (.int .i64 x)) sb (m.brk n) F rv sl ∧ Chg F w (w.setCell ⟨sb, 3, none⟩ (.int .i64 x)) ∧ (w.setCell ⟨sb, 3, none⟩ (.int .i64 x)).heap.size = w.heap.size) := fun x hx => by
    refine ⟨h.set (m' := m.brk n) 3 _ rfl (brk_ok h.ok hn) ?_, (Chg.refl F w).setCell (.inl h.own) _, by simp⟩
    have e : ((n.toNat : Nat) : Int) = x := by omega
    simp [stoD, Sto.brk, e]
  clear h hn
  by_cases hl : n < 0
  · go_enter Tryz.func25, Tryz.ntmps25
    go_wp2
    go_end0
    exact ⟨rfl, unhide HA 0 (by omega)⟩
  · go_enter Tryz.func25, Tryz.ntmps25
    go_wp2
    go_end0
    exact ⟨rfl, unhide HA n (by omega)⟩
theorem repl_set {l : List Run} (hs : l.Pairwise fun a b => a.num < b.num) {i : Nat} {r r' : Run} (hi : l[i]? = some r) (hn : r'.num = r.num) : repl l r' = l.set i r' := by
  apply List.ext_getElem?
  intro j
  rw [List.getElem?_set]
  unfold repl
  rw [List.getElem?_map]
  by_cases e : i = j
  · subst e
    rw [if_pos rfl, if_pos (List.getElem?_eq_some_iff.1 hi).1, hi, Option.map_some, if_pos hn.symm]
  · rw [if_neg e]
    rcases hj : l[j]? with _ | x
    · rfl
    · rw [Option.map_some, if_neg]
      intro ex
      rcases Nat.lt_or_gt_of_ne e with a | a
      · have := sorted_get hs hi hj a; omega
      · have := sorted_get hs hj hi a; omega
theorem rowD_shut {sl : Nat → Value} {l : List Run} {i : Nat} {r : Run} {b : Bool} (h : l[i]? = some r) : (rowD sl l).set (i * 3 + 2) (.bool b) = rowD sl (l.set i { r with shut := b }) := by
  induction l generalizing i with
  | nil => simp at h
  | cons x t ih =>
    rcases i with _ | i
    · have : x = r := by simpa using h
      subst this
      rfl
    · have := ih (i := i) (by simpa using h)
      rw [show (i + 1) * 3 + 2 = i * 3 + 2 + 1 + 1 + 1 by omega, rowD_cons]
      simp [rowD_cons, this]
theorem kind_ne {w : World} {sb : Nat} {C : Array Value} {t : TypeId} {z : Nat × Nat} (hs : w.heap[sb]? = some (.cells C t z)) {e : TypeId} {size n : Nat} {u : Value} {xs : List Value} (he : e ≠ t) (ho : w.ownsRow 0 e size u n xs) : ∀ g, u.ownBlock = some g → g ≠ sb := fun g hg eq => by
  rcases ho.2 with ⟨e1, _⟩ | ⟨g', cap, cur, e1, _, hx, _⟩
  · rw [e1] at hg; cases hg
  · rw [e1] at hg
    have hg' : g' = g := by injection hg
    rw [hg', eq, hs] at hx
    injection hx with hx
    injection hx with _ hx _
    exact he hx.symm
theorem DIn.setRow {w : World} {sb g n c : Nat} {m m' : Sto} {F : Nat → Prop} {sl : Nat → Value} (h : DIn w sb m F (.slice (some ⟨g, 0, none⟩) n c) sl) (hn : n = m.runs.length) (j : Nat) (u : Value) (ok : m'.Ok) (hst : ∀ rv, stoD m' rv = stoD m rv) (hlen : m'.runs.length = m.runs.length) (hrow : (rowD sl m.runs).set j u = rowD sl m'.runs) (ht : ∀ r ∈ m'.runs, ∃ r0 ∈ m.runs, r.num = r0.num ∧ r.txt = r0.txt) : DIn (w.setCell ⟨g, j, none⟩ u) sb m' F (.slice (some ⟨g, 0, none⟩) n c) sl := by
  subst hn
  obtain ⟨cur, hcur⟩ : ∃ cur, w.heap[g]? = some (.cells cur 79 (0, 0)) := by
    rcases id h.row.2 with ⟨e, _⟩ | ⟨g', cap, cur, e, _, hx, _⟩
    · cases e
    · injection e with e _ _
      injection e with e
      injection e with e _ _
      exact ⟨cur, by rw [e]; exact hx⟩
  have hsb : sb ≠ g := fun e => by
    have := h.sto
    rw [e, hcur] at this
    injection this with this
    injection this with _ this _
    exact absurd this (by decide)
  refine ⟨ok, fun b hb => by simpa using h.lt b hb, h.own, by rw [Below.heap_setCell _ _ _ _ hsb, hst]; exact h.sto, by rw [hlen, ← hrow]; exact (h.row.stored j u).1, h.rowF, fun r hr => ?_, fun r hr => ?_, fun r hr r' hr' => ?_⟩
  · obtain ⟨r0, h0, e1, e2⟩ := ht r hr
    rw [e1, e2]
    exact own_kept (h.txt r0 h0) fun g' hg' => Below.heap_setCell _ _ _ _ (kind_ne hcur (by decide) (h.txt r0 h0) g' hg')
  · obtain ⟨r0, h0, e1, _⟩ := ht r hr
    rw [e1]
    exact h.txF r0 h0
  · obtain ⟨r0, h0, e1, _⟩ := ht r hr
    obtain ⟨r1, h1, e2, _⟩ := ht r' hr'
    rw [e1, e2]
    exact h.apart r0 h0 r1 h1
set_option maxRecDepth 100000 in
theorem seal_doc {w : World} {sb : Nat} {m : Sto} {F : Nat → Prop} {rv : Value} {sl : Nat → Value} (h : DIn w sb m F rv sl) (k : Int) :
    Calls Tryz.prog 48 #[.pointer (some ⟨sb, 0, none⟩), .int .i64 k] w fun e w' => e = .returned (.int .i64 (sel m k).1) ∧ DIn w' sb (sel m k).2 F rv sl ∧ Chg F w w' ∧ w'.heap.size = w.heap.size := by
  have HR := hide (refused_any h)
  by_cases ha : m.ahead = 1
  · have e : sel m k = (9, m.tick) := by unfold sel; rw [if_pos ha]
    rw [e]
    rw [show decide (m.ahead = 1) = true by simp [ha]] at HR
    clear h e
    go_enter Tryz.func48, Tryz.ntmps48
    go_wp2_with (go_at_call 71; refine (unhide HR).mono ?_; rintro e w1 ⟨rfl, hd1⟩; have HD := hide hd1; clear hd1)
    go_ret
    exact ⟨rfl, unhide HD⟩
  · rw [show decide (m.ahead = 1) = false by simp [ha]] at HR
    rcases hl : look m.runs k with _ | r
    · have e : sel m k = (3, m.tick) := by unfold sel; rw [if_neg ha, hl]
      rw [e]
      have HL := hide hl
      clear h e hl
      go_enter Tryz.func48, Tryz.ntmps48
      go_wp2_with (first | (go_at_call 71; refine (unhide HR).mono ?_; rintro e w1 ⟨rfl, hd1⟩; have HD := hide hd1; clear hd1) | (go_at_call 74; refine (fit_none (unhide HD).1 (unhide HL)).mono ?_; rintro e w2 ⟨rfl, rfl⟩))
      go_ret
      exact ⟨rfl, unhide HD⟩
    · obtain ⟨i, hi, hn, hil⟩ := look_at_i hl
      have HI := hide hi
      cases hs : r.shut
      · have e : sel m k = (0, { m.tick with runs := repl m.runs { r with shut := true } }) := by unfold sel; rw [if_neg ha, hl]; simp [hs]
        rw [e]
        obtain ⟨ao, cc, rfl, hat⟩ := h.at
        obtain ⟨g, rfl, hg, hF, -⟩ := hat (by omega)
        have HST : Hid (∀ w1, DIn w1 sb m.tick F (.slice (some ⟨g, 0, none⟩) m.runs.length cc) sl → Chg F w w1 → w1.heap.size = w.heap.size → w1.cell? ⟨sb, 4, none⟩ = some (.slice (some ⟨g, 0, none⟩) m.runs.length cc) ∧ w1.cell? ⟨g, i * 3 + 2, none⟩ = some (.bool false) ∧ w1.frozen? ⟨g, i * 3 + 2, none⟩ = false ∧ DIn (w1.setCell ⟨g, i * 3 + 2, none⟩ (.bool true)) sb { m.tick with runs := repl m.runs { r with shut := true } } F (.slice (some ⟨g, 0, none⟩) m.runs.length cc) sl ∧ Chg F w (w1.setCell ⟨g, i * 3 + 2, none⟩ (.bool true)) ∧ (w1.setCell ⟨g, i * 3 + 2, none⟩ (.bool true)).heap.size = w.heap.size) := fun w1 d1 hc1 hz1 => by
          have hsr := d1.ok.sorted
          have e2 : repl m.runs { r with shut := true } = m.runs.set i { r with shut := true } := repl_set hsr (unhide HI) rfl
          refine ⟨(dcells d1.sto).2.2.2.2.1, ?_, d1.row.frozenAt _, d1.setRow rfl (i * 3 + 2) _ ?_ (fun _ => rfl) ?_ ?_ ?_, hc1.setCell (.inl hF) _, by simpa using hz1⟩
          · have := d1.row.cellAt (i * 3 + 2) (by show i * 3 + 2 < m.runs.length * 3; omega)
            rw [this, ← hs]
            exact (rowD_get (sl := sl) (unhide HI)).2.2
          · exact repl_ok (m := m.tick) d1.ok (List.mem_of_getElem? (unhide HI)) rfl rfl
          · show (repl m.runs _).length = m.runs.length
            rw [e2]; simp
          · show (rowD sl m.runs).set (i * 3 + 2) _ = rowD sl (repl m.runs _)
            rw [rowD_shut (unhide HI), e2]
          · intro x hx
            rcases repl_mem hx with ⟨rfl, _⟩ | ⟨hx, _⟩
            · exact ⟨r, List.mem_of_getElem? (unhide HI), rfl, rfl⟩
            · exact ⟨x, hx, rfl, rfl⟩
        have hiz : (i : Int) < (m.runs.length : Int) := by omega
        have hi0 : 0 ≤ (i : Int) := by omega
        have HN := hide hn
        have HSH := hide hs
        clear h e hl hat hi hs
        subst hn
        go_enter Tryz.func48, Tryz.ntmps48
        go_wp2_with (first | (go_at_call 71; refine (unhide HR).mono ?_; rintro e w1 ⟨rfl, hd1⟩; have HD := hide hd1; obtain ⟨x4, xb, xf, hfin⟩ := unhide HST w1 hd1.1 hd1.2.1 hd1.2.2; have HFI := hide hfin; clear hd1 hfin) | (go_at_call 74; have q := fit_some (unhide HD).1 (unhide HI); rw [unhide HSH] at q; simp only [Bool.false_eq_true, if_false] at q; refine q.mono ?_; clear q; rintro e w2 ⟨rfl, rfl⟩))
        go_ret
        exact ⟨rfl, unhide HFI⟩
      · have e : sel m k = (4, m.tick) := by unfold sel; rw [if_neg ha, hl]; simp [hs]
        rw [e]
        have HSH := hide hs
        clear h e hl hi hs
        subst hn
        go_enter Tryz.func48, Tryz.ntmps48
        go_wp2_with (first | (go_at_call 71; refine (unhide HR).mono ?_; rintro e w1 ⟨rfl, hd1⟩; have HD := hide hd1; clear hd1) | (go_at_call 74; have q := fit_some (unhide HD).1 (unhide HI); rw [unhide HSH] at q; simp only [if_true] at q; refine q.mono ?_; clear q; rintro e w2 ⟨rfl, rfl⟩))
        go_ret
        exact ⟨rfl, unhide HD⟩
end Rs
end Go.Proofs.YtohfhkdhccpoaaaGreatDoor
