/- Layer 5: the document's place. -/
import Derived.Test.YtdcffkahijpcbabDoorDa
namespace Go.Proofs.YtdcffkahijpcbabDoor
open Go.RowKit
namespace Rs
theorem rowD_cons (sl : Nat → Value) (r : Run) (l : List Run) : rowD sl (r :: l) = .int .i64 r.num :: sl r.num :: .bool r.shut :: rowD sl l := rfl
theorem rowD_get {sl : Nat → Value} {l : List Run} {j : Nat} {r : Run} (h : l[j]? = some r) : (rowD sl l)[j * 3]? = some (.int .i64 r.num) ∧ (rowD sl l)[j * 3 + 1]? = some (sl r.num) ∧ (rowD sl l)[j * 3 + 2]? = some (.bool r.shut) := by
  induction l generalizing j with
  | nil => simp at h
  | cons x t ih =>
    rw [rowD_cons]
    rcases j with _ | j
    · have : x = r := by simpa using h
      subst this
      exact ⟨rfl, rfl, rfl⟩
    · have := ih (j := j) (by simpa using h)
      rw [show (j + 1) * 3 = j * 3 + 1 + 1 + 1 by omega]
      simpa using this
/-- the rows as the walk reads them -/
theorem DIn.at {w : World} {sb : Nat} {m : Sto} {F : Nat → Prop} {rv : Value} {sl : Nat → Value} (h : DIn w sb m F rv sl) : ∃ ao c, rv = .slice ao m.runs.length c ∧ (0 < m.runs.length → ∃ g, ao = some ⟨g, 0, none⟩ ∧ g < w.heap.size ∧ F g ∧ ∀ (j : Nat) r, m.runs[j]? = some r → w.cell? ⟨g, j * 3, none⟩ = some (.int .i64 r.num) ∧ w.cell? ⟨g, j * 3 + 1, none⟩ = some (sl r.num) ∧ w.cell? ⟨g, j * 3 + 2, none⟩ = some (.bool r.shut)) := by
  have ho := h.row
  rcases id ho.2 with ⟨e, e0⟩ | ⟨g, cap, cur, e, _, hx, _⟩
  · exact ⟨none, 0, by rw [e, e0], fun h0 => by omega⟩
  · subst e
    refine ⟨_, _, rfl, fun _ => ⟨g, rfl, (Array.getElem?_eq_some_iff.1 hx).1, h.rowF g rfl, fun j r hj => ?_⟩⟩
    have hjl := (List.getElem?_eq_some_iff.1 hj).1
    obtain ⟨a1, a2, a3⟩ := rowD_get (sl := sl) hj
    exact ⟨by rw [ho.cellAt (j * 3) (by omega)]; exact a1, by rw [ho.cellAt (j * 3 + 1) (by omega)]; exact a2, by rw [ho.cellAt (j * 3 + 2) (by omega)]; exact a3⟩
structure Cut (l : List Run) (k : Int) (lo hi : Nat) : Prop where
  le : lo ≤ hi
  hn : hi ≤ l.length
  low : ∀ (j : Nat) r, j < lo → l[j]? = some r → (r.num : Int) < k
  high : ∀ (j : Nat) r, hi ≤ j → l[j]? = some r → k ≤ (r.num : Int)
theorem sorted_get {l : List Run} (hs : l.Pairwise fun a b => a.num < b.num) {i j : Nat} {r s : Run} (hi : l[i]? = some r) (hj : l[j]? = some s) (h : i < j) : r.num < s.num := by
  obtain ⟨a, ea⟩ := List.getElem?_eq_some_iff.1 hi
  obtain ⟨b, eb⟩ := List.getElem?_eq_some_iff.1 hj
  have := List.pairwise_iff_getElem.1 hs i j a b h
  rw [ea, eb] at this
  exact this
theorem Cut.up {l : List Run} {k : Int} {lo hi mid : Nat} {r : Run} (h : Cut l k lo hi) (hs : l.Pairwise fun a b => a.num < b.num) (hm : lo ≤ mid) (hh : mid < hi) (hr : l[mid]? = some r) (hl : (r.num : Int) < k) : Cut l k (mid + 1) hi := by
  refine ⟨hh, h.hn, fun j s hj hs' => ?_, h.high⟩
  rcases Nat.lt_or_ge j mid with x | x
  · have := sorted_get hs hs' hr x; omega
  · obtain rfl : j = mid := by omega
    rw [hr] at hs'; injection hs' with e; rw [← e]; exact hl
theorem Cut.down {l : List Run} {k : Int} {lo hi mid : Nat} {r : Run} (h : Cut l k lo hi) (hs : l.Pairwise fun a b => a.num < b.num) (hm : lo ≤ mid) (hh : mid < hi) (hr : l[mid]? = some r) (hl : ¬ (r.num : Int) < k) : Cut l k lo mid := by
  refine ⟨hm, by have := h.hn; omega, h.low, fun j s hj hs' => ?_⟩
  rcases Nat.lt_or_ge mid j with x | x
  · have := sorted_get hs hr hs' x; omega
  · obtain rfl : j = mid := by omega
    rw [hr] at hs'; injection hs' with e; rw [← e]; omega
set_option maxRecDepth 100000 in
set_option maxHeartbeats 1000000 in
theorem place_some {w : World} {sb : Nat} {m : Sto} {F : Nat → Prop} {rv : Value} {sl : Nat → Value} {i : Nat} {r : Run} (h : DIn w sb m F rv sl) (hr : m.runs[i]? = some r) :
    Calls Tryd.prog 59 #[.pointer (some ⟨sb, 0, none⟩), .int .i64 r.num] w fun e w' => e = .returned (.int .i64 i) ∧ w' = w := by
  obtain ⟨c0, c1, c2, c3, c4, fz⟩ := dcells h.sto
  obtain ⟨ao, cc, rfl, hat⟩ := h.at
  have hil := (List.getElem?_eq_some_iff.1 hr).1
  obtain ⟨g, rfl, hg, hF, hcl⟩ := hat (by omega)
  have HSO := hide h.ok.sorted
  have HCL := hide hcl
  have HR := hide hr
  have hbl : m.runs.length ≤ 16777216 := by have := h.ok.len; have := h.ok.made; omega
  have HC0 : Hid (Cut m.runs r.num 0 m.runs.length) := ⟨Nat.zero_le _, Nat.le_refl _, fun j r hj => by omega, fun j s hj hs => by rw [List.getElem?_eq_none hj] at hs; cases hs⟩
  obtain ⟨kk, hkk⟩ : ∃ kk : Int, kk = (r.num : Int) := ⟨_, rfl⟩
  rw [← hkk] at HC0 ⊢
  have HKK := hide hkk
  clear h hat hcl hr hkk
  generalize m.runs = l at *
  go_enter Tryd.func59, Tryd.ntmps59
  go_wp2
  go_loop [5, 6] (fun s5 s6 => ∃ lo hi : Nat, s5 = .int .i64 lo ∧ s6 = .int .i64 hi ∧ Hid (Cut l kk lo hi)) (fun s5 s6 => (intOf s6 - intOf s5).toNat)
  case atStart => exact ⟨0, l.length, rfl, rfl, HC0⟩
  case round =>
    obtain ⟨lo, hi, rfl, rfl, HC⟩ := hrel
    have hle := (unhide HC).le
    have hhn := (unhide HC).hn
    by_cases hlt : lo < hi
    · have hltz : (lo : Int) < (hi : Int) := by omega
      obtain ⟨d, hd⟩ : ∃ d : Nat, d = (hi - lo) / 2 := ⟨_, rfl⟩
      have hd1 : ((hi : Int) - (lo : Int)).tdiv 2 = (d : Int) := by
        rw [show (hi : Int) - (lo : Int) = ((hi - lo : Nat) : Int) by omega, hd]
        rfl
      have hm2 : lo + d < hi := by omega
      have hm3 : (lo : Int) + (d : Int) < (l.length : Int) := by omega
      have hm0 : 0 ≤ (lo : Int) + (d : Int) := by omega
      obtain ⟨x, hx⟩ : ∃ x, l[lo + d]? = some x := ⟨_, List.getElem?_eq_getElem (by omega)⟩
      have q0 := (unhide HCL (lo + d) x hx).1
      by_cases hc : (x.num : Int) < kk
      · have HC2 := hide ((unhide HC).up (unhide HSO) (Nat.le_add_right _ _) hm2 hx hc)
        clear hd hx
        go_wp2
        exact ⟨⟨lo + d + 1, hi, by go_num, rfl, HC2⟩, by simp [intOf]; omega⟩
      · have HC2 := hide ((unhide HC).down (unhide HSO) (Nat.le_add_right _ _) hm2 hx hc)
        clear hd hx
        go_wp2
        exact ⟨⟨lo, lo + d, rfl, by go_num, HC2⟩, by simp [intOf]; omega⟩
    · have hltz : ¬ (lo : Int) < (hi : Int) := by omega
      obtain rfl : lo = hi := by omega
      have hli : lo = i := by
        have h1 := (unhide HC).low
        have h2 := (unhide HC).high
        rcases Nat.lt_trichotomy lo i with x | x | x
        · obtain ⟨y, hy⟩ : ∃ y, l[lo]? = some y := ⟨_, List.getElem?_eq_getElem (by omega)⟩
          have := h2 lo y (Nat.le_refl _) hy
          have := sorted_get (unhide HSO) hy (unhide HR) x
          have := unhide HKK
          omega
        · exact x
        · have := h1 i r x (unhide HR)
          have := unhide HKK
          omega
      subst hli
      have q0 := (unhide HCL lo r (unhide HR)).1
      rw [← unhide HKK] at q0
      have hlz : (lo : Int) < (l.length : Int) := by omega
      have hl0 : 0 ≤ (lo : Int) := by omega
      go_wp2
      go_ret
      exact ⟨rfl, rfl⟩
set_option maxRecDepth 100000 in
set_option maxHeartbeats 1000000 in
theorem place_none {w : World} {sb : Nat} {m : Sto} {F : Nat → Prop} {rv : Value} {sl : Nat → Value} {kk : Int} (h : DIn w sb m F rv sl) (hr : look m.runs kk = none) :
    Calls Tryd.prog 59 #[.pointer (some ⟨sb, 0, none⟩), .int .i64 kk] w fun e w' => e = .returned (.int .i64 (-1)) ∧ w' = w := by
  obtain ⟨c0, c1, c2, c3, c4, fz⟩ := dcells h.sto
  obtain ⟨ao, cc, rfl, hat⟩ := h.at
  have HSO := hide h.ok.sorted
  have HCL := hide hat
  have HR := hide (look_none hr)
  have hbl : m.runs.length ≤ 16777216 := by have := h.ok.len; have := h.ok.made; omega
  have HC0 : Hid (Cut m.runs kk 0 m.runs.length) := ⟨Nat.zero_le _, Nat.le_refl _, fun j r hj => by omega, fun j s hj hs => by rw [List.getElem?_eq_none hj] at hs; cases hs⟩
  clear h hat hr
  generalize m.runs = l at *
  go_enter Tryd.func59, Tryd.ntmps59
  go_wp2
  go_loop [5, 6] (fun s5 s6 => ∃ lo hi : Nat, s5 = .int .i64 lo ∧ s6 = .int .i64 hi ∧ Hid (Cut l kk lo hi)) (fun s5 s6 => (intOf s6 - intOf s5).toNat)
  case atStart => exact ⟨0, l.length, rfl, rfl, HC0⟩
  case round =>
    obtain ⟨lo, hi, rfl, rfl, HC⟩ := hrel
    have hle := (unhide HC).le
    have hhn := (unhide HC).hn
    by_cases hlt : lo < hi
    · have hltz : (lo : Int) < (hi : Int) := by omega
      obtain ⟨d, hd⟩ : ∃ d : Nat, d = (hi - lo) / 2 := ⟨_, rfl⟩
      have hd1 : ((hi : Int) - (lo : Int)).tdiv 2 = (d : Int) := by
        rw [show (hi : Int) - (lo : Int) = ((hi - lo : Nat) : Int) by omega, hd]
        rfl
      have hm2 : lo + d < hi := by omega
      have hm3 : (lo : Int) + (d : Int) < (l.length : Int) := by omega
      have hm0 : 0 ≤ (lo : Int) + (d : Int) := by omega
      obtain ⟨x, hx⟩ : ∃ x, l[lo + d]? = some x := ⟨_, List.getElem?_eq_getElem (by omega)⟩
      obtain ⟨g, rfl, hg, hF, hcl⟩ := unhide HCL (by omega)
      have q0 := (hcl (lo + d) x hx).1
      clear hcl HCL
      by_cases hc : (x.num : Int) < kk
      · have HC2 := hide ((unhide HC).up (unhide HSO) (Nat.le_add_right _ _) hm2 hx hc)
        clear hd hx
        go_wp2
        exact ⟨⟨lo + d + 1, hi, by go_num, rfl, HC2⟩, by simp [intOf]; omega⟩
      · have HC2 := hide ((unhide HC).down (unhide HSO) (Nat.le_add_right _ _) hm2 hx hc)
        clear hd hx
        go_wp2
        exact ⟨⟨lo, lo + d, rfl, by go_num, HC2⟩, by simp [intOf]; omega⟩
    · have hltz : ¬ (lo : Int) < (hi : Int) := by omega
      obtain rfl : lo = hi := by omega
      by_cases hll : lo < l.length
      · obtain ⟨x, hx⟩ : ∃ x, l[lo]? = some x := ⟨_, List.getElem?_eq_getElem hll⟩
        obtain ⟨g, rfl, hg, hF, hcl⟩ := unhide HCL (by omega)
        have q0 := (hcl lo x hx).1
        have hlz : (lo : Int) < (l.length : Int) := by omega
        have hl0 : 0 ≤ (lo : Int) := by omega
        have hne : ¬ (x.num : Int) = kk := unhide HR x (List.mem_of_getElem? hx)
        have hnb : ((x.num : Int) == kk) = false := by simp [hne]
        clear hcl HCL
        go_wp2
        go_ret
        exact ⟨rfl, rfl⟩
      · have hlz : ¬ (lo : Int) < (l.length : Int) := by omega
        go_wp2
        go_ret
        exact ⟨rfl, rfl⟩
end Rs
end Go.Proofs.YtdcffkahijpcbabDoor
