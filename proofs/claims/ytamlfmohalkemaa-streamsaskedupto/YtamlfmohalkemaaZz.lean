/- Layer 8: the document's Has, by halves. -/
import Derived.Test.YtamlfmohalkemaaZw
import Derived.Test.YtamlfmohalkemaaZp
namespace Go.Proofs.Ytamlfmohalkemaa
open Go.RowKit Go.Shelf
namespace Sm

theorem rs_get {L : List Tx} (h : Rs L) {i j : Nat} {a b : Tx} (ha : L[i]? = some a) (hb : L[j]? = some b) (hij : i < j) : lt a b = true := by
  have hd := rs_drop h ha
  refine hd b ?_
  have : (L.drop (i + 1))[j - (i + 1)]? = some b := by rw [List.getElem?_drop, show i + 1 + (j - (i + 1)) = j by omega]; exact hb
  exact List.mem_of_getElem? this
structure Ct (L : List Tx) (y : Tx) (lo hi : Nat) : Prop where
  le : lo ≤ hi
  hn : hi ≤ L.length
  low : ∀ (j : Nat) x, j < lo → L[j]? = some x → lt x y = true
  high : ∀ (j : Nat) x, hi ≤ j → L[j]? = some x → lt x y = false
theorem Ct.up {L : List Tx} {y x : Tx} {lo hi m : Nat} (h : Ct L y lo hi) (hr : Rs L) (hm : m < hi) (hl : lo ≤ m) (hx : L[m]? = some x) (hc : lt x y = true) : Ct L y (m + 1) hi := by
  refine ⟨by omega, h.hn, fun j z hj hz => ?_, h.high⟩
  rcases Nat.lt_or_ge j m with q | q
  · exact lt_tr (rs_get hr hz hx q) hc
  · have : j = m := by omega
    subst this; rw [hx] at hz; injection hz with hz; rw [← hz]; exact hc
theorem Ct.down {L : List Tx} {y x : Tx} {lo hi m : Nat} (h : Ct L y lo hi) (hr : Rs L) (hm : m < hi) (hl : lo ≤ m) (hx : L[m]? = some x) (hc : lt x y = false) : Ct L y lo m := by
  refine ⟨hl, by have := h.hn; omega, h.low, fun j z hj hz => ?_⟩
  rcases Nat.lt_or_ge m j with q | q
  · have h1 := rs_get hr hx hz q
    cases k : lt z y with
    | false => rfl
    | true => have := lt_tr h1 k; rw [hc] at this; cases this
  · have : j = m := by omega
    subst this; rw [hx] at hz; injection hz with hz; rw [← hz]; exact hc
theorem Ct.mem {L : List Tx} {y : Tx} {n : Nat} (hr : Rs L) (h : Ct L y n n) : mem L y = (match L[n]? with | some x => (x.toList == y.toList) | none => false) := by
  rw [Bool.eq_iff_iff, mem_iff]
  constructor
  · intro hy
    obtain ⟨j, hj⟩ := List.mem_iff_getElem?.1 hy
    rcases Nat.lt_or_ge j n with q | q
    · have := h.low j y q hj; rw [lt_irr] at this; cases this
    · rcases Nat.lt_or_ge n j with q2 | q2
      · obtain ⟨z, hz⟩ : ∃ z, L[n]? = some z := ⟨_, List.getElem?_eq_getElem (by have := (List.getElem?_eq_some_iff.1 hj).1; omega)⟩
        have h1 := rs_get hr hz hj q2
        have h2 := h.high n z (Nat.le_refl _) hz
        rw [h1] at h2; cases h2
      · have : j = n := by omega
        subst this; rw [hj]; exact tx_beq.2 rfl
  · intro e
    cases k : L[n]? with
    | none => rw [k] at e; cases e
    | some x => rw [k] at e; rw [← tx_beq.1 e]; exact List.mem_of_getElem? k
set_option maxRecDepth 100000 in
set_option maxHeartbeats 2000000 in
theorem halve_any {w : World} {v : Value} {L : List Tx} (y : Tx) (h : RowAt w v L w.heap.size) (hr : Rs L) (hz : L.length ≤ 8796093022208) :
    Calls Try.prog 34 #[v, .string y] w fun e w' => ∃ n : Nat, e = .returned (.int .i64 (n : Int)) ∧ Ct L y n n ∧ w' = w := by
  obtain ⟨ao, c, rfl, hat⟩ := h
  have HAT := hide hat
  have HR := hide hr
  have HC0 : Hid (Ct L y 0 L.length) := ⟨Nat.zero_le _, Nat.le_refl _, fun j r hj => by omega, fun j s hj hs => by rw [List.getElem?_eq_none hj] at hs; cases hs⟩
  clear hat hr
  go_enter Try.func34, Try.ntmps34
  go_wp2
  go_loop [5, 6] (fun s5 s6 => ∃ lo hi : Nat, s5 = .int .i64 lo ∧ s6 = .int .i64 hi ∧ Hid (Ct L y lo hi)) (fun s5 s6 => (intOf s6 - intOf s5).toNat)
  case atStart => exact ⟨0, L.length, rfl, rfl, HC0⟩
  case round =>
    obtain ⟨lo, hi, rfl, rfl, HC⟩ := hrel
    have hle := (unhide HC).le
    have hhn := (unhide HC).hn
    by_cases hlt : lo < hi
    · have hltz : (lo : Int) < (hi : Int) := by omega
      obtain ⟨g, off, rfl, hg, hcell⟩ := unhide HAT (by omega)
      obtain ⟨d, hd⟩ : ∃ d : Nat, d = (hi - lo) / 2 := ⟨_, rfl⟩
      have hd1 : ((hi : Int) - (lo : Int)).tdiv 2 = (d : Int) := by
        rw [show (hi : Int) - (lo : Int) = ((hi - lo : Nat) : Int) by omega, hd]
        rfl
      have hm2 : lo + d < hi := by omega
      have hm3 : (lo : Int) + (d : Int) < (L.length : Int) := by omega
      have hm0 : 0 ≤ (lo : Int) + (d : Int) := by omega
      obtain ⟨x, hx⟩ : ∃ x, L[lo + d]? = some x := ⟨_, List.getElem?_eq_getElem (by omega)⟩
      have q0 : w.cell? ⟨g, off + (lo + d), none⟩ = some (.string x) := hcell (lo + d) x hx
      have e1 := lt_def x y
      cases hc : lt x y with
      | true =>
        have HC2 := hide ((unhide HC).up (unhide HR) hm2 (Nat.le_add_right _ _) hx hc)
        rw [hc] at e1
        clear hd hx hcell
        go_wp2
        exact ⟨⟨lo + d + 1, hi, by go_num, rfl, HC2⟩, by simp [intOf]; omega⟩
      | false =>
        have HC2 := hide ((unhide HC).down (unhide HR) hm2 (Nat.le_add_right _ _) hx hc)
        rw [hc] at e1
        clear hd hx hcell
        go_wp2
        exact ⟨⟨lo, lo + d, rfl, by go_num, HC2⟩, by simp [intOf]; omega⟩
    · have hltz : ¬ (lo : Int) < (hi : Int) := by omega
      obtain rfl : lo = hi := by omega
      go_wp2
      go_ret
      exact ⟨lo, rfl, unhide HC, rfl⟩
set_option maxRecDepth 100000 in
set_option maxHeartbeats 2000000 in
theorem rhas_any {w : World} {v : Value} {L : List Tx} (y : Tx) (h : RowAt w v L w.heap.size) (hr : Rs L) (hz : L.length ≤ 8796093022208) :
    Calls Try.prog 16 #[v, .string y] w fun e w' => e = .returned (.bool (mem L y)) ∧ Below w.heap.size w w' := by
  have HH := hide (halve_any y h hr hz)
  obtain ⟨ao, c, rfl, hat⟩ := h
  have HAT := hide hat
  have HR := hide hr
  clear hat hr
  go_enter Try.func16, Try.ntmps16
  go_wp2_with fail
  refine (unhide HH).mono ?_
  rintro e w1 ⟨n, rfl, hct, rfl⟩
  have hm := hct.mem (unhide HR)
  have hn := hct.hn
  clear hct HH HR
  by_cases hnl : n < L.length
  · obtain ⟨g, off, rfl, hg, hcell⟩ := unhide HAT (by omega)
    obtain ⟨x, hx⟩ : ∃ x, L[n]? = some x := ⟨_, List.getElem?_eq_getElem hnl⟩
    have c1 : w1.cell? ⟨g, off + n, none⟩ = some (.string x) := hcell n x hx
    rw [hx] at hm
    have HM := hide hm
    clear hm hx hcell HAT
    go_wp2
    go_ret
    exact ⟨by rw [unhide HM]; rfl, Below.refl _ _⟩
  · rw [List.getElem?_eq_none (by omega)] at hm
    have HM := hide hm
    clear hm HAT
    go_wp2
    go_ret
    exact ⟨by rw [unhide HM]; rfl, Below.refl _ _⟩
end Sm
end Go.Proofs.Ytamlfmohalkemaa
