/- Layer 10: Sort, Merge, text and Live among other things in memory. -/
import Derived.Test.YtohfhkdhccpoaaaGreatDoorGq
namespace Go.Proofs.YtohfhkdhccpoaaaGreatDoor
open Go.RowKit Go.Shelf
namespace Rs
open Sm (Tx ofS)
section
variable {w wr : World} {E : Nat → Addr} {L : List Thing} {D : Nat → Nat} {i sb : Nat} {m : Sto}
theorem sep_sort {fan b : Nat} {v : Value} {X : List Tx} (V : EnvZ w E w.heap.size) (h : Sep w L D wr) (hi : L[i]? = some (stoT sb m)) (hT : Um.Txs wr v X) (hv : ∀ a n c, v = .slice (some a) n c → (a.block < w.heap.size ∨ D i ≤ a.block) ∧ a.block < wr.heap.size) (hx : ∀ x ∈ X, x.size ≤ 255) (hb1 : 1 ≤ b) (hb2 : b ≤ 65536) (h2 : 2 ≤ fan) (h64 : fan ≤ 64)
    (ha : m.ahead = 0) (hc : tot m.runs + 2 * fz X ≤ m.cap) (hm : m.made + 2 * X.length + 1 ≤ 16777216) :
    Calls Tryz.prog 15 #[.pointer (some ⟨sb, 0, none⟩), .int .i64 b, .int .i64 fan, v] wr fun e w' => ∃ m' n, e = .returned (.tuple #[.int .i64 (n : Nat), .nilIface]) ∧ Sorted m m' n X ∧ m'.made ≤ m.made + 2 * X.length + 1 ∧ (X ≠ [] → X.length ≤ b → m'.made = m.made + 1) ∧ Sep w (L.set i (stoT sb m')) (fun _ => w'.heap.size) w' := by
  obtain ⟨F, k1, k2, k3, k4⟩ := h.call (Below.refl _ _) hi
  have k1' : At wr sb m F := k1
  refine (sort_ok (V.below k3) (fun b hb => (k2 b hb).1) k3.size k1' hT (fun a n c e => ⟨fun q => ?_, (hv a n c e).2⟩) hx hb1 hb2 h2 h64 ha hc hm).mono ?_
  · have := k2 _ q
    rcases (hv a n c e).1 with y | y <;> omega
  · rintro e w' ⟨m', n, rfl, a1, a2, -, a3, r⟩
    exact ⟨m', n, rfl, a1, a2, a3, (k4 (stoT sb m') w' r.1 r.2 w' (Chg.refl _ _)).reset⟩
theorem sep_merge {fan : Nat} {v : Value} {ks : List Nat} {st : Nat → List Tx} (V : EnvZ w E w.heap.size) (h : Sep w L D wr) (hi : L[i]? = some (stoT sb m)) (hn : Nums wr v (zs ks)) (hq : Qs m st ks) (h2 : 2 ≤ fan) (h64 : fan ≤ 64) (hz : ks.length ≤ 16777216) {m' : Sto} {n : Nat} (hm : mrg fan m st ks = (0, m', n)) :
    Calls Tryz.prog 28 #[.pointer (some ⟨sb, 0, none⟩), .int .i64 fan, v] wr fun e w' => e = .returned (.tuple #[.int .i64 (n : Nat), .nilIface]) ∧ Sep w (L.set i (stoT sb m')) (fun _ => w'.heap.size) w' := by
  obtain ⟨F, k1, k2, k3, k4⟩ := h.call (Below.refl _ _) hi
  have k1' : At wr sb m F := k1
  refine (merge_go (V.below k3) (fun b hb => (k2 b hb).1) k3.size k1' hn hq h2 h64 hz).mono ?_
  rw [hm]
  rintro e w' ⟨rfl, r⟩
  exact ⟨rfl, (k4 (stoT sb m') w' r.1 r.2 w' (Chg.refl _ _)).reset⟩
theorem sep_text10 {n : Nat} {T : List UInt8} (V : EnvZ w E w.heap.size) (h : Sep w L D wr) (hi : L[i]? = some (stoT sb m)) (hn : n ≤ 16777216) (hl : look m.runs n = some ⟨n, T, true⟩) :
    Calls Tryz.prog 18 #[.pointer (some ⟨sb, 0, none⟩), .int .i64 n] wr fun e w' => e = .returned (.string (strB T)) ∧ Sep w L D w' := by
  obtain ⟨F, k1, k2, k3, -⟩ := h.call (Below.refl _ _) hi
  have k1' : At wr sb m F := k1
  refine (text_any (V.below k3).toEnvR (fun b hb => (k2 b hb).1) k3.size k1' hn hl).mono ?_
  rintro e w' ⟨rfl, hb⟩
  exact ⟨rfl, h.below hb⟩
theorem sep_live10 (h : Sep w L D wr) (hi : L[i]? = some (stoT sb m)) :
    Calls Tryz.prog 20 #[.pointer (some ⟨sb, 0, none⟩)] wr fun e w' => ∃ a c, e = .returned (.slice a m.runs.length c) ∧ Sep w L D w' := by
  obtain ⟨F, k1, k2, k3, -⟩ := h.call (Below.refl _ _) hi
  have k1' : At wr sb m F := k1
  refine (live_any k1').mono ?_
  rintro e w' ⟨v, rfl, ho, hb⟩
  obtain ⟨a, c, e⟩ := own_slice ho
  refine ⟨a, c, ?_, h.below hb⟩
  rw [e]
  simp [nums]
end
end Rs
end Go.Proofs.YtohfhkdhccpoaaaGreatDoor
