/- What it is that a list of texts, of bools or of bytes that came in lies in memory; no walk. -/
import Derived.Test.YtohfhkdhccpoaaaGreatDoorGd
import Derived.Test.YtohfhkdhccpoaaaGreatDoorRows
import Derived.ProofKit
import Derived.OpenShut
import Derived.Deep.Slices
import Derived.SizedLaws
namespace Go.Proofs.YtohfhkdhccpoaaaGreatDoor
open Go.RowKit
namespace ArgB

theorem laidOut : laidOutB Tryz.prog = true := by kernel_rfl

def ArgOf {α : Type} (enc : α → Value) (W : World) (v : Value) (L : List α) : Prop :=
  ∃ ao cap, v = .slice ao L.length cap ∧ L.length ≤ cap ∧ L.length ≤ maxLen ∧ (ao = none → cap = 0) ∧ (0 < L.length → ∃ g off, ao = some ⟨g, off, none⟩ ∧ g < W.heap.size ∧ ∀ (j : Nat) x, L[j]? = some x → W.cell? ⟨g, off + j, none⟩ = some (enc x))
theorem ArgOf.below {α : Type} {enc : α → Value} {W W' : World} {v : Value} {L : List α} (h : ArgOf enc W v L) (hB : Below W.heap.size W W') : ArgOf enc W' v L := by
  obtain ⟨ao, cap, e, h1, h2, hnn, h3⟩ := h
  refine ⟨ao, cap, e, h1, h2, hnn, fun h0 => ?_⟩
  obtain ⟨g, off, e2, hg, hc⟩ := h3 h0
  exact ⟨g, off, e2, Nat.lt_of_lt_of_le hg hB.size, fun j x hx => (hB.cell (p := ⟨g, off + j, none⟩) hg).trans (hc j x hx)⟩
theorem arg_at {α : Type} {enc : α → Value} {W : World} {a : Addr} {len cap : Nat} {ss : List α} (hlen : len ≤ ss.length) (hl : len ≤ cap) (hm : cap ≤ maxLen) (hcell : ∀ (i : Nat) x, ss[i]? = some x → W.cell? (a.add i) = some (enc x)) : ArgOf enc W (.slice (some a) len cap) (ss.take len) := by
  have hl2 : (ss.take len).length = len := by simp; omega
  refine ⟨some a, cap, by rw [hl2], by omega, by omega, (fun h => by cases h), fun h0 => ?_⟩
  rw [hl2] at h0
  have h00 := hcell 0 ss[0] (List.getElem?_eq_getElem (by omega))
  obtain ⟨b, off, spot⟩ := a
  have hspot : spot = none := by simpa [Addr.add] using World.cell?_spot h00
  subst hspot
  refine ⟨b, off, rfl, ?_, fun j x hx => ?_⟩
  · exact World.block_lt_of_cell? W _ h00
  · rw [List.getElem?_take] at hx
    split at hx
    · have := hcell j x hx
      rwa [Go.WideShapes.add_plain] at this
    · cases hx
theorem arg_nil {α : Type} {enc : α → Value} {W : World} : ArgOf enc W (.slice none 0 0) ([] : List α) := ⟨none, 0, rfl, Nat.le_refl _, by simp, fun _ => rfl, fun h => absurd h (by simp)⟩
section
variable {H : Type} {enc : TypeId × Value → H} {P : Program} {w : World}

/-- A list that came in, opened: what it holds, and what its datum is. -/
theorem open_arg {α : Type} (ev : α → Value) (dat : α → DataW H) {t e : TypeId} (ht : P.underlying t = some (.slice e)) (hc : P.cellsOf e = 1)
    (hel : ∀ (n : Nat) (u : Value) (d : DataW H) (p : List MemPlace), DataW.trod enc P w 0 (fun _ => true) true n e [u] = some (d, p) → ∃ x : α, u = ev x ∧ d = dat x)
    {a : Option Addr} {len cap : Nat} {d : DataW H} {p : List MemPlace} (h : DataW.Trod enc P w 0 (fun _ => true) true t (.slice a len cap) d p) :
    ∃ L S : List α, ArgOf ev w (.slice a len cap) L ∧ ((d = .nil ∧ L = []) ∨ d = .slice (L.map dat) (S.map dat)) := by
  obtain ⟨fuel, hf⟩ := h
  rcases Go.Deep.open_slice1 ht hc hf with ⟨hcs, hx⟩ | ⟨x, len', cap', m, n, V, D, Pl, hcs, _, hl, hm, hmm, hx, hV⟩
  · simp [Value.cells] at hcs
    obtain ⟨rfl, rfl, rfl⟩ := hcs
    simp only [Prod.mk.injEq] at hx
    exact ⟨[], [], arg_nil, .inl ⟨hx.1, rfl⟩⟩
  · simp [Value.cells] at hcs
    obtain ⟨rfl, rfl, rfl⟩ := hcs
    have hm2 : m = cap := by simpa using hmm
    subst hm2
    have hX : ∀ i, i < m → ∃ x : α, V i = ev x ∧ D i = dat x := fun i hi => hel n (V i) (D i) (Pl i) (hV i hi).2
    have hss : ∀ j, j ≤ m → ∃ ss : List α, ss.length = j ∧ ∀ (i : Nat) y, ss[i]? = some y → V i = ev y ∧ D i = dat y := by
      intro j
      induction j with
      | zero => intro _; exact ⟨[], rfl, fun i y h => by simp at h⟩
      | succ j ih =>
        intro hj
        obtain ⟨ss, h1, h2⟩ := ih (by omega)
        obtain ⟨y, hy⟩ := hX j (by omega)
        refine ⟨ss ++ [y], by simp [h1], fun i z hz => ?_⟩
        by_cases hi : i < ss.length
        · rw [List.getElem?_append_left hi] at hz
          exact h2 i z hz
        · have : i = j := by
            have := (List.getElem?_eq_some_iff.1 hz).1
            simp at this
            omega
          subst this
          rw [List.getElem?_append_right (by omega)] at hz
          simp [h1] at hz
          subst hz
          exact hy
    obtain ⟨ss, h1, h2⟩ := hss m (Nat.le_refl _)
    refine ⟨ss.take len, ss.drop len, arg_at (by omega) hl hm (fun i y hy => ?_), .inr ?_⟩
    · have hi : i < m := by rw [← h1]; exact (List.getElem?_eq_some_iff.1 hy).1
      rw [(hV i hi).1, (h2 i y hy).1]
    · simp only [Prod.mk.injEq] at hx
      rw [hx.1]
      congr 1
      · apply List.ext_getElem?
        intro i
        by_cases hi : i < len
        · have hi2 : i < ss.length := by omega
          simp only [List.getElem?_map, List.getElem?_range hi, List.getElem?_take, if_pos hi, List.getElem?_eq_getElem hi2, Option.map_some]
          rw [(h2 i _ (List.getElem?_eq_getElem hi2)).2]
        · simp [hi]
          omega
      · apply List.ext_getElem?
        intro i
        by_cases hi : i < m - len
        · have hi2 : len + i < ss.length := by omega
          simp only [List.getElem?_map, List.getElem?_range hi, List.getElem?_drop, List.getElem?_eq_getElem hi2, Option.map_some]
          rw [(h2 _ _ (List.getElem?_eq_getElem hi2)).2]
        · rw [List.getElem?_eq_none (by rw [List.length_map, List.length_range]; omega), List.getElem?_eq_none (by rw [List.length_map, List.length_drop, h1]; omega)]
def datS (s : ByteArray) : DataW H := .lit (.string s.data.toList)
def datB (b : Bool) : DataW H := .lit (.bool b)
def datU (c : UInt8) : DataW H := .lit (.int .u8 (c.toNat : Int))
theorem el_string {e : TypeId} (he : P.underlying e = some .string) (n : Nat) (u : Value) (d : DataW H) (p : List MemPlace) (h : DataW.trod enc P w 0 (fun _ => true) true n e [u] = some (d, p)) : ∃ x : ByteArray, u = .string x ∧ d = datS x := by
  obtain ⟨s, h1, h2, _⟩ := DataW.trod_string he h
  simp at h1 h2
  exact ⟨s, h1, h2.1⟩
theorem el_bool {e : TypeId} (he : P.underlying e = some .bool) (n : Nat) (u : Value) (d : DataW H) (p : List MemPlace) (h : DataW.trod enc P w 0 (fun _ => true) true n e [u] = some (d, p)) : ∃ x : Bool, u = .bool x ∧ d = datB x := by
  obtain ⟨s, h1, h2⟩ := DataW.trod_bool he h
  simp at h1 h2
  exact ⟨s, h1, h2.1⟩
theorem el_byte {e : TypeId} (he : P.underlying e = some (.int .u8)) (n : Nat) (u : Value) (d : DataW H) (p : List MemPlace) (h : DataW.trod enc P w 0 (fun _ => true) true n e [u] = some (d, p)) : ∃ x : UInt8, u = .int .u8 (x.toNat : Int) ∧ d = datU x := by
  obtain ⟨s, h1, h2, h3⟩ := DataW.trod_int he h
  simp at h1 h2
  have hb := bounds_u8 h3
  have e : ((UInt8.ofNat s.toNat).toNat : Int) = s := by
    rw [UInt8.toNat_ofNat']
    omega
  exact ⟨UInt8.ofNat s.toNat, by rw [e]; exact h1, by unfold datU; rw [e]; exact h2.1⟩
theorem weights_all {e : TypeId} (L : List ByteArray) : ∀ x ∈ L, x.data.toList.length ∈ DataW.weightsAll (H := H) P e (L.map datS) := by
  induction L with
  | nil => intro x hx; simp at hx
  | cons y t ih =>
    intro x hx
    simp only [List.map_cons, DataW.weightsAll, List.mem_append]
    rcases List.mem_cons.1 hx with rfl | hx
    · left; simp [datS, DataW.weights]
    · right; exact ih x hx
/-- each text of a list that came in is within the form's reach -/
theorem sized_strs {ts : List TypeId} {ds : List (DataW H)} (h : (DataW.weightsEach P ts ds).all (· ≤ reachBytes) = true) {j : Nat} {t e : TypeId} {L S : List ByteArray} (ht : ts[j]? = some t) (hd : ds[j]? = some (.slice (L.map datS) (S.map datS))) (hu : P.underlying t = some (.slice e)) :
    ∀ x ∈ L, x.size ≤ 140737488351232 := by
  intro x hx
  have hm := weights_all (H := H) (P := P) (e := e) L x hx
  have := List.all_eq_true.1 h _ (DataW.weights_mem_each ht hd x.data.toList.length (by simp only [DataW.weights, hu]; simp only [List.mem_cons, List.mem_append]; exact .inr (.inl hm)))
  have h2 : x.data.toList.length ≤ reachBytes := by simpa using this
  have h3 : reachBytes = 140737488351232 := by decide
  have h4 : x.data.toList.length = x.size := by simp
  omega
end
theorem txs_of {W : World} {v : Value} {L : List ByteArray} (h : ArgOf Value.string W v L) : Um.Txs W v L := by
  obtain ⟨ao, cap, e, h1, _, h2, h3⟩ := h
  exact ⟨ao, cap, e, h1, h2, h3⟩
theorem bulk_strs {H : Type} (L : List ByteArray) : L.length ≤ Rows.uptoBulkAll (H := H) (L.map datS) := by
  induction L with
  | nil => simp
  | cons x t ih =>
    simp only [List.map_cons, Rows.uptoBulkAll, List.length_cons, datS, Rows.uptoBulk]
    omega
theorem bulk_arg {H : Type} {d : DataW H} {L S : List ByteArray} (hd : (d = .nil ∧ L = []) ∨ d = .slice (L.map datS) (S.map datS)) : L.length ≤ Rows.uptoBulk d := by
  rcases hd with ⟨rfl, rfl⟩ | rfl
  · simp
  · have := bulk_strs (H := H) L
    simp only [Rows.uptoBulk]
    omega
end ArgB
end Go.Proofs.YtohfhkdhccpoaaaGreatDoor
