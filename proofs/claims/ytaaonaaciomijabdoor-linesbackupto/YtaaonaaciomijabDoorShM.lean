/- Plain mathematics of rows to be written, and what it is that rows lie in memory; no walk. -/
import Derived.Test.YtaaonaaciomijabDoorCnt3
import Derived.Test.YtaaonaaciomijabDoorArgB
namespace Go.Proofs.YtaaonaaciomijabDoor
open Go.RowKit
namespace ShM

def mark : List UInt8 := [239, 187, 191]
/-- may a field stand at that place? -/
def ok (i j : Nat) (f : ByteArray) : Bool := CntW.stands f.data.toList && !(i == 0 && j == 0 && Lib.hasPrefix f.data.toList mark)
def rowOk (i j : Nat) : List ByteArray → Bool
  | [] => true
  | f :: t => ok i j f && rowOk i (j + 1) t
/-- the first fault: a row without fields, a field that can't stand, or none -/
def fault (i : Nat) : List (List ByteArray) → Int
  | [] => 0
  | r :: t => if r.isEmpty then 12 else if rowOk i 0 r then fault (i + 1) t else 11
theorem drop_at {α : Type} {L : List α} {k : Nat} {x : α} (h : L[k]? = some x) : L.drop k = x :: L.drop (k + 1) := by
  obtain ⟨hk, e⟩ := List.getElem?_eq_some_iff.1 h
  rw [List.drop_eq_getElem_cons hk, e]
theorem fault_empty {R : List (List ByteArray)} {k : Nat} {r : List ByteArray} (h : R[k]? = some r) (h0 : r.length = 0) : fault k (R.drop k) = 12 := by
  have : r = [] := List.eq_nil_of_length_eq_zero h0
  rw [drop_at h, this]; rfl
theorem fault_bad {R : List (List ByteArray)} {k : Nat} {r : List ByteArray} (h : R[k]? = some r) (h0 : r.length ≠ 0) (hb : rowOk k 0 r = false) : fault k (R.drop k) = 11 := by
  rw [drop_at h]
  cases r with
  | nil => simp at h0
  | cons f t => simp [fault, hb]
theorem fault_good {R : List (List ByteArray)} {k : Nat} {r : List ByteArray} (h : R[k]? = some r) (h0 : r.length ≠ 0) (hb : rowOk k 0 r = true) : fault k (R.drop k) = fault (k + 1) (R.drop (k + 1)) := by
  rw [drop_at h]
  cases r with
  | nil => simp at h0
  | cons f t => simp [fault, hb]
theorem fault_end {R : List (List ByteArray)} {k : Nat} (h : R.length ≤ k) : fault k (R.drop k) = 0 := by
  rw [List.drop_of_length_le h]; rfl
theorem row_bad {r : List ByteArray} {k j : Nat} {f : ByteArray} (h : r[j]? = some f) (hb : ok k j f = false) : rowOk k j (r.drop j) = false := by
  rw [drop_at h]; simp [rowOk, hb]
theorem row_good {r : List ByteArray} {k j : Nat} {f : ByteArray} (h : r[j]? = some f) (hb : ok k j f = true) : rowOk k j (r.drop j) = rowOk k (j + 1) (r.drop (j + 1)) := by
  rw [drop_at h]; simp [rowOk, hb]
theorem row_end {r : List ByteArray} {k j : Nat} (h : r.length ≤ j) : rowOk k j (r.drop j) = true := by
  rw [List.drop_of_length_le h]; rfl

/-- nil, or a slice with an address -/
def Kind (u : Value) : Prop := u = .slice none 0 0 ∨ ∃ ad m c, u = .slice (some ad) m c
/-- the value reads as rows of texts -/
def IsRows (w : World) (v : Value) (R : List (List ByteArray)) : Prop :=
  ∃ V : List Value, ArgB.ArgOf (fun x : Value => x) w v V ∧ V.length = R.length ∧ (∀ (i : Nat) u r, V[i]? = some u → R[i]? = some r → ArgB.ArgOf Value.string w u r) ∧ ∀ u ∈ V, Kind u
theorem IsRows.below {w w' : World} {v : Value} {R : List (List ByteArray)} (h : IsRows w v R) (hB : Below w.heap.size w w') : IsRows w' v R := by
  obtain ⟨V, h1, h2, h3, h4⟩ := h
  exact ⟨V, h1.below hB, h2, fun i u r hu hr => (h3 i u r hu hr).below hB, h4⟩
/-- how rows are got at -/
theorem IsRows.form2 {w : World} {v : Value} {R : List (List ByteArray)} (h : IsRows w v R) : ∃ ao cap, v = .slice ao R.length cap ∧ R.length ≤ maxLen ∧ R.length ≤ cap ∧
    ∀ (i : Nat) r, R[i]? = some r → ∃ g off u, ao = some ⟨g, off, none⟩ ∧ g < w.heap.size ∧ w.cell? ⟨g, off + i, none⟩ = some u ∧ ArgB.ArgOf Value.string w u r ∧ Kind u := by
  obtain ⟨V, ⟨ao, cap, rfl, h1, h2, h3⟩, hl, hV, hK⟩ := h
  refine ⟨ao, cap, by rw [hl], by omega, by omega, fun i r hr => ?_⟩
  have hi : i < R.length := (List.getElem?_eq_some_iff.1 hr).1
  obtain ⟨g, off, e, hg, hc⟩ := h3 (by omega)
  obtain ⟨u, hu⟩ : ∃ u, V[i]? = some u := ⟨_, List.getElem?_eq_getElem (by omega)⟩
  exact ⟨g, off, u, e, hg, hc i u hu, hV i u r hu hr, hK u (List.mem_of_getElem? hu)⟩
theorem IsRows.form {w : World} {v : Value} {R : List (List ByteArray)} (h : IsRows w v R) : ∃ ao cap, v = .slice ao R.length cap ∧ R.length ≤ maxLen ∧ R.length ≤ cap ∧
    ∀ (i : Nat) r, R[i]? = some r → ∃ g off u, ao = some ⟨g, off, none⟩ ∧ g < w.heap.size ∧ w.cell? ⟨g, off + i, none⟩ = some u ∧ ArgB.ArgOf Value.string w u r := by
  obtain ⟨ao, cap, h1, h2, h3, h4⟩ := h.form2
  refine ⟨ao, cap, h1, h2, h3, fun i r hr => ?_⟩
  obtain ⟨g, off, u, e, hg, hc, hA, _⟩ := h4 i r hr
  exact ⟨g, off, u, e, hg, hc, hA⟩
/-- how a row's fields are got at -/
theorem row_form {w : World} {u : Value} {r : List ByteArray} (h : ArgB.ArgOf Value.string w u r) : ∃ ao cap, u = .slice ao r.length cap ∧ r.length ≤ maxLen ∧ r.length ≤ cap ∧
    ∀ (j : Nat) f, r[j]? = some f → ∃ g off, ao = some ⟨g, off, none⟩ ∧ g < w.heap.size ∧ w.cell? ⟨g, off + j, none⟩ = some (.string f) := by
  obtain ⟨ao, cap, rfl, h1, h2, h3⟩ := h
  refine ⟨ao, cap, rfl, h2, h1, fun j f hf => ?_⟩
  have hj : j < r.length := (List.getElem?_eq_some_iff.1 hf).1
  obtain ⟨g, off, e, hg, hc⟩ := h3 (by omega)
  exact ⟨g, off, e, hg, hc j f hf⟩
end ShM
end Go.Proofs.YtaaonaaciomijabDoor
