/- Plain mathematics of patterns of plain bytes. -/
import Derived.Test.YtgaagbjbolfbjabRtB
namespace Go.Proofs.Ytgaagbjbolfbjab
open Go.RowKit
namespace Pt
open Cd

/-- bytes that mean nothing -/
def Plain (L : List UInt8) : Prop := ∀ c ∈ L, c ≠ 46 ∧ c ≠ 91
theorem pcs_lit {L : List UInt8} (h : Plain L) : pcs L = some (L.map fun c => [c]) := by
  have e : (L.map fun c => [c]).flatten = L := by induction L with | nil => rfl | cons a t ih => simp [ih (fun c hc => h c (by simp [hc]))]
  have := pcs_of (L.map fun c => [c]) (fun p hp => by obtain ⟨c, hc, rfl⟩ := List.mem_map.1 hp; exact .inl ⟨c, (h c hc).2, rfl⟩)
  rw [e] at this
  exact this
theorem rd_lit {L : List UInt8} (h : Plain L) (h0 : L ≠ []) (h1 : L.length ≤ 16) : rd L = (L.map fun c => [c], 0) :=
  rd_few h0 (by omega) (fun e => (h 46 (by rw [e]; simp)).1 rfl) (pcs_lit h) (by simpa using h1)
theorem rdP_lit {L : List UInt8} (h : Plain L) (h0 : L ≠ []) (h1 : L.length ≤ 16) : rdP L = L.map fun c => adm [c] := by
  rw [rdP, rd_lit h h0 h1, List.map_map]
  rfl
theorem each_lit {L l : List UInt8} (h : Plain L) (hl : L.length ≤ l.length) : each (L.map fun c => adm [c]) l = (l.take L.length == L) := by
  induction L generalizing l with
  | nil => cases l <;> rfl
  | cons c t ih =>
    cases l with
    | nil => simp at hl
    | cons b u =>
      rw [List.map_cons, List.length_cons, List.take_succ_cons]
      simp only [each]
      rw [ih (fun x hx => h x (by simp [hx])) (by simpa using hl), adm_one (h c (by simp)).1]
      rw [Bool.eq_iff_iff]
      simp only [Bool.and_eq_true, beq_iff_eq, List.cons.injEq]
      exact ⟨fun e => ⟨e.1.symm, e.2⟩, fun e => ⟨e.1.symm, e.2⟩⟩
theorem starts_lit {L l : List UInt8} (h : Plain L) (h0 : L ≠ []) (h1 : L.length ≤ 16) (hl : L.length ≤ l.length) : startsB (rdP L) l = (l.take L.length == L) := by
  unfold startsB
  rw [rdP_lit h h0 h1, List.length_map, decide_eq_true hl, Bool.true_and, each_lit h (by simp; omega), List.take_take, Nat.min_self]
theorem ends_lit {L l : List UInt8} (h : Plain L) (h0 : L ≠ []) (h1 : L.length ≤ 16) (hl : L.length ≤ l.length) : endsB (rdP L) l = (l.drop (l.length - L.length) == L) := by
  unfold endsB
  rw [rdP_lit h h0 h1, List.length_map, decide_eq_true hl, Bool.true_and, each_lit h (by simp; omega), List.take_of_length_le (by simp; omega)]
theorem starts_few {L l : List UInt8} (h : Plain L) (h0 : L ≠ []) (h1 : L.length ≤ 16) (hl : l.length < L.length) : startsB (rdP L) l = false := by
  unfold startsB
  rw [rdP_lit h h0 h1, List.length_map, decide_eq_false (by omega), Bool.false_and]
theorem ends_few {L l : List UInt8} (h : Plain L) (h0 : L ≠ []) (h1 : L.length ≤ 16) (hl : l.length < L.length) : endsB (rdP L) l = false := by
  unfold endsB
  rw [rdP_lit h h0 h1, List.length_map, decide_eq_false (by omega), Bool.false_and]
theorem app_list (a b : ByteArray) : (a ++ b).data.toList = a.data.toList ++ b.data.toList := by simp
theorem starts_app {L l : List UInt8} (h : Plain L) (h0 : L ≠ []) (h1 : L.length ≤ 16) : startsB (rdP L) (L ++ l) = true := by
  rw [starts_lit h h0 h1 (by simp), List.take_left]
  simp
theorem ends_app {L l : List UInt8} (h : Plain L) (h0 : L ≠ []) (h1 : L.length ≤ 16) : endsB (rdP L) (l ++ L) = true := by
  rw [ends_lit h h0 h1 (by simp)]
  have : (l ++ L).length - L.length = l.length := by simp
  rw [this, List.drop_left]
  simp
theorem plain_snoc {L : List UInt8} {c : UInt8} (h : Plain L) (h1 : c ≠ 46) (h2 : c ≠ 91) : Plain (L ++ [c]) := by
  intro x hx
  rcases List.mem_append.1 hx with hx | hx
  · exact h x hx
  · rw [List.mem_singleton.1 hx]
    exact ⟨h1, h2⟩
theorem str_snoc (L : List UInt8) (s : ByteArray) (k : Nat) (h : k < s.size) : str L ++ s.extract k (k + 1) = str (L ++ [s[k]]) := by
  apply ByteArray.ext
  apply Array.toList_inj.1
  rw [app_list, str_list, str_list, extract_str, str_list, drop_cons s k h, show k + 1 - k = 1 by omega]
  simp
end Pt
end Go.Proofs.Ytgaagbjbolfbjab
