/- Layer 8: what it is that a list of texts came in. No walk. -/
import Derived.Test.YtamlfmohalkemaaZd
import Derived.Test.YtamlfmohalkemaaRows
import Derived.ProofKit
import Derived.OpenShut
import Derived.Deep.Slices
import Derived.SizedLaws
namespace Go.Proofs.Ytamlfmohalkemaa
open Go.RowKit
namespace Sm
theorem laidOut : laidOutB Try.prog = true := by kernel_rfl
section
variable {H : Type} {enc : TypeId × Value → H} {w : World}
theorem bulk_pos (d : DataW H) : 1 ≤ Rows.uptoBulk d := by
  cases d with
  | lit l => cases l <;> simp [Rows.uptoBulk]
  | _ => simp [Rows.uptoBulk]
theorem bulk_len : ∀ l : List (DataW H), l.length ≤ Rows.uptoBulkAll l
  | [] => by simp [Rows.uptoBulkAll]
  | d :: t => by
    have := bulk_len t
    have := bulk_pos d
    simp only [Rows.uptoBulkAll, List.length_cons]
    omega
theorem open_row {v : Value} {n : Nat} {d : DataW H} {p : List MemPlace} (h : DataW.trod enc Try.prog w 0 (fun _ => true) true n 24 [v] = some (d, p)) :
    ∃ L, CRow w v L (fun _ => True) ∧ L.length ≤ Rows.uptoBulk d ∧ ((d.weights Try.prog 24).all (· ≤ reachBytes) = true → L.length ≤ 8796093022208) := by
  rcases Go.Deep.open_slice1 Try.underlying24 (by kernel_rfl) h with ⟨hcs, hx⟩ | ⟨x, len', cap', m, n', V, D, Pl, hcs, _, hl, hm, hmm, hx, hV⟩
  · obtain rfl : v = .slice none 0 0 := by simpa using hcs
    exact ⟨[], ⟨none, 0, rfl, by simp, fun h => absurd h (by simp)⟩, by simp, by simp⟩
  · obtain rfl : v = .slice (some x) len' cap' := by simpa using hcs
    have hm2 : m = cap' := by simpa using hmm
    subst hm2
    have hs : ∀ i, i < m → ∃ s : ByteArray, V i = .string s := fun i hi => by
      obtain ⟨s, hs, _⟩ := DataW.trod_string Try.underlying9 (hV i hi).2
      exact ⟨s, by simpa using hs⟩
    have hd : d = .slice ((List.range len').map D) ((List.range (m - len')).map fun j => D (len' + j)) := by simpa using congrArg Prod.fst hx
    have hlen : (d.weights Try.prog 24).all (· ≤ reachBytes) = true → len' ≤ 8796093022208 := fun hz => by
      have hw : (len' + (m - len')) * 16 ≤ reachBytes := by
        have := List.all_eq_true.1 hz ((len' + (m - len')) * 16) (by
          rw [hd]
          simp only [DataW.weights, Try.underlying24, List.length_map, List.length_range]
          have e : Try.prog.bytesOf 9 = 16 := by kernel_rfl
          rw [e]
          exact List.mem_cons_self ..)
        simpa using this
      unfold reachBytes at hw; omega
    let L := (List.range len').map fun i => match V i with | .string s => s | _ => ByteArray.empty
    have hLl : L.length = len' := by simp [L]
    have hcell : ∀ (j : Nat) s, L[j]? = some s → w.cell? (x.add j) = some (.string s) := fun j s hj => by
      have hjl : j < len' := by rw [← hLl]; exact (List.getElem?_eq_some_iff.1 hj).1
      obtain ⟨s', hs'⟩ := hs j (by omega)
      have hc := (hV j (by omega)).1
      simp only [L, List.getElem?_map, List.getElem?_range hjl, Option.map_some, hs', Option.some.injEq] at hj
      rw [hc, hs', hj]
    refine ⟨L, ⟨some x, m, by rw [hLl], by omega, fun h0 => ?_⟩, ?_, fun hz => by rw [hLl]; exact hlen hz⟩
    · have h00 := hcell 0 L[0] (List.getElem?_eq_getElem h0)
      obtain ⟨b, off, spot⟩ := x
      have hspot : spot = none := by simpa [Addr.add] using World.cell?_spot h00
      subst hspot
      exact ⟨b, off, rfl, trivial, World.block_lt_of_cell? w _ h00, fun j s hj => by
        have := hcell j s hj
        rwa [Go.WideShapes.add_plain] at this⟩
    · rw [hLl, hd, Rows.uptoBulk]
      have := bulk_len ((List.range len').map D)
      simp at this
      omega
theorem open_texts {a : Option Addr} {len cap : Nat} {d : DataW H} {p : List MemPlace} (h : DataW.Trod enc Try.prog w 0 (fun _ => true) true 24 (.slice a len cap) d p) (hz : (d.weights Try.prog 24).all (· ≤ reachBytes) = true) :
    ∃ L, CRow w (.slice a len cap) L (fun _ => True) ∧ L.length ≤ 8796093022208 := by
  obtain ⟨fuel, hf⟩ := h
  obtain ⟨L, h1, _, h3⟩ := open_row (v := .slice a len cap) hf
  exact ⟨L, h1, h3 hz⟩
theorem open_texts8 {a : Option Addr} {len cap : Nat} {d : DataW H} {p : List MemPlace} (h : DataW.Trod enc Try.prog w 0 (fun _ => true) true 24 (.slice a len cap) d p) :
    ∃ L, CRow w (.slice a len cap) L (fun _ => True) ∧ L.length ≤ Rows.uptoBulk d := by
  obtain ⟨fuel, hf⟩ := h
  obtain ⟨L, h1, h2, _⟩ := open_row (v := .slice a len cap) hf
  exact ⟨L, h1, h2⟩
end
end Sm
end Go.Proofs.Ytamlfmohalkemaa
