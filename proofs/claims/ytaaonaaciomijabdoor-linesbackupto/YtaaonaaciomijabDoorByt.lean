/- Small laws on lists of bytes that a call owns; no walk. -/
import Derived.Test.YtaaonaaciomijabDoorFldW
import Derived.Laws.IdiomStrings
import Derived.Laws.BytesArg
namespace Go.Proofs.YtaaonaaciomijabDoor
open Go.RowKit
namespace Byt
open FldW

def bytes (l : List UInt8) : List Value := l.map fun b => Value.int .u8 (b.toNat : Int)
theorem bytes_length (l : List UInt8) : (bytes l).length = l.length := by simp [bytes]
theorem bytes_snoc (l : List UInt8) (c : UInt8) : bytes (l ++ [c]) = bytes l ++ [.int .u8 (c.toNat : Int)] := by simp [bytes]
theorem info5 : (Tryd.prog.info? 5).map (fun i => (i.zero, i.size, i.bytes)) = some (some (.int .u8 0), 1, 1) := by kernel_rfl

theorem add_zero_off (g j : Nat) : (⟨g, 0, none⟩ : Addr).add j = ⟨g, j, none⟩ := by
  unfold Addr.add
  split
  · rename_i h; subst h; rfl
  · simp
theorem owns_cells {w : World} {B : Nat} {v : Value} {L : List UInt8} (h : w.ownsRow B 5 1 v L.length (bytes L)) (h0 : 0 < L.length) :
    ∃ g cap, v = .slice (some ⟨g, 0, none⟩) L.length cap ∧ g < w.heap.size ∧ ∀ j x, L[j]? = some x → w.cell? ⟨g, j, none⟩ = some (.int .u8 (x.toNat : Int)) := by
  have hc := h
  obtain ⟨hl, ⟨rfl, h1⟩ | ⟨g, cap, cur, rfl, hg, hh, hc1, hm, hsz, htk⟩⟩ := h
  · omega
  · refine ⟨g, cap, rfl, (Array.getElem?_eq_some_iff.1 hh).1, fun j x hj => ?_⟩
    have := hc.cells (g := g) rfl j (.int .u8 (x.toNat : Int)) (by simp [bytes, hj])
    rwa [add_zero_off] at this
theorem conv_owns {w : World} {B : Nat} {v : Value} {L : List UInt8} (h : w.ownsRow B 5 1 v L.length (bytes L)) :
    (convert 65 9 v).run Tryd.prog w = .ok (.string ⟨L.toArray⟩) w := by
  by_cases h0 : 0 < L.length
  · obtain ⟨g, cap, rfl, _, hcell⟩ := owns_cells h h0
    exact run_convert_bytes_back w 65 9 5 ⟨g, 0, none⟩ cap L Tryd.underlying65 Tryd.underlying5 Tryd.underlying9 (fun j hj => by rw [add_zero_off]; exact hcell j _ (List.getElem?_eq_getElem hj))
  · have : L = [] := List.eq_nil_of_length_eq_zero (by omega)
    subst this
    obtain ⟨hl, ⟨rfl, h1⟩ | ⟨g, cap, cur, rfl, hg, hh, hc1, hm, hsz, htk⟩⟩ := h
    · exact run_convert_bytes_nil w 65 5 Tryd.underlying65 Tryd.underlying5 0 0 9 Tryd.underlying9
    · exact run_convert_bytes_back w 65 9 5 ⟨g, 0, none⟩ cap [] Tryd.underlying65 Tryd.underlying5 Tryd.underlying9 (fun j hj => absurd hj (by simp))

theorem owns_ne {w : World} {B1 B2 : Nat} {e1 e2 : TypeId} {z1 z2 : Nat} {v1 v2 : Value} {n1 n2 : Nat} {x1 x2 : List Value} (h1 : w.ownsRow B1 e1 z1 v1 n1 x1) (h2 : w.ownsRow B2 e2 z2 v2 n2 x2) (he : e1 ≠ e2) : v1.ownBlock = none ∨ v1.ownBlock ≠ v2.ownBlock := by
  obtain ⟨_, ⟨rfl, _⟩ | ⟨g, cap, cur, rfl, hg, hh, _⟩⟩ := h1
  · exact .inl rfl
  · right
    obtain ⟨_, ⟨rfl, _⟩ | ⟨g', cap', cur', rfl, hg', hh', _⟩⟩ := h2
    · intro e; cases e
    · intro e
      obtain rfl : g = g' := by simpa [Value.ownBlock] using e
      rw [hh] at hh'
      have := Option.some.inj hh'
      injection this with _ h2 _
      exact he h2
end Byt
end Go.Proofs.YtaaonaaciomijabDoor
