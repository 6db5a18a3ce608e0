/- What it is that groups of flags that came in lie in memory, and how big they are; no walk. -/
import Derived.Test.YtaaonaaciomijabDoorArgB
import Derived.Test.YtaaonaaciomijabDoorArgF
import Derived.Test.YtaaonaaciomijabDoorFoW
namespace Go.Proofs.YtaaonaaciomijabDoor
open Go.RowKit
namespace ArgG
open ArgF
section
variable {H : Type} {enc : TypeId × Value → H} {w : World}
/-- one group with what it holds -/
structure Gr (w : World) where
  v : Value
  l : List Int
  s : List Int
  nil : Bool
  arg : So.FArg w v l
  bnd : ∀ x ∈ l, 0 ≤ x ∧ x ≤ 65535
  emp : nil = true → l = []
def datG (x : Gr w) : DataW H := if x.nil then .nil else .slice (x.l.map datF) (x.s.map datF)
theorem el_group (n : Nat) (u : Value) (d : DataW H) (p : List MemPlace) (h : DataW.trod enc Tryd.prog w 0 (fun _ => true) true n 22 [u] = some (d, p)) : ∃ x : Gr w, u = x.v ∧ d = datG x := by
  obtain ⟨L, S, h1, h2, ⟨rfl, h3⟩ | rfl⟩ := open_flags h
  · exact ⟨⟨u, L, S, true, h1, h2, fun _ => h3⟩, rfl, rfl⟩
  · exact ⟨⟨u, L, S, false, h1, h2, fun h => by cases h⟩, rfl, rfl⟩
theorem open_groups {a : Option Addr} {len cap : Nat} {d : DataW H} {p : List MemPlace} (h : DataW.Trod enc Tryd.prog w 0 (fun _ => true) true 23 (.slice a len cap) d p) :
    ∃ L S : List (Gr w), So.FRows w (.slice a len cap) (L.map Gr.l) ∧ (∀ g ∈ L.map Gr.l, ∀ x ∈ g, 0 ≤ x ∧ x ≤ 65535) ∧ ((d = .nil ∧ L = []) ∨ d = .slice (L.map datG) (S.map datG)) := by
  obtain ⟨L, S, hA, hD⟩ := ArgB.open_arg (fun x : Gr w => x.v) datG Tryd.underlying23 (by kernel_rfl) (fun n u d p hh => el_group n u d p hh) h
  refine ⟨L, S, ?_, fun g hg => ?_, hD⟩
  · obtain ⟨ao, c, e1, e2, e3, e4⟩ := hA
    refine ⟨ao, c, by simpa using e1, by simpa using e2, by simpa using e3, fun j l hl => ?_⟩
    simp only [List.getElem?_map, Option.map_eq_some_iff] at hl
    obtain ⟨y, hy, rfl⟩ := hl
    have hj : j < L.length := (List.getElem?_eq_some_iff.1 hy).1
    obtain ⟨g, off, e5, hg, hc⟩ := e4 (by omega)
    exact ⟨g, off, y.v, e5, hg, hc j y hy, y.arg⟩
  · obtain ⟨y, _, rfl⟩ := List.mem_map.1 hg
    exact y.bnd
theorem bulk_group (x : Gr w) : x.l.length + 1 ≤ Rows.uptoBulk (H := H) (datG x) := by
  unfold datG
  split
  · rename_i hn
    rw [x.emp hn]
    simp [Rows.uptoBulk]
  · have := bulk_flags (H := H) x.l
    simp only [Rows.uptoBulk]
    omega
theorem bulk_groups (L : List (Gr w)) : So.sumL (L.map Gr.l) + L.length ≤ Rows.uptoBulkAll (H := H) (L.map datG) := by
  induction L with
  | nil => simp [So.sumL]
  | cons x t ih =>
    have := bulk_group (H := H) x
    simp only [List.map_cons, Rows.uptoBulkAll, List.length_cons]
    simp only [So.sumL, List.map_cons, List.sum_cons] at ih ⊢
    omega
theorem bulk_arg {d : DataW H} {L S : List (Gr w)} (hd : (d = .nil ∧ L = []) ∨ d = .slice (L.map datG) (S.map datG)) : So.sumL (L.map Gr.l) + (L.map Gr.l).length ≤ Rows.uptoBulk d := by
  rcases hd with ⟨_, rfl⟩ | rfl
  · simp [So.sumL]
  · have := bulk_groups (H := H) L
    simp only [Rows.uptoBulk]
    rw [List.length_map]
    omega
end
end ArgG
end Go.Proofs.YtaaonaaciomijabDoor
