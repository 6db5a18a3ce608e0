/- Layer 5: plays of a store: Append, Live, and any other kind. -/
import Derived.Test.YtdlmpogmoepkjaaDoorPlC
import Derived.Deep.RegionHeld3
namespace Go.Proofs.YtdlmpogmoepkjaaDoor
open Go.RowKit
namespace Rs
theorem infoS : (Tryd.prog.info? 9).map (fun i => (i.zero, i.size, i.bytes)) = some (some (.string ByteArray.empty), 1, 16) := by kernel_rfl
set_option maxRecDepth 100000 in
theorem copy_run {V : World} {ao : Option Addr} {cp : Nat} {L : List ByteArray} (h : Strs V (.slice ao L.length cp) L) (hl : L.length ≤ 8796093022208) (ty : TypeId) :
    ∃ v' V', (Builtin.append_ #[28, 28] ty #[.slice none 0 0, .slice ao L.length cp]).run Tryd.prog V = .ok v' V' ∧ Below V.heap.size V V' ∧ Strs V' v' L ∧ (∀ g off n c, v' = .slice (some ⟨g, off, none⟩) n c → V.heap.size ≤ g) ∧ ∃ a c, v' = .slice a L.length c := by
  obtain ⟨i, hi, hz⟩ := Option.map_eq_some_iff.1 infoS
  simp only [Prod.mk.injEq] at hz
  obtain ⟨hz0, hz1, hz2⟩ := hz
  obtain ⟨ao', cp', e, hn, hc⟩ := h
  injection e with e1 _ e2
  subst e1 e2
  rcases ao with _ | ad
  · have h0 : L = [] := by
      cases L with
      | nil => rfl
      | cons x t =>
        obtain ⟨g, off, e, _⟩ := hc (by simp)
        cases e
    subst h0
    refine ⟨.slice none 0 0, V, ?_, Below.refl _ _, ⟨none, 0, rfl, by simp, fun h => absurd h (by simp)⟩, fun g off n c e => (by cases e), none, 0, rfl⟩
    simp [Builtin.append_, run_underlying Tryd.underlying28, sizeOf, typeInfo, hi, Builtin.lenOf, Builtin.firstCells]
  · obtain ⟨v', V', hr, ho, hg, -, hat⟩ := run_append_own_at (P := Tryd.prog) V V.heap.size 28 ty 9 i (.string ByteArray.empty) 1 16 Tryd.underlying28 hi hz0 hz1 hz2 rfl (by decide) (.slice none 0 0) 0 [] (World.ownsRow_nil V V.heap.size 9 1) ad L.length cp (L.map Value.string) (by simp) (fun j u hu => by
      rw [List.getElem?_map, Option.map_eq_some_iff] at hu
      obtain ⟨x, hx, rfl⟩ := hu
      obtain ⟨g, off, e, _, hcc⟩ := hc (by have := (List.getElem?_eq_some_iff.1 hx).1; omega)
      injection e with e
      subst e
      exact (congrArg V.cell? (Addr.add_lit g off j)).trans (hcc j x hx)) (fun u hu => by obtain ⟨x, _, rfl⟩ := List.mem_map.1 hu; rfl) (by unfold maxLen; omega) (by omega) (Nat.le_refl _)
    have hb : Below V.heap.size V V' := (Below.refl _ V).grown hg (Nat.le_refl _) (fun k hk => by cases hk)
    simp only [Nat.zero_add, List.nil_append] at ho
    obtain ⟨a, c, rfl⟩ := own_slice ho
    refine ⟨_, V', hr, hb, ?_, fun g off n c e => ?_, a, c, rfl⟩
    · obtain ⟨_, ⟨e, e0⟩ | ⟨g, cap, cur, e, _, hg, hn2, _, hcs, hx⟩⟩ := ho
      · injection e with e _ _
        exact ⟨a, c, rfl, by omega, fun h0 => absurd e0 (by omega)⟩
      · injection e with e1 _ e3
        refine ⟨a, c, rfl, by omega, fun _ => ⟨g, 0, e1, (Array.getElem?_eq_some_iff.1 hg).1, fun j x hj => ?_⟩⟩
        have hjl := (List.getElem?_eq_some_iff.1 hj).1
        have h1 : cur.toList[j]? = (L.map Value.string)[j]? := by rw [← hx, List.getElem?_take, if_pos (by omega)]
        rw [Array.getElem?_toList, List.getElem?_map, hj] at h1
        simp [World.cell?, hg, h1]
    · rcases ho.2 with ⟨e0, _⟩ | ⟨g', cap, cur, e0, hbg, _⟩
      · rw [e] at e0; injection e0 with e0 _ _; cases e0
      · rw [e] at e0
        injection e0 with e0 _ _
        injection e0 with e0
        injection e0 with e1 _ _
        rw [e1]; exact hbg
end Rs
end Go.Proofs.YtdlmpogmoepkjaaDoor
