/- Layer 5: the failures that a row lists. -/
import Derived.Test.YtbapnoafjcipjaaGreatDoorLe
namespace Go.Proofs.YtbapnoafjcipjaaGreatDoor
open Go.RowKit Go.ChangeShapes
namespace Rs
def listed : List (String × DataW Unit) := [("hornbook/api.FailNil", Rows.laid_hornbook_api_FailNil), ("hornbook/api.FailLimits", Rows.laid_hornbook_api_FailLimits), ("hornbook/api.FailNoRun", Rows.laid_hornbook_api_FailNoRun), ("hornbook/api.FailSealed", Rows.laid_hornbook_api_FailSealed), ("hornbook/api.FailOpen", Rows.laid_hornbook_api_FailOpen), ("hornbook/api.FailRange", Rows.laid_hornbook_api_FailRange), ("hornbook/api.FailFull", Rows.laid_hornbook_api_FailFull), ("hornbook/api.FailSpent", Rows.laid_hornbook_api_FailSpent), ("hornbook/api.FailBroken", Rows.laid_hornbook_api_FailBroken), ("hornbook/api.FailRecord", Rows.laid_hornbook_api_FailRecord), ("hornbook/api.FailSame", Rows.laid_hornbook_api_FailSame), ("hornbook/api.FailClosed", Rows.laid_hornbook_api_FailClosed)]
def codes : List Nat := [1, 2, 3, 4, 5, 6, 7, 8, 9, 10, 12, 13]
theorem gs_of_laid {W : World} (h : laidMetH Tryz.prog listed W) : ∃ E, Gs W E (fun _ => False) ∧ Ap W E codes ∧ W.cell? ⟨2, 0, none⟩ = some (er E 2) ∧ W.cell? ⟨5, 0, none⟩ = some (er E 5) ∧ W.cell? ⟨10, 0, none⟩ = some (er E 6) ∧ W.cell? ⟨3, 0, none⟩ = some (er E 10) ∧ W.cell? ⟨9, 0, none⟩ = some (er E 12) ∧ W.cell? ⟨0, 0, none⟩ = some (er E 13) := by
  have h0 : laidMet Tryz.prog listed W := h
  obtain ⟨a1, s1, c1, k1, t1, b1⟩ := sent (g := 1) h0 (by kernel_rfl) (by kernel_rfl)
  have h1 := h0.tail
  obtain ⟨a2, s2, c2, k2, t2, b2⟩ := sent (g := 2) h1 (by kernel_rfl) (by kernel_rfl)
  have h2 := h1.tail
  obtain ⟨a3, s3, c3, k3, t3, b3⟩ := sent (g := 4) h2 (by kernel_rfl) (by kernel_rfl)
  have h3 := h2.tail
  obtain ⟨a4, s4, c4, k4, t4, b4⟩ := sent (g := 11) h3 (by kernel_rfl) (by kernel_rfl)
  have h4 := h3.tail
  obtain ⟨a5, s5, c5, k5, t5, b5⟩ := sent (g := 5) h4 (by kernel_rfl) (by kernel_rfl)
  have h5 := h4.tail
  obtain ⟨a6, s6, c6, k6, t6, b6⟩ := sent (g := 10) h5 (by kernel_rfl) (by kernel_rfl)
  have h6 := h5.tail
  obtain ⟨a7, s7, c7, k7, t7, b7⟩ := sent (g := 6) h6 (by kernel_rfl) (by kernel_rfl)
  have h7 := h6.tail
  obtain ⟨a8, s8, c8, k8, t8, b8⟩ := sent (g := 7) h7 (by kernel_rfl) (by kernel_rfl)
  have h8 := h7.tail
  obtain ⟨a9, s9, c9, k9, t9, b9⟩ := sent (g := 8) h8 (by kernel_rfl) (by kernel_rfl)
  have h9 := h8.tail
  obtain ⟨a10, s10, c10, k10, t10, b10⟩ := sent (g := 3) h9 (by kernel_rfl) (by kernel_rfl)
  have h10 := h9.tail
  obtain ⟨a12, s12, c12, k12, t12, b12⟩ := sent (g := 9) h10 (by kernel_rfl) (by kernel_rfl)
  have h11 := h10.tail
  obtain ⟨a13, s13, c13, k13, t13, b13⟩ := sent (g := 0) h11 (by kernel_rfl) (by kernel_rfl)
  let E : Nat → Addr := fun i => if i = 1 then a1 else if i = 2 then a2 else if i = 3 then a3 else if i = 4 then a4 else if i = 5 then a5 else if i = 6 then a6 else if i = 7 then a7 else if i = 8 then a8 else if i = 9 then a9 else if i = 10 then a10 else if i = 12 then a12 else a13
  have ne : ∀ {a b : Addr} {s t : ByteArray}, W.cell? a = some (.string s) → W.cell? b = some (.string t) → s.data.toList ≠ t.data.toList → a ≠ b := fun h1 h2 h3 e => by
    subst e
    rw [h1] at h2
    injection h2 with h2
    injection h2 with h2
    exact h3 (by rw [h2])
  have lt : ∀ {g : Nat} {v : Value}, W.cell? ⟨g, 0, none⟩ = some v → g < W.heap.size := fun h1 => World.block_lt_of_cell? _ _ h1
  refine ⟨E, ⟨c1, c3, c4, c7, c8, c9, ?_, fun _ h => h.elim⟩, ⟨fun i hi j hj hij => ?_, fun i hi => ?_⟩, c2, c5, c6, c10, c12, c13⟩
  · have q1 := lt c1
    have q2 := lt c2
    have q3 := lt c3
    have q4 := lt c4
    have q5 := lt c5
    have q6 := lt c6
    have q7 := lt c7
    have q8 := lt c8
    have q9 := lt c9
    have q10 := lt c10
    have q12 := lt c12
    have q13 := lt c13
    omega
  · simp only [codes, List.mem_cons, List.not_mem_nil, or_false] at hi hj
    rcases hi with rfl | rfl | rfl | rfl | rfl | rfl | rfl | rfl | rfl | rfl | rfl | rfl <;> rcases hj with rfl | rfl | rfl | rfl | rfl | rfl | rfl | rfl | rfl | rfl | rfl | rfl <;> first | exact absurd rfl hij | skip
    · exact ne k1 k2 (by rw [t1, t2]; decide)
    · exact ne k1 k3 (by rw [t1, t3]; decide)
    · exact ne k1 k4 (by rw [t1, t4]; decide)
    · exact ne k1 k5 (by rw [t1, t5]; decide)
    · exact ne k1 k6 (by rw [t1, t6]; decide)
    · exact ne k1 k7 (by rw [t1, t7]; decide)
    · exact ne k1 k8 (by rw [t1, t8]; decide)
    · exact ne k1 k9 (by rw [t1, t9]; decide)
    · exact ne k1 k10 (by rw [t1, t10]; decide)
    · exact ne k1 k12 (by rw [t1, t12]; decide)
    · exact ne k1 k13 (by rw [t1, t13]; decide)
    · exact ne k2 k1 (by rw [t2, t1]; decide)
    · exact ne k2 k3 (by rw [t2, t3]; decide)
    · exact ne k2 k4 (by rw [t2, t4]; decide)
    · exact ne k2 k5 (by rw [t2, t5]; decide)
    · exact ne k2 k6 (by rw [t2, t6]; decide)
    · exact ne k2 k7 (by rw [t2, t7]; decide)
    · exact ne k2 k8 (by rw [t2, t8]; decide)
    · exact ne k2 k9 (by rw [t2, t9]; decide)
    · exact ne k2 k10 (by rw [t2, t10]; decide)
    · exact ne k2 k12 (by rw [t2, t12]; decide)
    · exact ne k2 k13 (by rw [t2, t13]; decide)
    · exact ne k3 k1 (by rw [t3, t1]; decide)
    · exact ne k3 k2 (by rw [t3, t2]; decide)
    · exact ne k3 k4 (by rw [t3, t4]; decide)
    · exact ne k3 k5 (by rw [t3, t5]; decide)
    · exact ne k3 k6 (by rw [t3, t6]; decide)
    · exact ne k3 k7 (by rw [t3, t7]; decide)
    · exact ne k3 k8 (by rw [t3, t8]; decide)
    · exact ne k3 k9 (by rw [t3, t9]; decide)
    · exact ne k3 k10 (by rw [t3, t10]; decide)
    · exact ne k3 k12 (by rw [t3, t12]; decide)
    · exact ne k3 k13 (by rw [t3, t13]; decide)
    · exact ne k4 k1 (by rw [t4, t1]; decide)
    · exact ne k4 k2 (by rw [t4, t2]; decide)
    · exact ne k4 k3 (by rw [t4, t3]; decide)
    · exact ne k4 k5 (by rw [t4, t5]; decide)
    · exact ne k4 k6 (by rw [t4, t6]; decide)
    · exact ne k4 k7 (by rw [t4, t7]; decide)
    · exact ne k4 k8 (by rw [t4, t8]; decide)
    · exact ne k4 k9 (by rw [t4, t9]; decide)
    · exact ne k4 k10 (by rw [t4, t10]; decide)
    · exact ne k4 k12 (by rw [t4, t12]; decide)
    · exact ne k4 k13 (by rw [t4, t13]; decide)
    · exact ne k5 k1 (by rw [t5, t1]; decide)
    · exact ne k5 k2 (by rw [t5, t2]; decide)
    · exact ne k5 k3 (by rw [t5, t3]; decide)
    · exact ne k5 k4 (by rw [t5, t4]; decide)
    · exact ne k5 k6 (by rw [t5, t6]; decide)
    · exact ne k5 k7 (by rw [t5, t7]; decide)
    · exact ne k5 k8 (by rw [t5, t8]; decide)
    · exact ne k5 k9 (by rw [t5, t9]; decide)
    · exact ne k5 k10 (by rw [t5, t10]; decide)
    · exact ne k5 k12 (by rw [t5, t12]; decide)
    · exact ne k5 k13 (by rw [t5, t13]; decide)
    · exact ne k6 k1 (by rw [t6, t1]; decide)
    · exact ne k6 k2 (by rw [t6, t2]; decide)
    · exact ne k6 k3 (by rw [t6, t3]; decide)
    · exact ne k6 k4 (by rw [t6, t4]; decide)
    · exact ne k6 k5 (by rw [t6, t5]; decide)
    · exact ne k6 k7 (by rw [t6, t7]; decide)
    · exact ne k6 k8 (by rw [t6, t8]; decide)
    · exact ne k6 k9 (by rw [t6, t9]; decide)
    · exact ne k6 k10 (by rw [t6, t10]; decide)
    · exact ne k6 k12 (by rw [t6, t12]; decide)
    · exact ne k6 k13 (by rw [t6, t13]; decide)
    · exact ne k7 k1 (by rw [t7, t1]; decide)
    · exact ne k7 k2 (by rw [t7, t2]; decide)
    · exact ne k7 k3 (by rw [t7, t3]; decide)
    · exact ne k7 k4 (by rw [t7, t4]; decide)
    · exact ne k7 k5 (by rw [t7, t5]; decide)
    · exact ne k7 k6 (by rw [t7, t6]; decide)
    · exact ne k7 k8 (by rw [t7, t8]; decide)
    · exact ne k7 k9 (by rw [t7, t9]; decide)
    · exact ne k7 k10 (by rw [t7, t10]; decide)
    · exact ne k7 k12 (by rw [t7, t12]; decide)
    · exact ne k7 k13 (by rw [t7, t13]; decide)
    · exact ne k8 k1 (by rw [t8, t1]; decide)
    · exact ne k8 k2 (by rw [t8, t2]; decide)
    · exact ne k8 k3 (by rw [t8, t3]; decide)
    · exact ne k8 k4 (by rw [t8, t4]; decide)
    · exact ne k8 k5 (by rw [t8, t5]; decide)
    · exact ne k8 k6 (by rw [t8, t6]; decide)
    · exact ne k8 k7 (by rw [t8, t7]; decide)
    · exact ne k8 k9 (by rw [t8, t9]; decide)
    · exact ne k8 k10 (by rw [t8, t10]; decide)
    · exact ne k8 k12 (by rw [t8, t12]; decide)
    · exact ne k8 k13 (by rw [t8, t13]; decide)
    · exact ne k9 k1 (by rw [t9, t1]; decide)
    · exact ne k9 k2 (by rw [t9, t2]; decide)
    · exact ne k9 k3 (by rw [t9, t3]; decide)
    · exact ne k9 k4 (by rw [t9, t4]; decide)
    · exact ne k9 k5 (by rw [t9, t5]; decide)
    · exact ne k9 k6 (by rw [t9, t6]; decide)
    · exact ne k9 k7 (by rw [t9, t7]; decide)
    · exact ne k9 k8 (by rw [t9, t8]; decide)
    · exact ne k9 k10 (by rw [t9, t10]; decide)
    · exact ne k9 k12 (by rw [t9, t12]; decide)
    · exact ne k9 k13 (by rw [t9, t13]; decide)
    · exact ne k10 k1 (by rw [t10, t1]; decide)
    · exact ne k10 k2 (by rw [t10, t2]; decide)
    · exact ne k10 k3 (by rw [t10, t3]; decide)
    · exact ne k10 k4 (by rw [t10, t4]; decide)
    · exact ne k10 k5 (by rw [t10, t5]; decide)
    · exact ne k10 k6 (by rw [t10, t6]; decide)
    · exact ne k10 k7 (by rw [t10, t7]; decide)
    · exact ne k10 k8 (by rw [t10, t8]; decide)
    · exact ne k10 k9 (by rw [t10, t9]; decide)
    · exact ne k10 k12 (by rw [t10, t12]; decide)
    · exact ne k10 k13 (by rw [t10, t13]; decide)
    · exact ne k12 k1 (by rw [t12, t1]; decide)
    · exact ne k12 k2 (by rw [t12, t2]; decide)
    · exact ne k12 k3 (by rw [t12, t3]; decide)
    · exact ne k12 k4 (by rw [t12, t4]; decide)
    · exact ne k12 k5 (by rw [t12, t5]; decide)
    · exact ne k12 k6 (by rw [t12, t6]; decide)
    · exact ne k12 k7 (by rw [t12, t7]; decide)
    · exact ne k12 k8 (by rw [t12, t8]; decide)
    · exact ne k12 k9 (by rw [t12, t9]; decide)
    · exact ne k12 k10 (by rw [t12, t10]; decide)
    · exact ne k12 k13 (by rw [t12, t13]; decide)
    · exact ne k13 k1 (by rw [t13, t1]; decide)
    · exact ne k13 k2 (by rw [t13, t2]; decide)
    · exact ne k13 k3 (by rw [t13, t3]; decide)
    · exact ne k13 k4 (by rw [t13, t4]; decide)
    · exact ne k13 k5 (by rw [t13, t5]; decide)
    · exact ne k13 k6 (by rw [t13, t6]; decide)
    · exact ne k13 k7 (by rw [t13, t7]; decide)
    · exact ne k13 k8 (by rw [t13, t8]; decide)
    · exact ne k13 k9 (by rw [t13, t9]; decide)
    · exact ne k13 k10 (by rw [t13, t10]; decide)
    · exact ne k13 k12 (by rw [t13, t12]; decide)
  · simp only [codes, List.mem_cons, List.not_mem_nil, or_false] at hi
    rcases hi with rfl | rfl | rfl | rfl | rfl | rfl | rfl | rfl | rfl | rfl | rfl | rfl
    · exact b1
    · exact b2
    · exact b3
    · exact b4
    · exact b5
    · exact b6
    · exact b7
    · exact b8
    · exact b9
    · exact b10
    · exact b12
    · exact b13
end Rs
end Go.Proofs.YtbapnoafjcipjaaGreatDoor
