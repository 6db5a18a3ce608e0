/- Contract: the wake-up call of the laws answers true and turns nothing old in memory. -/
import Derived.Test.YtaaonaaciomijabDoorNumW
import Derived.Test.YtaaonaaciomijabDoorFldW
namespace Go.Proofs.YtaaonaaciomijabDoor
open Go.RowKit
namespace Wake
open NumW FldW

set_option maxHeartbeats 1000000 in
set_option maxRecDepth 100000 in
theorem decimal41 (w : World) : Calls Tryd.prog 42 #[.int .i64 41] w fun e w' => e = .returned (.string ⟨#[52, 49]⟩) ∧ w' = w := by
  go_enter Tryd.func42, Tryd.ntmps42
  go_wp2
  go_ret
  refine ⟨?_, rfl⟩
  show Ending.returned (Value.string _) = _
  exact congrArg (fun l => Ending.returned (Value.string l)) (by decide +kernel)

theorem good907 : Num.good [57, 48, 55] 1000 = true := by decide
theorem val907 : Num.numVal [57, 48, 55] = 907 := by decide
theorem fieldsAB : Fld.fieldsOf [97, 32, 98] = [[97], [98]] := by decide
theorem number907 (w : World) : Calls Tryd.prog 40 #[.string ⟨#[57, 48, 55]⟩, .int .i64 1000] w fun e w' => e = .returned (.tuple #[.int .i64 907, .int .i64 0]) ∧ w' = w := by
  have h := number_any ⟨#[57, 48, 55]⟩ 1000 w (by decide) (by decide) (by decide)
  have e1 : Num.numN (ByteArray.mk #[57, 48, 55]).data.toList 1000 = 907 := by rw [Num.numN_good good907]; rfl
  have e2 : Num.numE (ByteArray.mk #[57, 48, 55]).data.toList 1000 = 0 := Num.numE_good good907
  rw [e1, e2] at h
  exact h
theorem fields2 (w : World) : Calls Tryd.prog 41 #[.string ⟨#[97, 32, 98]⟩] w fun e w' => ∃ g c, e = .returned (.slice (some ⟨g, 0, none⟩) 2 c) ∧ 2 ≤ c ∧ w'.cell? ⟨g, 0, none⟩ = some (.string ⟨#[97]⟩) ∧ w.heap.size ≤ g ∧ Below w.heap.size w w' := by
  refine (fields_any ⟨#[97, 32, 98]⟩ w (by decide)).mono ?_
  rintro e w' ⟨v, rfl, hown, hB⟩
  have e1 : Fld.fieldsOf (ByteArray.mk #[97, 32, 98]).data.toList = [[97], [98]] := fieldsAB
  rw [e1] at hown
  obtain ⟨hl, h | ⟨g, cap, cur, rfl, hg, hh, hc, hm, hsz, htk⟩⟩ := hown
  · exact absurd h.2 (by decide)
  · refine ⟨g, cap, rfl, hc, ?_, hg, hB⟩
    have h0 : cur[0]? = some (.string ⟨#[97]⟩) := by
      have := congrArg (fun l => l[0]?) htk
      simpa [vals, Fld.str] using this
    simp [World.cell?, hh, h0]

set_option maxHeartbeats 1000000 in
theorem wakes_any (w : World) : Calls Tryd.prog 24 #[] w fun e w' => e = .returned (.bool true) ∧ Below w.heap.size w w' := by
  go_enter Tryd.func24, Tryd.ntmps24
  go_wp2_with fail
  refine (number907 _).mono ?_
  rintro e w1 ⟨rfl, rfl⟩
  go_wp2_with fail
  refine (fields2 _).mono ?_
  rintro e w1 ⟨g, c, rfl, hc, hcell, hg, hB⟩
  go_wp2_with (go_at_call 42; refine (decimal41 _).mono ?_; rintro e w2 ⟨rfl, rfl⟩)
  go_ret
  exact ⟨rfl, hB⟩
end Wake
end Go.Proofs.YtaaonaaciomijabDoor
