/- Contract: lines.faultOf answers the first fault of the rows; nothing old in memory turns. -/
import Derived.Test.YtaaonaaciomijabDoorShM
namespace Go.Proofs.YtaaonaaciomijabDoor
open Go.RowKit
namespace FltW
open FldW ShM

theorem reti {a b : Int} (h : a = b) : Ending.returned (.int .i64 a) = .returned (.int .i64 b) := by rw [h]
theorem ok_no {k j : Nat} {f : ByteArray} (h : CntW.stands f.data.toList = false) : ok k j f = false := by simp [ok, h]
theorem ok_mark {f : ByteArray} {k j : Nat} (hk : k = 0) (hj : j = 0) (h : CntW.stands f.data.toList = true) : ok k j f = !Lib.hasPrefix f.data.toList [239, 187, 191] := by subst hk; subst hj; simp [ok, h, ShM.mark]
theorem ok_later {f : ByteArray} {k j : Nat} (hkj : ¬ (k = 0 ∧ j = 0)) (h : CntW.stands f.data.toList = true) : ok k j f = true := by
  unfold ok
  rw [h]
  by_cases hk : k = 0
  · have hj : ¬ j = 0 := fun e => hkj ⟨hk, e⟩
    simp [hj]
  · simp [hk]

set_option maxHeartbeats 4000000 in
theorem fault_any (R : List (List ByteArray)) (v : Value) (w : World) (hR : IsRows w v R) (hsz : ∀ r ∈ R, ∀ f ∈ r, f.size < 4294967281) :
    Calls Tryd.prog 33 #[v] w fun e w' => e = .returned (.int .i64 (fault 0 R)) ∧ Below w.heap.size w w' := by
  obtain ⟨ao, cap, rfl, hm, _, hcell⟩ := hR.form
  have HC := hide hcell
  have HSZ := hide hsz
  clear hcell hsz hR
  generalize hn : R.length = n at *
  have HNn := hide hn
  clear hn
  unfold maxLen at hm
  go_enter Tryd.func33, Tryd.ntmps33
  go_wp2
  go_loopw [10] (fun i wr => ∃ k : Nat, k ≤ n ∧ i = .int .i64 k ∧ Below w.heap.size w wr ∧ Hid (fault k (R.drop k) = fault 0 R)) (fun i _ => n - (intOf i).toNat)
  case atStart => exact ⟨0, Nat.zero_le _, rfl, Below.refl _ _, by rw [Hid, List.drop_zero]⟩
  case round =>
    obtain ⟨k, hk, rfl, hB, HF⟩ := hrel
    by_cases hlt : k < n
    · obtain ⟨r, hr⟩ : ∃ r, R[k]? = some r := ⟨_, List.getElem?_eq_getElem (by rw [unhide HNn]; exact hlt)⟩
      obtain ⟨g, off, u, rfl, hg, hcu, hru⟩ := unhide HC k r hr
      have hcu2 : wr.cell? ⟨g, off + k, none⟩ = some u := (hB.cell (p := ⟨g, off + k, none⟩) hg).trans hcu
      obtain ⟨ao2, cap2, rfl, hm2, _, hcell2⟩ := row_form hru
      have HC2 := hide hcell2
      have HSr := hide (unhide HSZ r (List.mem_of_getElem? hr))
      have HE := hide (fun h => (unhide HF).symm.trans (fault_empty hr h))
      have HBd := hide (fun h0 h => (unhide HF).symm.trans (fault_bad hr h0 h))
      have HGd := hide (fun h0 h => (fault_good hr h0 h).symm.trans (unhide HF))
      have hlk : (k : Int) < (n : Int) := by omega
      clear hcell2 hru hcu hr HF
      unfold maxLen at hm2
      generalize hz : r.length = z at *
      have HZ := hide hz
      clear hz
      by_cases hz0 : z = 0
      · have h0 : ((z : Int) == 0) = true := by rw [beq_iff_eq]; omega
        have HA := hide (unhide HE hz0)
        clear HE HBd HGd hz0
        go_wp2
        go_ret
        exact ⟨reti (unhide HA).symm, hB⟩
      · have h0 : ((z : Int) == 0) = false := by rw [beq_eq_false_iff_ne]; omega
        have HBd2 := hide (unhide HBd hz0)
        have HGd2 := hide (unhide HGd hz0)
        clear HE HBd HGd
        obtain ⟨V0, hV0⟩ : ∃ V0, V0 = wr := ⟨_, rfl⟩
        subst hV0
        have HB0 := hide hB
        clear hB
        go_wp2
        go_loopw [20] (fun i wr => ∃ j : Nat, j ≤ z ∧ i = .int .i64 j ∧ Below w.heap.size w wr ∧ Hid (rowOk k j (r.drop j) = rowOk k 0 r)) (fun i _ => z - (intOf i).toNat)
        case atStart => exact ⟨0, Nat.zero_le _, rfl, unhide HB0, by rw [Hid, List.drop_zero]⟩
        case round =>
          obtain ⟨j, hj, rfl, hB, HF⟩ := hrel
          by_cases hjl : j < z
          · obtain ⟨f, hf⟩ : ∃ f, r[j]? = some f := ⟨_, List.getElem?_eq_getElem (by rw [unhide HZ]; exact hjl)⟩
            obtain ⟨g2, off2, rfl, hg2, hcf⟩ := unhide HC2 j f hf
            have hcf2 : wr.cell? ⟨g2, off2 + j, none⟩ = some (.string f) := (hB.cell (p := ⟨g2, off2 + j, none⟩) hg2).trans hcf
            have HST := hide (fun W => CntW.stand_any f W (unhide HSr f (List.mem_of_getElem? hf)))
            have HPX := hide (fun W => Tryd.strings_HasPrefix f ⟨#[239, 187, 191]⟩ W)
            have HOB := hide (fun h => (unhide HF).symm.trans (row_bad (k := k) hf h))
            have HOG := hide (fun h => (row_good (k := k) hf h).symm.trans (unhide HF))
            have hlj : (j : Int) < (z : Int) := by omega
            clear hcf hf HF
            cases hst : CntW.stands f.data.toList with
            | false =>
              have HA := hide (unhide HBd2 (unhide HOB (ok_no hst)))
              rw [hst] at HST
              clear hst HOB HOG HBd2 HGd2
              go_wp2_with (go_at_call 52; refine (unhide HST _).mono ?_; rintro e w2 ⟨rfl, hB2⟩)
              all_goals
                go_ret
                exact ⟨reti (unhide HA).symm, hB.trans (hB2.mono hB.size)⟩
            | true =>
              rw [hst] at HST
              by_cases hkj : k = 0 ∧ j = 0
              · have hOK := ok_mark hkj.1 hkj.2 hst
                have e1 : ((k : Int) == 0) = true := by rw [beq_iff_eq]; omega
                have e2 : ((j : Int) == 0) = true := by rw [beq_iff_eq]; omega
                cases hpx : Lib.hasPrefix f.data.toList [239, 187, 191] with
                | true =>
                  rw [hpx] at hOK
                  have HA := hide (unhide HBd2 (unhide HOB hOK))
                  have HPX2 : Hid (∀ W, Calls Tryd.prog 53 #[.string f, .string ⟨#[239, 187, 191]⟩] W fun e w' => e = .returned (.bool true) ∧ w' = W) := fun W => by
                    have h := unhide HPX W
                    rw [show (ByteArray.mk #[239, 187, 191]).data.toList = [239, 187, 191] from rfl, hpx] at h
                    exact h
                  clear hst HOB HOG HBd2 HGd2 hOK hpx HPX hkj
                  go_wp2_with (first | (go_at_call 52; refine (unhide HST _).mono ?_; rintro e w2 ⟨rfl, hB2⟩) | (go_at_call 53; refine (unhide HPX2 _).mono ?_; rintro e w3 ⟨rfl, hw⟩; subst hw))
                  go_ret
                  exact ⟨reti (unhide HA).symm, hB.trans (hB2.mono hB.size)⟩
                | false =>
                  rw [hpx] at hOK
                  have HA := hide (unhide HOG hOK)
                  have HPX2 : Hid (∀ W, Calls Tryd.prog 53 #[.string f, .string ⟨#[239, 187, 191]⟩] W fun e w' => e = .returned (.bool false) ∧ w' = W) := fun W => by
                    have h := unhide HPX W
                    rw [show (ByteArray.mk #[239, 187, 191]).data.toList = [239, 187, 191] from rfl, hpx] at h
                    exact h
                  clear hst HOB HOG HBd2 HGd2 hOK hpx HPX hkj
                  go_wp2_with (first | (go_at_call 52; refine (unhide HST _).mono ?_; rintro e w2 ⟨rfl, hB2⟩; have HB5 := hide (hB.trans (hB2.mono hB.size)); clear hB hB2) | (go_at_call 53; refine (unhide HPX2 _).mono ?_; rintro e w3 ⟨rfl, hw⟩; subst hw))
                  go_roundw
                  case rel => exact ⟨j + 1, by omega, by go_num, unhide HB5, HA⟩
                  case measure => simp [intOf]; omega
              · have HA := hide (unhide HOG (ok_later hkj hst))
                have e12 : ((k : Int) == 0) = false ∨ (((k : Int) == 0) = true ∧ ((j : Int) == 0) = false) := by
                  by_cases h : k = 0
                  · right
                    refine ⟨by rw [beq_iff_eq]; omega, ?_⟩
                    rw [beq_eq_false_iff_ne]
                    intro hj0
                    exact hkj ⟨h, by omega⟩
                  · left; rw [beq_eq_false_iff_ne]; omega
                clear hst HOB HOG HBd2 HGd2 HPX hkj
                rcases e12 with e1 | ⟨e1, e2⟩
                all_goals
                  go_wp2_with (go_at_call 52; refine (unhide HST _).mono ?_; rintro e w2 ⟨rfl, hB2⟩; have HB5 := hide (hB.trans (hB2.mono hB.size)); clear hB hB2)
                  go_roundw
                  case rel => exact ⟨j + 1, by omega, by go_num, unhide HB5, HA⟩
                  case measure => simp [intOf]; omega
          · have HA := hide (unhide HGd2 ((unhide HF).symm.trans (row_end (by rw [unhide HZ]; omega))))
            clear HF HBd2 HGd2
            go_wp2
            go_roundw
            case rel => exact ⟨k + 1, by omega, by go_num, hB, HA⟩
            case measure => simp [intOf]; omega
    · have HA := hide ((unhide HF).symm.trans (fault_end (by rw [unhide HNn]; omega)))
      clear HF
      go_wp2
      go_ret
      exact ⟨reti (unhide HA).symm, hB⟩
end FltW
end Go.Proofs.YtaaonaaciomijabDoor
