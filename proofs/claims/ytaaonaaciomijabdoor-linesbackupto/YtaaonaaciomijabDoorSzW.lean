/- Contract: lines.size counts one byte behind each field; nothing in memory turns. -/
import Derived.Test.YtaaonaaciomijabDoorFltW
namespace Go.Proofs.YtaaonaaciomijabDoor
open Go.RowKit
namespace ShM
/-- the bytes of a row, one behind each field -/
def rt (r : List ByteArray) : Nat := (r.map fun f => f.size + 1).sum
def tot (R : List (List ByteArray)) : Nat := (R.map rt).sum
theorem rt_snoc {r : List ByteArray} {j : Nat} {f : ByteArray} (h : r[j]? = some f) : rt (r.take (j + 1)) = rt (r.take j) + (f.size + 1) := by
  obtain ⟨hj, e⟩ := List.getElem?_eq_some_iff.1 h
  rw [List.take_succ_eq_append_getElem hj, e]
  simp [rt]
theorem tot_snoc {R : List (List ByteArray)} {k : Nat} {r : List ByteArray} (h : R[k]? = some r) : tot (R.take (k + 1)) = tot (R.take k) + rt r := by
  obtain ⟨hj, e⟩ := List.getElem?_eq_some_iff.1 h
  rw [List.take_succ_eq_append_getElem hj, e]
  simp [tot]
theorem rt_le (r : List ByteArray) (j : Nat) : rt (r.take j) ≤ rt r := by
  have h : rt r = rt (r.take j) + rt (r.drop j) := by
    conv => lhs; rw [← List.take_append_drop j r]
    simp only [rt, List.map_append, List.sum_append]
  omega
theorem tot_le (R : List (List ByteArray)) (k : Nat) : tot (R.take k) ≤ tot R := by
  have h : tot R = tot (R.take k) + tot (R.drop k) := by
    conv => lhs; rw [← List.take_append_drop k R]
    simp only [tot, List.map_append, List.sum_append]
  omega
end ShM
namespace SzW
open FldW ShM

set_option maxHeartbeats 4000000 in
theorem size_any (R : List (List ByteArray)) (v : Value) (w : World) (hR : IsRows w v R) (hT : tot R ≤ 1099511627776) :
    Calls Tryd.prog 34 #[v] w fun e w' => e = .returned (.int .i64 ((tot R : Nat) : Int)) ∧ w' = w := by
  obtain ⟨ao, cap, rfl, hm, _, hcell⟩ := hR.form
  have HC := hide hcell
  clear hcell hR
  have HTL := hide (tot_le R)
  have HNf : Hid (R.take R.length = R) := List.take_length
  generalize hn : R.length = n at *
  have HNn := hide hn
  clear hn
  unfold maxLen at hm
  generalize ht : tot R = t at *
  have HT := hide ht
  clear ht
  go_enter Tryd.func34, Tryd.ntmps34
  go_wp2
  go_loop [3, 10] (fun s i => ∃ k : Nat, k ≤ n ∧ i = .int .i64 k ∧ s = .int .i64 ((tot (R.take k) : Nat) : Int)) (fun _ i => n - (intOf i).toNat)
  case atStart => exact ⟨0, Nat.zero_le _, rfl, rfl⟩
  case round =>
    obtain ⟨k, hk, rfl, rfl⟩ := hrel
    by_cases hlt : k < n
    · obtain ⟨r, hr⟩ : ∃ r, R[k]? = some r := ⟨_, List.getElem?_eq_getElem (by rw [unhide HNn]; exact hlt)⟩
      obtain ⟨g, off, u, rfl, hg, hcu, hru⟩ := unhide HC k r hr
      obtain ⟨ao2, cap2, rfl, hm2, _, hcell2⟩ := row_form hru
      have HC2 := hide hcell2
      have HTS := hide (tot_snoc hr)
      have hb := unhide HTL (k + 1)
      rw [tot_snoc hr] at hb
      have HRL := hide (rt_le r)
      have HRf : Hid (r.take r.length = r) := List.take_length
      have hlk : (k : Int) < (n : Int) := by omega
      clear hcell2 hru hr
      unfold maxLen at hm2
      generalize hz : r.length = z at *
      have HZ := hide hz
      clear hz
      generalize hp : tot (R.take k) = p at *
      clear hp
      generalize hq : rt r = q at *
      have HQ := hide hq
      clear hq
      go_wp2
      go_loop [3, 16] (fun s i => ∃ j : Nat, j ≤ z ∧ i = .int .i64 j ∧ s = .int .i64 ((p + rt (r.take j) : Nat) : Int)) (fun _ i => z - (intOf i).toNat)
      case atStart => exact ⟨0, Nat.zero_le _, rfl, rfl⟩
      case round =>
        obtain ⟨j, hj, rfl, rfl⟩ := hrel
        by_cases hjl : j < z
        · obtain ⟨f, hf⟩ : ∃ f, r[j]? = some f := ⟨_, List.getElem?_eq_getElem (by rw [unhide HZ]; exact hjl)⟩
          obtain ⟨g2, off2, rfl, hg2, hcf⟩ := unhide HC2 j f hf
          have HRS := hide (rt_snoc hf)
          have hb2 := unhide HRL (j + 1)
          rw [rt_snoc hf] at hb2
          have hlj : (j : Int) < (z : Int) := by omega
          clear hf
          generalize rt (r.take j) = y at *
          go_wp2
          go_round
          case rel => exact ⟨j + 1, by omega, by go_num, by rw [unhide HRS]; congr 1; omega⟩
          case measure => simp [intOf]; omega
        · have hjz : j = z := by omega
          have HA : Hid (p + rt (r.take j) = tot (R.take (k + 1))) := by rw [Hid, unhide HTS, hjz, unhide HRf, unhide HQ]
          generalize p + rt (r.take j) = y at *
          clear hjz
          go_wp2
          go_round
          case rel => exact ⟨k + 1, by omega, by go_num, by rw [unhide HA]⟩
          case measure => simp [intOf]; omega
    · have hkn : k = n := by omega
      have HA : Hid (tot (R.take k) = t) := by rw [Hid, hkn, unhide HNf, unhide HT]
      clear hkn
      generalize tot (R.take k) = p at *
      go_wp2
      go_ret
      exact ⟨by rw [unhide HA]; rfl, rfl⟩
end SzW
end Go.Proofs.YtaaonaaciomijabDoor
