/- Contracts: the document's own Value and One: the flag that a text writes; nothing in memory turns. -/
import Derived.Test.YtaaonaaciomijaaDoorOneW
import Derived.Test.YtaaonaaciomijaaDoorNumR
namespace Go.Proofs.YtaaonaaciomijaaDoor
open Go.RowKit
namespace One

theorem sign_any (c : UInt8) (w : World) : Calls Tryd.prog 45 #[.int .u8 (c.toNat : Int)] w fun e w' => e = .returned (.bool (sg c)) ∧ w' = w := by
  have HS : Hid (sg c = (decide ((33 : Int) ≤ (c.toNat : Int)) && decide ((c.toNat : Int) ≤ 126) && ((c.toNat : Int) != 47) && ((c.toNat : Int) != 44) && ((c.toNat : Int) != 35))) := sg_int c
  generalize sg c = b at *
  generalize (c.toNat : Int) = x at *
  go_enter Tryd.func45, Tryd.ntmps45
  by_cases h1 : (33 : Int) ≤ x
  · by_cases h2 : x ≤ 126
    · cases h3 : (x != 47)
      · go_wp2
        go_ret
        exact ⟨by rw [unhide HS]; simp [h1, h2, h3], rfl⟩
      · cases h4 : (x != 44)
        · go_wp2
          go_ret
          exact ⟨by rw [unhide HS]; simp [h1, h2, h3, h4], rfl⟩
        · go_wp2
          go_ret
          exact ⟨by rw [unhide HS]; simp [h1, h2, h3, h4], rfl⟩
    · go_wp2
      go_ret
      exact ⟨by rw [unhide HS]; simp; omega, rfl⟩
  · go_wp2
    go_ret
    exact ⟨by rw [unhide HS]; simp; omega, rfl⟩
set_option maxRecDepth 100000 in
set_option maxHeartbeats 4000000 in
theorem value_any (kind : Int) (s : ByteArray) (w : World) (hs : s.size ≤ maxLen) :
    Calls Tryd.prog 33 #[.int .i64 kind, .string s] w fun e w' => e = .returned (.int .i64 (val kind s.data.toList)) ∧ ∃ n, w' = w.drewN n := by
  by_cases h1 : kind = 1
  · subst h1
    by_cases hz : s.size = 1
    · obtain ⟨c, rfl⟩ := one_of hz
      have hcr := byte_range c
      have hc0 : (ByteArray.mk #[c])[0] = c := rfl
      have hsz1 : (ByteArray.mk #[c]).size = 1 := rfl
      cases hg : sg c
      · have HF : Hid (val 1 (ByteArray.mk #[c]).data.toList = 0) := by simp [Hid, val, hg]
        generalize val 1 (ByteArray.mk #[c]).data.toList = F at *
        go_enter Tryd.func33, Tryd.ntmps33
        go_wp2_with (go_at_call 45; refine (sign_any _ _).mono ?_; rintro e w1 ⟨rfl, hw1⟩; obtain rfl := hw1.symm; (try rw [hg]))
        go_ret
        exact ⟨by rw [unhide HF]; rfl, 0, rfl⟩
      · have HF : Hid (val 1 (ByteArray.mk #[c]).data.toList = (c.toNat : Int)) := by simp [Hid, val, hg]
        generalize val 1 (ByteArray.mk #[c]).data.toList = F at *
        go_enter Tryd.func33, Tryd.ntmps33
        go_wp2_with (go_at_call 45; refine (sign_any _ _).mono ?_; rintro e w1 ⟨rfl, hw1⟩; obtain rfl := hw1.symm; (try rw [hg]))
        go_ret
        exact ⟨by rw [unhide HF]; rfl, 0, rfl⟩
    · have HF : Hid (val 1 s.data.toList = 0) := val_not1 hz
      have hzz : ((s.size : Int) != 1) = true := by rw [bne_iff_ne]; omega
      generalize val 1 s.data.toList = F at *
      go_enter Tryd.func33, Tryd.ntmps33
      go_wp2
      go_ret
      exact ⟨by rw [unhide HF]; rfl, 0, rfl⟩
  · by_cases h2 : kind = 2
    · subst h2
      clear h1
      by_cases hz : s.size = 2
      · obtain ⟨c, d, rfl⟩ := two_of hz
        have hcr := byte_range c
        have hdr := byte_range d
        have hc0 : (ByteArray.mk #[c, d])[0] = c := rfl
        have hc1 : (ByteArray.mk #[c, d])[1] = d := rfl
        have hsz1 : (ByteArray.mk #[c, d]).size = 2 := rfl
        have HV : Hid (val 2 (ByteArray.mk #[c, d]).data.toList = if sg c && sg d then 256 * (c.toNat : Int) + (d.toNat : Int) else 0) := rfl
        generalize val 2 (ByteArray.mk #[c, d]).data.toList = F at *
        cases hg : sg c
        · have HF : Hid (F = 0) := by rw [Hid, unhide HV, hg]; rfl
          go_enter Tryd.func33, Tryd.ntmps33
          go_wp2_with (go_at_call 45; refine (sign_any _ _).mono ?_; rintro e w1 ⟨rfl, hw1⟩; obtain rfl := hw1.symm; (try rw [hg]))
          go_ret
          exact ⟨by rw [unhide HF]; rfl, 0, rfl⟩
        · cases hgd : sg d
          · have HF : Hid (F = 0) := by rw [Hid, unhide HV, hg, hgd]; rfl
            go_enter Tryd.func33, Tryd.ntmps33
            go_wp2_with (go_at_call 45; refine (sign_any _ _).mono ?_; rintro e w1 ⟨rfl, hw1⟩; obtain rfl := hw1.symm; (try rw [hg]); (try rw [hgd]))
            go_ret
            exact ⟨by rw [unhide HF]; rfl, 0, rfl⟩
          · have HF : Hid (F = 256 * (c.toNat : Int) + (d.toNat : Int)) := by rw [Hid, unhide HV, hg, hgd]; rfl
            go_enter Tryd.func33, Tryd.ntmps33
            go_wp2_with (go_at_call 45; refine (sign_any _ _).mono ?_; rintro e w1 ⟨rfl, hw1⟩; obtain rfl := hw1.symm; (try rw [hg]); (try rw [hgd]))
            go_quiet (fail)
            go_wp2
            go_ret
            exact ⟨by rw [unhide HF]; rfl, _, rfl⟩
      · have HF : Hid (val 2 s.data.toList = 0) := val_not2 hz
        have hzz : ((s.size : Int) != 2) = true := by rw [bne_iff_ne]; omega
        generalize val 2 s.data.toList = F at *
        go_enter Tryd.func33, Tryd.ntmps33
        go_wp2
        go_ret
        exact ⟨by rw [unhide HF]; rfl, 0, rfl⟩
    · have HN := hide (fun W => NumW.ref_any s 65535 W hs (by decide) (by decide))
      have hk1 : (kind == 1) = false := beq_eq_false_iff_ne.2 h1
      have hk2 : (kind == 2) = false := beq_eq_false_iff_ne.2 h2
      have HF : Hid (val kind s.data.toList = Num.numN s.data.toList 65535) := by show val kind s.data.toList = _; unfold val; rw [if_neg h1, if_neg h2]
      have hgood : Num.numE s.data.toList 65535 = 0 ∨ (Num.numE s.data.toList 65535 = 13 ∧ Num.numN s.data.toList 65535 = 0) := by
        unfold Num.numE Num.numN
        split
        · exact .inl rfl
        · exact .inr ⟨rfl, rfl⟩
      generalize val kind s.data.toList = F at *
      generalize Num.numN s.data.toList 65535 = N at *
      generalize Num.numE s.data.toList 65535 = X at *
      rcases hgood with rfl | ⟨rfl, rfl⟩
      · go_enter Tryd.func33, Tryd.ntmps33
        go_wp2_with (go_at_call 46; refine (unhide HN _).mono ?_; rintro e w1 ⟨rfl, hw1⟩; obtain rfl := hw1.symm)
        go_ret
        exact ⟨by rw [unhide HF]; rfl, 0, rfl⟩
      · go_enter Tryd.func33, Tryd.ntmps33
        go_wp2_with (go_at_call 46; refine (unhide HN _).mono ?_; rintro e w1 ⟨rfl, hw1⟩; obtain rfl := hw1.symm)
        go_ret
        exact ⟨by rw [unhide HF]; rfl, 0, rfl⟩

set_option maxRecDepth 100000 in
set_option maxHeartbeats 4000000 in
theorem refOne_any (kind : Int) (s : ByteArray) (w : World) (hs : s.size ≤ maxLen) :
    Calls Tryd.prog 9 #[.int .i64 kind, .string s] w fun e w' => e = .returned (.tuple #[.int .i64 (oneF kind s.data.toList), .int .i64 (oneE kind s.data.toList)]) ∧ ∃ n, w' = w.drewN n := by
  have HV := hide (fun W => value_any kind s W hs)
  have hk : isK kind = true ↔ (1 ≤ kind ∧ kind ≤ 3) := by unfold isK; simp
  have HF : Hid (oneF kind s.data.toList = if isK kind then val kind s.data.toList else 0) := rfl
  have HE : Hid (oneE kind s.data.toList = if isK kind then (if val kind s.data.toList = 0 then 31 else 0) else 30) := rfl
  generalize oneF kind s.data.toList = F at *
  generalize oneE kind s.data.toList = E at *
  generalize val kind s.data.toList = N at *
  go_enter Tryd.func9, Tryd.ntmps9
  by_cases h1 : kind < 1
  · have hf : isK kind = false := by cases h : isK kind; rfl; have := hk.1 h; omega
    have HF0 : Hid (F = 0) := by rw [Hid, unhide HF, hf]; rfl
    have HE0 : Hid (E = 30) := by rw [Hid, unhide HE, hf]; rfl
    clear hk
    go_wp2
    go_ret2
    exact ⟨ret2 (unhide HF0).symm (unhide HE0).symm, 0, rfl⟩
  · by_cases h3 : 3 < kind
    · have hf : isK kind = false := by cases h : isK kind; rfl; have := hk.1 h; omega
      have HF0 : Hid (F = 0) := by rw [Hid, unhide HF, hf]; rfl
      have HE0 : Hid (E = 30) := by rw [Hid, unhide HE, hf]; rfl
      clear hk
      go_wp2
      go_ret2
      exact ⟨ret2 (unhide HF0).symm (unhide HE0).symm, 0, rfl⟩
    · have hf : isK kind = true := hk.2 (by omega)
      have HF0 : Hid (F = N) := by rw [Hid, unhide HF, hf]; rfl
      have HE0 : Hid (E = if N = 0 then 31 else 0) := by rw [Hid, unhide HE, hf]; rfl
      clear hk hf
      by_cases hN : N = 0
      · subst hN
        go_wp2_with (go_at_call 33; refine (unhide HV _).mono ?_; rintro e w1 ⟨rfl, n1, hw1⟩; obtain rfl := hw1.symm)
        go_ret2
        exact ⟨ret2 (unhide HF0).symm (by rw [unhide HE0]; rfl), _, rfl⟩
      · have hNb : (N == 0) = false := beq_eq_false_iff_ne.2 hN
        have HE1 : Hid (E = 0) := by rw [Hid, unhide HE0, if_neg hN]
        go_wp2_with (go_at_call 33; refine (unhide HV _).mono ?_; rintro e w1 ⟨rfl, n1, hw1⟩; obtain rfl := hw1.symm)
        go_ret2
        exact ⟨ret2 (unhide HF0).symm (unhide HE1).symm, _, rfl⟩
end One
end Go.Proofs.YtaaonaaciomijaaDoor
