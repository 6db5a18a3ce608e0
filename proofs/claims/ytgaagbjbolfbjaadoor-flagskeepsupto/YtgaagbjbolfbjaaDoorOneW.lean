/- Contracts: flags.One, and the document's own Value and One: the flag that a text writes; nothing in memory turns. -/
import Derived.Test.YtgaagbjbolfbjaaDoorOneM
namespace Go.Proofs.YtgaagbjbolfbjaaDoor
open Go.RowKit
namespace One

theorem ret2 {a b c d : Int} {k k2 : IntKind} (h1 : a = c) (h2 : b = d) : Ending.returned (.tuple #[.int k a, .int k2 b]) = Ending.returned (.tuple #[.int k c, .int k2 d]) := by rw [h1, h2]
theorem byte_range (c : UInt8) : (0 : Int) ≤ (c.toNat : Int) ∧ (c.toNat : Int) < 256 := by
  have := c.toNat_lt
  omega
set_option maxRecDepth 100000 in
set_option maxHeartbeats 4000000 in
theorem one_any (kind : Int) (s : ByteArray) (w : World) (hs : s.size ≤ maxLen) :
    Calls Tryd.prog 26 #[.int .i64 kind, .string s] w fun e w' => e = .returned (.tuple #[.int .u16 (oneF kind s.data.toList), .int .i64 (oneE kind s.data.toList)]) ∧ ∃ n, w' = w.drewN n := by
  by_cases h1 : kind = 1
  · subst h1
    have hk : ∀ w, Calls Tryd.prog 24 #[.int .i64 1] w fun e w' => e = .returned (.bool true) ∧ w' = w := fun w => kind_any 1 w
    have HK := hide hk
    clear hk
    by_cases hz : s.size = 1
    · obtain ⟨c, rfl⟩ := one_of hz
      have HB := hide (fun w => byte_any c w)
      have hcr := byte_range c
      have hc0 : (ByteArray.mk #[c])[0] = c := rfl
      have hsz1 : (ByteArray.mk #[c]).size = 1 := rfl
      cases hg : sg c
      · have HF : Hid (oneF 1 (ByteArray.mk #[c]).data.toList = 0) := by simp [Hid, oneF, isK, val, hg]
        have HE : Hid (oneE 1 (ByteArray.mk #[c]).data.toList = 31) := by simp [Hid, oneE, isK, val, hg]
        rw [hg] at HB
        generalize oneF 1 (ByteArray.mk #[c]).data.toList = F at *
        generalize oneE 1 (ByteArray.mk #[c]).data.toList = E at *
        go_enter Tryd.func26, Tryd.ntmps26
        go_wp2_with (first
          | (go_at_call 24; refine (unhide HK _).mono ?_; rintro e w1 ⟨rfl, hw1⟩; obtain rfl := hw1.symm)
          | (go_at_call 40; refine (unhide HB _).mono ?_; rintro e w1 ⟨rfl, hw1⟩; obtain rfl := hw1.symm))
        go_ret2
        exact ⟨ret2 (unhide HF).symm (unhide HE).symm, 0, rfl⟩
      · have HF : Hid (oneF 1 (ByteArray.mk #[c]).data.toList = (c.toNat : Int)) := by simp [Hid, oneF, isK, val, hg]
        have HE : Hid (oneE 1 (ByteArray.mk #[c]).data.toList = 0) := by
          have := sg_pos hg
          simp [Hid, oneE, isK, val, hg]
          omega
        rw [hg] at HB
        have hwr : IntKind.u16.wrap (c.toNat : Int) = (c.toNat : Int) := by simp [IntKind.wrap, IntKind.bits, IntKind.signed]; omega
        generalize oneF 1 (ByteArray.mk #[c]).data.toList = F at *
        generalize oneE 1 (ByteArray.mk #[c]).data.toList = E at *
        go_enter Tryd.func26, Tryd.ntmps26
        go_wp2_with (first
          | (go_at_call 24; refine (unhide HK _).mono ?_; rintro e w1 ⟨rfl, hw1⟩; obtain rfl := hw1.symm)
          | (go_at_call 40; refine (unhide HB _).mono ?_; rintro e w1 ⟨rfl, hw1⟩; obtain rfl := hw1.symm))
        go_ret2
        exact ⟨ret2 (unhide HF).symm (unhide HE).symm, 0, rfl⟩
    · have HF : Hid (oneF 1 s.data.toList = 0) := by rw [Hid, oneF, val_not1 hz]; simp
      have HE : Hid (oneE 1 s.data.toList = 31) := by rw [Hid, oneE, val_not1 hz]; rfl
      have hzz : ((s.size : Int) == 1) = false := by rw [beq_eq_false_iff_ne]; omega
      generalize oneF 1 s.data.toList = F at *
      generalize oneE 1 s.data.toList = E at *
      go_enter Tryd.func26, Tryd.ntmps26
      go_wp2_with (go_at_call 24; refine (unhide HK _).mono ?_; rintro e w1 ⟨rfl, hw1⟩; obtain rfl := hw1.symm)
      go_ret2
      exact ⟨ret2 (unhide HF).symm (unhide HE).symm, 0, rfl⟩
  · by_cases h2 : kind = 2
    · subst h2
      have hk : ∀ w, Calls Tryd.prog 24 #[.int .i64 2] w fun e w' => e = .returned (.bool true) ∧ w' = w := fun w => kind_any 2 w
      have HK := hide hk
      clear hk h1
      by_cases hz : s.size = 2
      · obtain ⟨c, d, rfl⟩ := two_of hz
        have HB := hide (fun w => byte_any c w)
        have HD := hide (fun w => byte_any d w)
        have hcr := byte_range c
        have hdr := byte_range d
        have hor := or_u16 c.toNat d.toNat (by omega) (by omega)
        have hwc : IntKind.u16.wrap (c.toNat : Int) = (c.toNat : Int) := by simp [IntKind.wrap, IntKind.bits, IntKind.signed]; omega
        have hwd : IntKind.u16.wrap (d.toNat : Int) = (d.toNat : Int) := by simp [IntKind.wrap, IntKind.bits, IntKind.signed]; omega
        have hw2 : IntKind.u16.wrap ((c.toNat : Int) * 256) = (c.toNat : Int) * 256 ∨ sg c = false := by
          cases hg : sg c
          · exact .inr rfl
          · left
            have := sg_pos hg
            simp [IntKind.wrap, IntKind.bits, IntKind.signed]; omega
        have hc0 : (ByteArray.mk #[c, d])[0] = c := rfl
        have hc1 : (ByteArray.mk #[c, d])[1] = d := rfl
        have hsz1 : (ByteArray.mk #[c, d]).size = 2 := rfl
        have HV : Hid (val 2 (ByteArray.mk #[c, d]).data.toList = if sg c && sg d then 256 * (c.toNat : Int) + (d.toNat : Int) else 0) := rfl
        cases hg : sg c
        · have HF : Hid (oneF 2 (ByteArray.mk #[c, d]).data.toList = 0) := by rw [Hid, oneF, unhide HV, hg]; rfl
          have HE : Hid (oneE 2 (ByteArray.mk #[c, d]).data.toList = 31) := by rw [Hid, oneE, unhide HV, hg]; rfl
          rw [hg] at HB
          clear HD
          generalize oneF 2 (ByteArray.mk #[c, d]).data.toList = F at *
          generalize oneE 2 (ByteArray.mk #[c, d]).data.toList = E at *
          go_enter Tryd.func26, Tryd.ntmps26
          go_wp2_with (first
            | (go_at_call 24; refine (unhide HK _).mono ?_; rintro e w1 ⟨rfl, hw1⟩; obtain rfl := hw1.symm)
            | (go_at_call 40; refine (unhide HB _).mono ?_; rintro e w1 ⟨rfl, hw1⟩; obtain rfl := hw1.symm))
          go_ret2
          exact ⟨ret2 (unhide HF).symm (unhide HE).symm, 0, rfl⟩
        · cases hgd : sg d
          · have HF : Hid (oneF 2 (ByteArray.mk #[c, d]).data.toList = 0) := by rw [Hid, oneF, unhide HV, hg, hgd]; rfl
            have HE : Hid (oneE 2 (ByteArray.mk #[c, d]).data.toList = 31) := by rw [Hid, oneE, unhide HV, hg, hgd]; rfl
            clear HB HD
            generalize oneF 2 (ByteArray.mk #[c, d]).data.toList = F at *
            generalize oneE 2 (ByteArray.mk #[c, d]).data.toList = E at *
            go_enter Tryd.func26, Tryd.ntmps26
            go_wp2_with (first
              | (go_at_call 24; refine (unhide HK _).mono ?_; rintro e w1 ⟨rfl, hw1⟩; obtain rfl := hw1.symm)
              | (go_at_call 40; refine (byte_any _ _).mono ?_; rintro e w1 ⟨rfl, hw1⟩; obtain rfl := hw1.symm; (try rw [hg]); (try rw [hgd])))
            go_ret2
            exact ⟨ret2 (unhide HF).symm (unhide HE).symm, 0, rfl⟩
          · have hp := sg_pos hg
            have hw3 : IntKind.u16.wrap ((c.toNat : Int) * 256) = (c.toNat : Int) * 256 := by rcases hw2 with h | h; exact h; rw [hg] at h; cases h
            have HF : Hid (oneF 2 (ByteArray.mk #[c, d]).data.toList = 256 * (c.toNat : Int) + (d.toNat : Int)) := by rw [Hid, oneF, unhide HV, hg, hgd]; rfl
            have HE : Hid (oneE 2 (ByteArray.mk #[c, d]).data.toList = 0) := by
              rw [Hid, oneE, unhide HV, hg, hgd]
              have e : (isK 2) = true := rfl
              rw [if_pos e, if_neg]
              simp
              omega
            clear HB HD
            clear hw2 hp
            generalize oneF 2 (ByteArray.mk #[c, d]).data.toList = F at *
            generalize oneE 2 (ByteArray.mk #[c, d]).data.toList = E at *
            go_enter Tryd.func26, Tryd.ntmps26
            go_wp2_with (first
              | (go_at_call 24; refine (unhide HK _).mono ?_; rintro e w1 ⟨rfl, hw1⟩; obtain rfl := hw1.symm)
              | (go_at_call 40; refine (byte_any _ _).mono ?_; rintro e w1 ⟨rfl, hw1⟩; obtain rfl := hw1.symm; (try rw [hg]); (try rw [hgd])))
            go_quiet (fail)
            go_wp2
            go_ret2
            exact ⟨ret2 (unhide HF).symm (unhide HE).symm, _, rfl⟩
      · have HF : Hid (oneF 2 s.data.toList = 0) := by rw [Hid, oneF, val_not2 hz]; simp
        have HE : Hid (oneE 2 s.data.toList = 31) := by rw [Hid, oneE, val_not2 hz]; rfl
        have hzz : ((s.size : Int) == 2) = false := by rw [beq_eq_false_iff_ne]; omega
        generalize oneF 2 s.data.toList = F at *
        generalize oneE 2 s.data.toList = E at *
        go_enter Tryd.func26, Tryd.ntmps26
        go_wp2_with (go_at_call 24; refine (unhide HK _).mono ?_; rintro e w1 ⟨rfl, hw1⟩; obtain rfl := hw1.symm)
        go_ret2
        exact ⟨ret2 (unhide HF).symm (unhide HE).symm, 0, rfl⟩
    · by_cases h3 : kind = 3
      · subst h3
        have hk : ∀ w, Calls Tryd.prog 24 #[.int .i64 3] w fun e w' => e = .returned (.bool true) ∧ w' = w := fun w => kind_any 3 w
        have HK := hide hk
        clear hk h1 h2
        have HN := hide (fun W => NumW.number_any s 65535 W hs (by decide) (by decide))
        have hv := val_bounds 3 s.data.toList
        have ev : val 3 s.data.toList = Num.numN s.data.toList 65535 := rfl
        have HF : Hid (oneF 3 s.data.toList = Num.numN s.data.toList 65535) := rfl
        have HE : Hid (oneE 3 s.data.toList = if Num.numN s.data.toList 65535 = 0 then 31 else 0) := rfl
        have hgood : Num.numE s.data.toList 65535 = 0 ∨ (Num.numE s.data.toList 65535 = 13 ∧ Num.numN s.data.toList 65535 = 0) := by
          unfold Num.numE Num.numN
          split
          · exact .inl rfl
          · exact .inr ⟨rfl, rfl⟩
        rw [ev] at hv
        clear ev
        generalize oneF 3 s.data.toList = F at *
        generalize oneE 3 s.data.toList = E at *
        generalize Num.numN s.data.toList 65535 = N at *
        generalize Num.numE s.data.toList 65535 = X at *
        have hwr : IntKind.u16.wrap N = N := by simp [IntKind.wrap, IntKind.bits, IntKind.signed]; omega
        rcases hgood with rfl | ⟨rfl, rfl⟩
        · by_cases hN0 : N = 0
          · subst hN0
            go_enter Tryd.func26, Tryd.ntmps26
            go_wp2_with (first
              | (go_at_call 24; refine (unhide HK _).mono ?_; rintro e w1 ⟨rfl, hw1⟩; obtain rfl := hw1.symm)
              | (go_at_call 41; refine (unhide HN _).mono ?_; rintro e w1 ⟨rfl, hw1⟩; obtain rfl := hw1.symm))
            go_ret2
            exact ⟨ret2 (unhide HF).symm (by rw [unhide HE]; rfl), 0, rfl⟩
          · have hNp : (0 : Int) < N := by omega
            have HE0 : Hid (E = 0) := by rw [Hid, unhide HE, if_neg hN0]
            go_enter Tryd.func26, Tryd.ntmps26
            go_wp2_with (first
              | (go_at_call 24; refine (unhide HK _).mono ?_; rintro e w1 ⟨rfl, hw1⟩; obtain rfl := hw1.symm)
              | (go_at_call 41; refine (unhide HN _).mono ?_; rintro e w1 ⟨rfl, hw1⟩; obtain rfl := hw1.symm))
            go_ret2
            exact ⟨ret2 (unhide HF).symm (unhide HE0).symm, 0, rfl⟩
        · go_enter Tryd.func26, Tryd.ntmps26
          go_wp2_with (first
            | (go_at_call 24; refine (unhide HK _).mono ?_; rintro e w1 ⟨rfl, hw1⟩; obtain rfl := hw1.symm)
            | (go_at_call 41; refine (unhide HN _).mono ?_; rintro e w1 ⟨rfl, hw1⟩; obtain rfl := hw1.symm))
          go_ret2
          exact ⟨ret2 (unhide HF).symm (by rw [unhide HE]; rfl), 0, rfl⟩
      · have hk0 : isK kind = false := by unfold isK; simp; omega
        have HK := hide (fun w => kind_any kind w)
        rw [hk0] at HK
        have HF : Hid (oneF kind s.data.toList = 0) := by rw [Hid, oneF, hk0]; rfl
        have HE : Hid (oneE kind s.data.toList = 30) := by rw [Hid, oneE, hk0]; rfl
        generalize oneF kind s.data.toList = F at *
        generalize oneE kind s.data.toList = E at *
        go_enter Tryd.func26, Tryd.ntmps26
        go_wp2_with (go_at_call 24; refine (unhide HK _).mono ?_; rintro e w1 ⟨rfl, hw1⟩; obtain rfl := hw1.symm)
        go_ret2
        exact ⟨ret2 (unhide HF).symm (unhide HE).symm, 0, rfl⟩
end One
end Go.Proofs.YtgaagbjbolfbjaaDoor
