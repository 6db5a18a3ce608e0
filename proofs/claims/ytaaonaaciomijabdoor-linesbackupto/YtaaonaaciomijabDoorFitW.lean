/- Contract: the document's fit answers whether a field may stand; nothing in memory turns. -/
import Derived.Test.YtaaonaaciomijabDoorMkd
import Derived.Test.YtaaonaaciomijabDoorShoW
namespace Go.Proofs.YtaaonaaciomijabDoor
open Go.RowKit
namespace FitW
open FldW ShM

/-- may it stand, at the text's beginning or not -/
def okF (l : List UInt8) (first : Bool) : Bool := CntW.stands l && !(first && Lib.hasPrefix l Ln.mark)
theorem okF_ok (i j : Nat) (f : ByteArray) : okF f.data.toList (i == 0 && j == 0) = ok i j f := rfl
theorem retb {a b : Bool} (h : a = b) : Ending.returned (.bool a) = .returned (.bool b) := by rw [h]
theorem blank4 (c : UInt8) (h : CntW.ch.data.toList.contains c = true) : ((c.toNat : Int) == 32) = true ∨ (((c.toNat : Int) == 32) = false ∧ ((c.toNat : Int) == 9) = true) ∨ (((c.toNat : Int) == 32) = false ∧ ((c.toNat : Int) == 9) = false ∧ ((c.toNat : Int) == 10) = true) ∨ (((c.toNat : Int) == 32) = false ∧ ((c.toNat : Int) == 9) = false ∧ ((c.toNat : Int) == 10) = false ∧ ((c.toNat : Int) == 13) = true) := by
  rw [List.contains_eq_mem, decide_eq_true_eq] at h
  have h2 : c ∈ [(32 : UInt8), 9, 10, 13] := h
  simp only [List.mem_cons, List.not_mem_nil, or_false] at h2
  rcases h2 with rfl | rfl | rfl | rfl
  · left; rfl
  · right; left; exact ⟨rfl, rfl⟩
  · right; right; left; exact ⟨rfl, rfl, rfl⟩
  · right; right; right; exact ⟨rfl, rfl, rfl, rfl⟩
theorem plain4 (c : UInt8) (h : CntW.ch.data.toList.contains c = false) : ((c.toNat : Int) == 32) = false ∧ ((c.toNat : Int) == 9) = false ∧ ((c.toNat : Int) == 10) = false ∧ ((c.toNat : Int) == 13) = false := by
  rw [List.contains_eq_mem, decide_eq_false_iff_not] at h
  have h2 : ¬ c ∈ [(32 : UInt8), 9, 10, 13] := h
  simp only [List.mem_cons, List.not_mem_nil, or_false, not_or] at h2
  obtain ⟨a1, a2, a3, a4⟩ := h2
  refine ⟨?_, ?_, ?_, ?_⟩
  all_goals
    rw [beq_eq_false_iff_ne]
    intro h
  · exact a1 (UInt8.toNat_inj.1 (by show c.toNat = 32; omega))
  · exact a2 (UInt8.toNat_inj.1 (by show c.toNat = 9; omega))
  · exact a3 (UInt8.toNat_inj.1 (by show c.toNat = 10; omega))
  · exact a4 (UInt8.toNat_inj.1 (by show c.toNat = 13; omega))
theorem okF_empty {f : ByteArray} {b : Bool} (h : f.size = 0) : okF f.data.toList b = false := by
  have hl : f.data.toList.length = f.size := by simp
  have : f.data.toList = [] := List.eq_nil_of_length_eq_zero (by omega)
  rw [this]; simp [okF, CntW.stands]
theorem okF_hash {f : ByteArray} {b : Bool} (h : 0 < f.size) (h35 : f[0].toNat = 35) : okF f.data.toList b = false := by
  have e : f.data.toList.drop 0 = f[0] :: f.data.toList.drop 1 := by rw [List.drop_eq_getElem_cons (by simpa using h)]; rfl
  rw [List.drop_zero] at e
  have e2 : f[0] = 35 := UInt8.toNat_inj.1 h35
  have hp : Lib.hasPrefix f.data.toList [35] = true := by rw [e, e2]; rfl
  simp [okF, CntW.stands, hp]
theorem okF_mark {f : ByteArray} (h : Lib.hasPrefix f.data.toList Ln.mark = true) : okF f.data.toList true = false := by simp [okF, h]
theorem okF_blank {f : ByteArray} {b : Bool} {i : Nat} {x : UInt8} (h1 : Lib.NoAny f.data.toList CntW.ch.data.toList i) (h2 : f.data.toList[i]? = some x) (h3 : CntW.ch.data.toList.contains x = true) : okF f.data.toList b = false := by
  have hc : Lib.containsAny f.data.toList CntW.ch.data.toList = true := by
    unfold Lib.containsAny
    rw [Lib.indexAny_hit h1 h2 h3]
    simp
  simp [okF, CntW.stands, hc]
theorem okF_good {f : ByteArray} {b : Bool} (h : 0 < f.size) (h35 : f[0].toNat ≠ 35) (hm : (b && Lib.hasPrefix f.data.toList Ln.mark) = false) (h1 : Lib.NoAny f.data.toList CntW.ch.data.toList f.data.toList.length) : okF f.data.toList b = true := by
  have hc : Lib.containsAny f.data.toList CntW.ch.data.toList = false := by
    unfold Lib.containsAny
    rw [Lib.indexAny_none h1]
    rfl
  have e : f.data.toList.drop 0 = f[0] :: f.data.toList.drop 1 := by rw [List.drop_eq_getElem_cons (by simpa using h)]; rfl
  rw [List.drop_zero] at e
  have hp : Lib.hasPrefix f.data.toList [35] = false := by
    rw [e]
    have : ¬ (35 : UInt8) = f[0] := fun h => h35 (by rw [← h]; rfl)
    simp [Lib.hasPrefix, List.isPrefixOf, this]
  have hne : f.data.toList.isEmpty = false := by rw [e]; rfl
  unfold okF CntW.stands
  rw [hc, hp, hne, hm]; rfl

set_option maxHeartbeats 4000000 in
theorem fit_any (f : ByteArray) (first : Bool) (w : World) (hs : f.size ≤ maxLen) :
    Calls Tryd.prog 39 #[.string f, .bool first] w fun e w' => e = .returned (.bool (okF f.data.toList first)) ∧ w' = w := by
  have HM := hide (fun W => Mkd.marked_any f W hs)
  unfold maxLen at hs
  by_cases h0 : f.size = 0
  · rw [okF_empty h0]
    have e0 : ((f.size : Int) == 0) = true := by rw [beq_iff_eq]; omega
    clear h0
    go_enter Tryd.func39, Tryd.ntmps39
    go_wp2
    all_goals
      go_ret
      exact ⟨rfl, rfl⟩
  · have e0 : ((f.size : Int) == 0) = false := by rw [beq_eq_false_iff_ne]; omega
    have hp0 : 0 < f.size := by omega
    by_cases h35 : f[0].toNat = 35
    · rw [okF_hash hp0 h35]
      have e1 : ((f[0].toNat : Int) == 35) = true := by rw [beq_iff_eq]; omega
      clear h0 h35
      go_enter Tryd.func39, Tryd.ntmps39
      go_wp2
      all_goals
        go_ret
        exact ⟨rfl, rfl⟩
    · have e1 : ((f[0].toNat : Int) == 35) = false := by rw [beq_eq_false_iff_ne]; omega
      have HB := hide (fun i x h1 h2 h3 => okF_blank (f := f) (b := first) (i := i) (x := x) h1 h2 h3)
      have HG := hide (fun hm h1 => okF_good (f := f) (b := first) hp0 h35 hm h1)
      have HK := hide (fun h : first = true => fun h2 => (by rw [h]; exact okF_mark h2 : okF f.data.toList first = false))
      clear h0 h35
      generalize okF f.data.toList first = r at *
      have HLOOP : first = false ∨ (first = true ∧ Lib.hasPrefix f.data.toList Ln.mark = false) ∨ (first = true ∧ Lib.hasPrefix f.data.toList Ln.mark = true) := by
        cases first <;> cases Lib.hasPrefix f.data.toList Ln.mark <;> simp
      rcases HLOOP with hq | ⟨hq, hq2⟩ | ⟨hq, hq2⟩
      · have HG2 := hide (unhide HG (by rw [hq]; rfl))
        subst hq
        clear HG HK
        go_enter Tryd.func39, Tryd.ntmps39
        go_wp2
        go_loop [5] (fun i => ∃ k : Nat, k ≤ f.size ∧ i = .int .i64 k ∧ Hid (Lib.NoAny f.data.toList CntW.ch.data.toList k)) (fun i => f.size - (intOf i).toNat)
        case atStart => exact ⟨0, Nat.zero_le _, rfl, Lib.NoAny.zero _ _⟩
        case round =>
          obtain ⟨k, hk, rfl, HN⟩ := hrel
          by_cases hlt : k < f.size
          · have hxl : f.data.toList[k]? = some f[k] := Lib.data_getElem? f k hlt
            cases hin : CntW.ch.data.toList.contains f[k] with
            | true =>
              have HA := hide (unhide HB k f[k] (unhide HN) hxl hin)
              have hc := blank4 _ hin
              clear hin hxl
              rcases hc with c1 | ⟨c1, c2⟩ | ⟨c1, c2, c3⟩ | ⟨c1, c2, c3, c4⟩
              all_goals
                go_wp2
                go_ret
                exact ⟨retb (unhide HA).symm, rfl⟩
            | false =>
              have HN2 := hide (Lib.NoAny.succ (unhide HN) hxl hin)
              obtain ⟨c1, c2, c3, c4⟩ := plain4 _ hin
              clear hin hxl
              go_wp2
              go_round
              case rel => exact ⟨k + 1, by omega, by go_num, HN2⟩
              case measure => simp [intOf]; omega
          · have hkf : k = f.data.toList.length := by simp; omega
            have HA := hide (unhide HG2 (by rw [← hkf]; exact unhide HN))
            clear hkf
            go_wp2
            go_ret
            exact ⟨retb (unhide HA).symm, rfl⟩
      · rw [hq2] at HM
        have HG2 := hide (unhide HG (by rw [hq, hq2]; rfl))
        subst hq
        clear HG HK hq2
        go_enter Tryd.func39, Tryd.ntmps39
        go_wp2_with (go_at_call 56; refine (unhide HM _).mono ?_; rintro e w1 ⟨rfl, hw⟩; obtain rfl := hw.symm)
        go_loop [5] (fun i => ∃ k : Nat, k ≤ f.size ∧ i = .int .i64 k ∧ Hid (Lib.NoAny f.data.toList CntW.ch.data.toList k)) (fun i => f.size - (intOf i).toNat)
        case atStart => exact ⟨0, Nat.zero_le _, rfl, Lib.NoAny.zero _ _⟩
        case round =>
          obtain ⟨k, hk, rfl, HN⟩ := hrel
          by_cases hlt : k < f.size
          · have hxl : f.data.toList[k]? = some f[k] := Lib.data_getElem? f k hlt
            cases hin : CntW.ch.data.toList.contains f[k] with
            | true =>
              have HA := hide (unhide HB k f[k] (unhide HN) hxl hin)
              have hc := blank4 _ hin
              clear hin hxl
              rcases hc with c1 | ⟨c1, c2⟩ | ⟨c1, c2, c3⟩ | ⟨c1, c2, c3, c4⟩
              all_goals
                go_wp2
                go_ret
                exact ⟨retb (unhide HA).symm, rfl⟩
            | false =>
              have HN2 := hide (Lib.NoAny.succ (unhide HN) hxl hin)
              obtain ⟨c1, c2, c3, c4⟩ := plain4 _ hin
              clear hin hxl
              go_wp2
              go_round
              case rel => exact ⟨k + 1, by omega, by go_num, HN2⟩
              case measure => simp [intOf]; omega
          · have hkf : k = f.data.toList.length := by simp; omega
            have HA := hide (unhide HG2 (by rw [← hkf]; exact unhide HN))
            clear hkf
            go_wp2
            go_ret
            exact ⟨retb (unhide HA).symm, rfl⟩
      · rw [hq2] at HM
        have HA := hide (unhide HK hq hq2)
        subst hq
        clear HG HK hq2 HB
        go_enter Tryd.func39, Tryd.ntmps39
        go_wp2_with (go_at_call 56; refine (unhide HM _).mono ?_; rintro e w1 ⟨rfl, hw⟩; obtain rfl := hw.symm)
        go_ret
        exact ⟨retb (unhide HA).symm, rfl⟩
end FitW
end Go.Proofs.YtaaonaaciomijabDoor
