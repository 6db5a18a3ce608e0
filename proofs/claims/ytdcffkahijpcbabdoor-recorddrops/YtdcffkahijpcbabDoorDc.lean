/- Layer 5: the document's Used, Size, fit. -/
import Derived.Test.YtdcffkahijpcbabDoorDb
namespace Go.Proofs.YtdcffkahijpcbabDoor
open Go.RowKit
namespace Rs
theorem look_at_i {l : List Run} {k : Int} {r : Run} (h : look l k = some r) : ∃ i : Nat, l[i]? = some r ∧ (r.num : Int) = k ∧ i < l.length := by
  obtain ⟨hm, hn⟩ := look_mem h
  obtain ⟨i, hi⟩ := List.mem_iff_getElem?.1 hm
  exact ⟨i, hi, hn, (List.getElem?_eq_some_iff.1 hi).1⟩
theorem txt_slice {w : World} {sb : Nat} {m : Sto} {F : Nat → Prop} {rv : Value} {sl : Nat → Value} (h : DIn w sb m F rv sl) {i : Nat} {r : Run} (hr : m.runs[i]? = some r) : ∃ a c, sl r.num = .slice a r.txt.length c := own_slice (h.txt r (List.mem_of_getElem? hr))
theorem tot_take {l : List Run} {i : Nat} {r : Run} (h : l[i]? = some r) : tot (l.take (i + 1)) = tot (l.take i) + r.txt.length := by
  have hi := (List.getElem?_eq_some_iff.1 h).1
  rw [List.take_succ_eq_append_getElem hi, (List.getElem?_eq_some_iff.1 h).2, tot_app]
  simp [tot]
theorem tot_take_le (l : List Run) (i : Nat) : tot (l.take i) ≤ tot l := by
  have := tot_app (l.take i) (l.drop i)
  rw [List.take_append_drop] at this
  omega
set_option maxRecDepth 100000 in
set_option maxHeartbeats 1000000 in
theorem used_doc {w : World} {sb : Nat} {m : Sto} {F : Nat → Prop} {rv : Value} {sl : Nat → Value} (h : DIn w sb m F rv sl) :
    Calls Tryd.prog 37 #[.pointer (some ⟨sb, 0, none⟩)] w fun e w' => e = .returned (.int .i64 (tot m.runs)) ∧ w' = w := by
  obtain ⟨c0, c1, c2, c3, c4, fz⟩ := dcells h.sto
  have HTX : Hid (∀ (i : Nat) (r : Run), m.runs[i]? = some r → ∃ a c, sl r.num = .slice a r.txt.length c) := fun i r hr => txt_slice h hr
  obtain ⟨ao, cc, rfl, hat⟩ := h.at
  have HCL := hide hat
  have hbl : m.runs.length ≤ 16777216 := by have := h.ok.len; have := h.ok.made; omega
  have htl : tot m.runs ≤ 67108864 := by have := h.ok.used; have := h.ok.cap; omega
  clear h hat
  generalize m.runs = l at *
  go_enter Tryd.func37, Tryd.ntmps37
  go_wp2
  go_loop [3, 4] (fun s3 s4 => ∃ i : Nat, i ≤ l.length ∧ s4 = .int .i64 i ∧ s3 = .int .i64 (tot (l.take i))) (fun _ s4 => l.length - (intOf s4).toNat)
  case atStart => exact ⟨0, Nat.zero_le _, rfl, rfl⟩
  case round =>
    obtain ⟨i, hi, rfl, rfl⟩ := hrel
    by_cases hlt : i < l.length
    · have hltz : (i : Int) < (l.length : Int) := by omega
      have hi0 : 0 ≤ (i : Int) := by omega
      obtain ⟨r, hr⟩ : ∃ r, l[i]? = some r := ⟨_, List.getElem?_eq_getElem hlt⟩
      obtain ⟨g, rfl, hg, hF, hcl⟩ := unhide HCL (by omega)
      have q1 := (hcl i r hr).2.1
      obtain ⟨a1, k1, e1⟩ := unhide HTX i r hr
      rw [e1] at q1
      have ht := tot_take hr
      have hle := tot_take_le l (i + 1)
      have HT := hide ht
      obtain ⟨u, hu⟩ : ∃ u, u = tot (l.take i) := ⟨_, rfl⟩
      rw [← hu] at ht ⊢
      have hul : u + r.txt.length ≤ 67108864 := by omega
      have HU := hide hu
      clear hcl HCL e1 hr ht hle hu
      generalize r.txt.length = n at *
      go_wp2
      exact ⟨⟨i + 1, by omega, by go_num, by rw [unhide HT, ← unhide HU]; go_num⟩, by simp [intOf]; omega⟩
    · have hltz : ¬ (i : Int) < (l.length : Int) := by omega
      obtain rfl : i = l.length := by omega
      rw [List.take_length]
      go_wp2
      go_ret
      exact ⟨rfl, rfl⟩
set_option maxRecDepth 100000 in
theorem size_doc {w : World} {sb : Nat} {m : Sto} {F : Nat → Prop} {rv : Value} {sl : Nat → Value} (h : DIn w sb m F rv sl) (k : Int) :
    Calls Tryd.prog 34 #[.pointer (some ⟨sb, 0, none⟩), .int .i64 k] w fun e w' => e = .returned (.tuple #[.int .i64 (siz m k).1, .int .i64 (siz m k).2]) ∧ w' = w := by
  obtain ⟨c0, c1, c2, c3, c4, fz⟩ := dcells h.sto
  rcases hl : look m.runs k with _ | r
  · have HP := hide (place_none h hl)
    have e : siz m k = (0, 3) := by unfold siz; rw [hl]
    rw [e]
    clear h e hl
    go_enter Tryd.func34, Tryd.ntmps34
    go_wp2_with (go_at_call 59; refine (unhide HP).mono ?_; rintro e w1 ⟨rfl, rfl⟩)
    go_ret2
    exact ⟨rfl, rfl⟩
  · obtain ⟨i, hi, hn, hil⟩ := look_at_i hl
    have HP := hide (place_some h hi)
    rw [hn] at HP
    have e : siz m k = ((r.txt.length : Int), 0) := by unfold siz; rw [hl]
    rw [e]
    obtain ⟨a1, k1, e1⟩ := txt_slice h hi
    obtain ⟨ao, cc, rfl, hat⟩ := h.at
    obtain ⟨g, rfl, hg, hF, hcl⟩ := hat (by omega)
    have q1 := (hcl i r hi).2.1
    rw [e1] at q1
    have hiz : (i : Int) < (m.runs.length : Int) := by omega
    have hi0 : 0 ≤ (i : Int) := by omega
    have hin : ¬ (i : Int) < 0 := by omega
    clear h e hl hat hcl hi hn e1
    go_enter Tryd.func34, Tryd.ntmps34
    go_wp2_with (go_at_call 59; refine (unhide HP).mono ?_; rintro e w1 ⟨rfl, rfl⟩)
    go_ret2
    exact ⟨rfl, rfl⟩
set_option maxRecDepth 100000 in
theorem fit_none {w : World} {sb : Nat} {m : Sto} {F : Nat → Prop} {rv : Value} {sl : Nat → Value} (h : DIn w sb m F rv sl) {k : Int} (hl : look m.runs k = none) :
    Calls Tryd.prog 69 #[.pointer (some ⟨sb, 0, none⟩), .int .i64 k] w fun e w' => e = .returned (.tuple #[.int .i64 0, .int .i64 3]) ∧ w' = w := by
  obtain ⟨c0, c1, c2, c3, c4, fz⟩ := dcells h.sto
  have HP := hide (place_none h hl)
  clear h hl
  go_enter Tryd.func69, Tryd.ntmps69
  go_wp2_with (go_at_call 59; refine (unhide HP).mono ?_; rintro e w1 ⟨rfl, rfl⟩)
  go_ret2
  exact ⟨rfl, rfl⟩
set_option maxRecDepth 100000 in
theorem fit_some {w : World} {sb : Nat} {m : Sto} {F : Nat → Prop} {rv : Value} {sl : Nat → Value} (h : DIn w sb m F rv sl) {i : Nat} {r : Run} (hi : m.runs[i]? = some r) :
    Calls Tryd.prog 69 #[.pointer (some ⟨sb, 0, none⟩), .int .i64 r.num] w fun e w' => e = .returned (if r.shut then .tuple #[.int .i64 0, .int .i64 4] else .tuple #[.int .i64 i, .int .i64 0]) ∧ w' = w := by
  obtain ⟨c0, c1, c2, c3, c4, fz⟩ := dcells h.sto
  have HP := hide (place_some h hi)
  have hil := (List.getElem?_eq_some_iff.1 hi).1
  obtain ⟨ao, cc, rfl, hat⟩ := h.at
  obtain ⟨g, rfl, hg, hF, hcl⟩ := hat (by omega)
  have q2 := (hcl i r hi).2.2
  have hiz : (i : Int) < (m.runs.length : Int) := by omega
  have hi0 : 0 ≤ (i : Int) := by omega
  have hin : ¬ (i : Int) < 0 := by omega
  clear h hat hcl hi
  cases hs : r.shut
  · rw [hs] at q2
    simp only [Bool.false_eq_true, if_false]
    go_enter Tryd.func69, Tryd.ntmps69
    go_wp2_with (go_at_call 59; refine (unhide HP).mono ?_; rintro e w1 ⟨rfl, rfl⟩)
    go_ret2
    exact ⟨rfl, rfl⟩
  · rw [hs] at q2
    simp only [if_true]
    go_enter Tryd.func69, Tryd.ntmps69
    go_wp2_with (go_at_call 59; refine (unhide HP).mono ?_; rintro e w1 ⟨rfl, rfl⟩)
    go_ret2
    exact ⟨rfl, rfl⟩
end Rs
end Go.Proofs.YtdcffkahijpcbabDoor
