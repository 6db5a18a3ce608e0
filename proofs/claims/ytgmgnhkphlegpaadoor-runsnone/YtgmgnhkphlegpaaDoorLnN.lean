/- Layer 5: RunsNone. -/
import Derived.Test.YtgmgnhkphlegpaaDoorPlN
import Derived.Test.YtgmgnhkphlegpaaDoorArgO
import Derived.Test.YtgmgnhkphlegpaaDoorRk
namespace Go.Proofs.YtgmgnhkphlegpaaDoor
open Go.RowKit
namespace Rs
set_option maxRecDepth 100000 in
set_option maxHeartbeats 2000000 in
theorem none_law {w : World} {v : Value} {os : List (Op5 × Value)} {E : Nat → Addr} (V : Env w E w.heap.size) (hs : Script w v os) :
    Calls Tryd.prog 5 #[v] w fun e w' => e = .returned (.bool true) ∧ Below w.heap.size w w' := by
  have HW := hide (wakes_any w V.g)
  have HSC := hide hs
  obtain ⟨ao, cap, rfl, hn, hok, hat⟩ := hs
  have HAT := hide hat
  have HOK := hide hok
  have HV := hide V
  obtain ⟨N, hN⟩ : ∃ N, N = os.length := ⟨_, rfl⟩
  have HN := hide hN
  rw [← hN] at hn ⊢
  clear hat hok hN V
  go_enter Tryd.func5, Tryd.ntmps5
  go_wp2_with (go_at_call 11; refine (unhide HW).mono ?_; rintro e w1 ⟨rfl, hb1⟩; have HB1 := hide hb1; clear hb1)
  go_loopw [12] (fun i wr => ∃ k : Nat, k ≤ N ∧ i = .int .i64 k ∧ Hid (Below w.heap.size w wr)) (fun i _ => N - (intOf i).toNat)
  case atStart => exact ⟨0, Nat.zero_le _, rfl, HB1⟩
  case round =>
    obtain ⟨k, hk, rfl, HB⟩ := hrel
    by_cases hlt : k < N
    · have hltz : (k : Int) < (N : Int) := by omega
      have hk0 : 0 ≤ (k : Int) := by omega
      obtain ⟨p, hp⟩ : ∃ p, os[k]? = some p := ⟨_, List.getElem?_eq_getElem (by rw [← unhide HN]; exact hlt)⟩
      obtain ⟨g, off, rfl, hg, hc⟩ := unhide HAT (by rw [← unhide HN]; omega)
      have q := hc k p hp
      have hin := unhide HOK p (List.mem_of_getElem? hp)
      have l : ∀ o, wr.cell? ⟨g, o, none⟩ = w.cell? ⟨g, o, none⟩ := fun o => (unhide HB).cell (p := ⟨g, o, none⟩) hg
      have d0 := (l _).trans q.c0
      have d1 := (l _).trans q.c1
      have d2 := (l _).trans q.c2
      have d3 := (l _).trans q.c3
      have d4 := (l _).trans q.c4
      have HPL : Hid (∀ W, Below wr.heap.size wr W → Calls Tryd.prog 12 #[.pointer none, opV p.1 p.2] W fun e w' => e = .returned (ansV ⟨0, nilC p.1, [], []⟩ (.slice none 0 0)) ∧ Below W.heap.size W w') := fun W hb => by
        have hbw : Below w.heap.size w W := (unhide HB).trans (hb.mono (unhide HB).size)
        exact playn_any ((unhide HV).below hbw) hbw.size hin.ok (hin.st.below hbw)
      have HSM : Hid (∀ W (c : Int), Calls Tryd.prog 13 #[.agg #[.int .i64 0, .int .i64 c, .string (strB []), .slice none 0 0], .agg #[.int .i64 0, .int .i64 c, .string (strB []), .slice none 0 0]] W fun e w' => e = .returned (.bool true) ∧ Below W.heap.size W w') := fun W c => same_eq 0 c (strB []) (ints_nil W) (ints_nil W)
      obtain ⟨pa, pc, epv, -, -⟩ := hin.st
      unfold opV ansV at HPL
      rw [epv] at HPL d4
      have HNC : Hid (nilC p.1 = if 1 ≤ p.1.kd ∧ p.1.kd ≤ 6 then 1 else 0) := hide rfl
      generalize p.1.kd = kd at *
      generalize p.1.L.length = PL at *
      clear q hc hp l hin epv
      by_cases hr : 1 ≤ kd ∧ kd ≤ 6
      · rw [unhide HNC, if_pos hr] at HPL
        obtain ⟨hr1, hr2⟩ := hr
        go_wp2_with (first | (go_at_call 12; refine (unhide HPL _ (by (repeat (first | exact Below.refl _ _ | refine Below.drew ?_ | refine Below.alloc ?_ (by first | (simp; done) | (simp; omega)) _ | refine Below.setCell ?_ (by first | (simp; done) | (simp; omega)) _)))).mono ?_; rintro e w3 ⟨rfl, hb3⟩; obtain ⟨hcc, hff⟩ := bcell hb3; have hz3 : wr.heap.size < w3.heap.size := (by have := hb3.size; simp at this; omega); have HBX : Hid (Below w.heap.size w w3) := ((unhide HB).alloc (unhide HB).size _).trans (hb3.mono (by have := (unhide HB).size; simp; omega)); clear hb3) | (go_at_call 13; refine (unhide HSM _ 1).mono ?_; rintro e w4 ⟨rfl, hb4⟩; have HB4 := hide hb4; clear hb4))
        refine ⟨⟨k + 1, by omega, by go_num, ?_⟩, by simp [intOf]; omega⟩
        have hw3 : w.heap.size ≤ w3.heap.size := (unhide HBX).size
        refine Below.trans ?_ ((unhide HB4).mono ?_)
        · (repeat (first | exact unhide HBX | refine Below.setCell ?_ (by first | (simp; done) | (simp; omega) | omega) _ | refine Below.alloc ?_ (by first | (simp; done) | (simp; omega) | omega) _))
        · first | (simp; done) | (simp; omega) | omega
      · rw [unhide HNC, if_neg hr] at HPL
        by_cases h1 : kd < 1
        · clear hr
          go_wp2_with (first | (go_at_call 12; refine (unhide HPL _ (by (repeat (first | exact Below.refl _ _ | refine Below.drew ?_ | refine Below.alloc ?_ (by first | (simp; done) | (simp; omega)) _ | refine Below.setCell ?_ (by first | (simp; done) | (simp; omega)) _)))).mono ?_; rintro e w3 ⟨rfl, hb3⟩; obtain ⟨hcc, hff⟩ := bcell hb3; have hz3 : wr.heap.size < w3.heap.size := (by have := hb3.size; simp at this; omega); have HBX : Hid (Below w.heap.size w w3) := ((unhide HB).alloc (unhide HB).size _).trans (hb3.mono (by have := (unhide HB).size; simp; omega)); clear hb3) | (go_at_call 13; refine (unhide HSM _ 0).mono ?_; rintro e w4 ⟨rfl, hb4⟩; have HB4 := hide hb4; clear hb4))
          refine ⟨⟨k + 1, by omega, by go_num, ?_⟩, by simp [intOf]; omega⟩
          have hw3 : w.heap.size ≤ w3.heap.size := (unhide HBX).size
          refine Below.trans ?_ ((unhide HB4).mono ?_)
          · (repeat (first | exact unhide HBX | refine Below.setCell ?_ (by first | (simp; done) | (simp; omega) | omega) _ | refine Below.alloc ?_ (by first | (simp; done) | (simp; omega) | omega) _))
          · first | (simp; done) | (simp; omega) | omega
        · have h2 : ¬ kd ≤ 6 := fun h2 => hr ⟨by omega, h2⟩
          clear hr
          go_wp2_with (first | (go_at_call 12; refine (unhide HPL _ (by (repeat (first | exact Below.refl _ _ | refine Below.drew ?_ | refine Below.alloc ?_ (by first | (simp; done) | (simp; omega)) _ | refine Below.setCell ?_ (by first | (simp; done) | (simp; omega)) _)))).mono ?_; rintro e w3 ⟨rfl, hb3⟩; obtain ⟨hcc, hff⟩ := bcell hb3; have hz3 : wr.heap.size < w3.heap.size := (by have := hb3.size; simp at this; omega); have HBX : Hid (Below w.heap.size w w3) := ((unhide HB).alloc (unhide HB).size _).trans (hb3.mono (by have := (unhide HB).size; simp; omega)); clear hb3) | (go_at_call 13; refine (unhide HSM _ 0).mono ?_; rintro e w4 ⟨rfl, hb4⟩; have HB4 := hide hb4; clear hb4))
          refine ⟨⟨k + 1, by omega, by go_num, ?_⟩, by simp [intOf]; omega⟩
          have hw3 : w.heap.size ≤ w3.heap.size := (unhide HBX).size
          refine Below.trans ?_ ((unhide HB4).mono ?_)
          · (repeat (first | exact unhide HBX | refine Below.setCell ?_ (by first | (simp; done) | (simp; omega) | omega) _ | refine Below.alloc ?_ (by first | (simp; done) | (simp; omega) | omega) _))
          · first | (simp; done) | (simp; omega) | omega
    · have hltz : ¬ (k : Int) < (N : Int) := by omega
      go_wp2
      go_ret
      exact ⟨rfl, unhide HB⟩
end Rs
end Go.Proofs.YtgmgnhkphlegpaaDoor
