/- Layer 5: RunsRefuses. -/
import Derived.Test.YtdlmpogmoepkjaaDoorLnP
import Derived.BigQuiet
namespace Go.Proofs.YtdlmpogmoepkjaaDoor
open Go.RowKit
namespace Rs
/-- where no step is refused ahead: a call that is refused changes nothing -/
theorem ply_refused {m : Sto} (h : m.ahead = 0) {o : Op5} (h11 : o.kd ≠ 11) : (ply m o).2.ahead = 0 ∧ ((ply m o).1.c ≠ 0 → (ply m o).2 = m) := by
  have ht : m.tick = m := tick_zero h
  unfold ply
  by_cases k1 : o.kd = 1
  · rw [if_pos k1]
    unfold crt
    rw [if_neg (by rw [h]; decide)]
    by_cases h8 : 16777216 ≤ m.made
    · rw [if_pos h8]; exact ⟨by rw [ht]; exact h, fun _ => ht⟩
    · rw [if_neg h8]; exact ⟨by simp [Sto.tick, Sto.newRun, h], fun e => absurd rfl e⟩
  rw [if_neg k1]
  by_cases k2 : o.kd = 2
  · rw [if_pos k2]
    unfold app
    rw [if_neg (by rw [h]; decide)]
    rcases look m.runs o.run with _ | r
    · exact ⟨by rw [ht]; exact h, fun _ => ht⟩
    · simp only
      cases hs : r.shut
      · simp only [Bool.false_eq_true, if_false]
        by_cases hc : tot m.runs + sz o.L ≤ m.cap
        · rw [if_pos hc]; exact ⟨by simp [Sto.tick, Sto.app, h], fun e => absurd rfl e⟩
        · rw [if_neg hc]; exact ⟨by rw [ht]; exact h, fun _ => ht⟩
      · simp only [if_true]
        exact ⟨by rw [ht]; exact h, fun _ => ht⟩
  rw [if_neg k2]
  by_cases k3 : o.kd = 3
  · rw [if_pos k3]
    unfold sel
    rw [if_neg (by rw [h]; decide)]
    rcases look m.runs o.run with _ | r
    · exact ⟨by rw [ht]; exact h, fun _ => ht⟩
    · simp only
      cases hs : r.shut
      · simp only [Bool.false_eq_true, if_false]
        exact ⟨by simp [Sto.tick, h], fun e => absurd rfl e⟩
      · simp only [if_true]
        exact ⟨by rw [ht]; exact h, fun _ => ht⟩
  rw [if_neg k3]
  by_cases k4 : o.kd = 4
  · rw [if_pos k4]; exact ⟨h, fun _ => rfl⟩
  rw [if_neg k4]
  by_cases k5 : o.kd = 5
  · rw [if_pos k5]; exact ⟨h, fun _ => rfl⟩
  rw [if_neg k5]
  by_cases k6 : o.kd = 6
  · rw [if_pos k6]
    unfold rem
    rcases look m.runs o.run with _ | r
    · exact ⟨h, fun _ => rfl⟩
    · exact ⟨h, fun e => absurd rfl e⟩
  rw [if_neg k6]
  by_cases k7 : o.kd = 7
  · rw [if_pos k7]; exact ⟨h, fun _ => rfl⟩
  rw [if_neg k7]
  by_cases k8 : o.kd = 8
  · rw [if_pos k8]; exact ⟨h, fun _ => rfl⟩
  rw [if_neg k8]
  by_cases k9 : o.kd = 9
  · rw [if_pos k9]; exact ⟨h, fun _ => rfl⟩
  rw [if_neg k9]
  by_cases k10 : o.kd = 10
  · rw [if_pos k10]; exact ⟨h, fun _ => rfl⟩
  rw [if_neg k10, if_neg h11]
  exact ⟨h, fun _ => rfl⟩
theorem op_cells {w : World} {g : Nat} {a b c d e : Value} (h : w.heap[g]? = some (.cells #[a, b, c, d, e] 30 (0, 0))) : w.cell? ⟨g, 0, none⟩ = some a ∧ w.cell? ⟨g, 1, none⟩ = some b ∧ w.cell? ⟨g, 2, none⟩ = some c ∧ w.cell? ⟨g, 3, none⟩ = some d ∧ w.cell? ⟨g, 4, none⟩ = some e := by
  refine ⟨?_, ?_, ?_, ?_, ?_⟩ <;> simp [World.cell?, h]
section
variable {w wr W : World} {L : List Thing} {D : Nat → Nat} {i sb : Nat} {m : Sto}
theorem sep_live (h : Sep w L D wr) (hb : Below wr.heap.size wr W) (hi : L[i]? = some (stoT sb m)) :
    Calls Tryd.prog 13 #[.pointer (some ⟨sb, 0, none⟩)] W fun e w' => ∃ v, e = .returned v ∧ Ints w' v (nums m.runs) ∧ Below W.heap.size W w' := by
  obtain ⟨F, h1, -⟩ := h.call hb hi
  have h1 : At W sb m F := h1
  refine (live_any h1).mono ?_
  rintro e w' ⟨v, rfl, ho, hbb⟩
  exact ⟨v, rfl, ints_own ho (by have := h1.ok.len; have := h1.ok.made; simp only [nums, List.length_map]; omega), hbb⟩
theorem sep_used (h : Sep w L D wr) (hb : Below wr.heap.size wr W) (hi : L[i]? = some (stoT sb m)) :
    Calls Tryd.prog 14 #[.pointer (some ⟨sb, 0, none⟩)] W fun e w' => e = .returned (.int .i64 (tot m.runs)) ∧ w' = W := by
  obtain ⟨F, h1, -⟩ := h.call hb hi
  exact used_any (show At W sb m F from h1)
theorem sep_peak (h : Sep w L D wr) (hb : Below wr.heap.size wr W) (hi : L[i]? = some (stoT sb m)) :
    Calls Tryd.prog 15 #[.pointer (some ⟨sb, 0, none⟩)] W fun e w' => e = .returned (.int .i64 m.peak) ∧ w' = W := by
  obtain ⟨F, h1, -⟩ := h.call hb hi
  exact peak_any (show At W sb m F from h1)
theorem sep_made (h : Sep w L D wr) (hb : Below wr.heap.size wr W) (hi : L[i]? = some (stoT sb m)) :
    Calls Tryd.prog 16 #[.pointer (some ⟨sb, 0, none⟩)] W fun e w' => e = .returned (.int .i64 m.made) ∧ w' = W := by
  obtain ⟨F, h1, -⟩ := h.call hb hi
  exact made_any (show At W sb m F from h1)
end
set_option maxRecDepth 100000 in
set_option maxHeartbeats 2000000 in
theorem refuses_law {w : World} {v : Value} {c : Int} {os : List (Op5 × Value)} {E : Nat → Addr} (V : Env w E w.heap.size) (hs : Script w v os) (hc1 : -9223372036854775808 ≤ c) (hc2 : c ≤ 9223372036854775807) :
    Calls Tryd.prog 5 #[.int .i64 c, v] w fun e w' => e = .returned (.bool true) ∧ Below w.heap.size w w' := by
  have HSN := hide (sep_new (Sep.nil w fun _ => 0) c hc1 hc2)
  have HSM2 : Hid (∀ {L : List Thing} {D : Nat → Nat} {w1 : World}, Sep w L D w1 → Calls Tryd.prog 6 #[.int .i64 c] w1 fun e w' => e = .returned (.pointer (some ⟨w1.heap.size, 0, none⟩)) ∧ Sep w (L ++ [stoT w1.heap.size (newS c)]) (fun _ => w'.heap.size) w') := fun h => sep_new h c hc1 hc2
  have HTN : Hid (∀ {L : List Thing} {D : Nat → Nat} {w1 : World}, Sep w L D w1 → Calls Tryd.prog 7 #[.int .i64 c] w1 fun e w' => e = .returned (.pointer (some ⟨w1.heap.size, 0, none⟩)) ∧ Sep w (L ++ [docT w1.heap.size (newS c)]) (fun _ => w'.heap.size) w') := fun h => sep_dnew h c hc1 hc2
  obtain ⟨ao, cap, rfl, hn, hok, hat⟩ := hs
  have HAT := hide hat
  have HOK := hide hok
  have HV := hide V
  obtain ⟨N, hN⟩ : ∃ N, N = os.length := ⟨_, rfl⟩
  have HN := hide hN
  rw [← hN] at hn ⊢
  clear hat hok hN V
  go_enter Tryd.func5, Tryd.ntmps5
  go_wp2_with (first | (go_at_call 6; refine (unhide HSN).mono ?_; clear HSN; rintro e w1 ⟨rfl, hb1⟩; have HS1 := hide hb1; clear hb1) | (go_at_call 6; refine (unhide HSM2 (unhide HS1)).mono ?_; clear HSM2; rintro e w2 ⟨rfl, hb2⟩; have HS2 := hide hb2; clear hb2) | (go_at_call 7; refine (unhide HTN (unhide HS2)).mono ?_; clear HTN; rintro e w3 ⟨rfl, hb3⟩; have HT := hide hb3; clear hb3) | (go_at_call 8; refine (sep_wakes (unhide HV) (unhide HT)).mono ?_; clear HT; rintro e w4 ⟨rfl, hb4⟩; have HT := hide hb4; clear hb4))
  simp only [List.nil_append, List.cons_append] at HT
  go_loopw [30] (fun i wr => ∃ (k : Nat) (m : Sto), k ≤ N ∧ i = .int .i64 k ∧ Hid (m.ahead = 0) ∧ Hid (Sep w [stoT w.heap.size m, stoT w1.heap.size m, docT w2.heap.size m] (fun _ => wr.heap.size) wr)) (fun i _ => N - (intOf i).toNat)
  case atStart => exact ⟨0, newS c, Nat.zero_le _, rfl, rfl, HT⟩
  case round =>
    obtain ⟨k, m, hk, rfl, HA, HB⟩ := hrel
    clear HT HS1 HS2
    by_cases hlt : k < N
    · have hltz : (k : Int) < (N : Int) := by omega
      have hk0 : 0 ≤ (k : Int) := by omega
      obtain ⟨p, hp⟩ : ∃ p, os[k]? = some p := ⟨_, List.getElem?_eq_getElem (by rw [← unhide HN]; exact hlt)⟩
      obtain ⟨g, off, rfl, hg, hc⟩ := unhide HAT (by rw [← unhide HN]; omega)
      have q := hc k p hp
      have hin := unhide HOK p (List.mem_of_getElem? hp)
      have l : ∀ o, wr.cell? ⟨g, o, none⟩ = w.cell? ⟨g, o, none⟩ := fun o => (unhide HB).old.cell (p := ⟨g, o, none⟩) hg
      have d0 := (l _).trans q.c0
      have d1 := (l _).trans q.c1
      have d2 := (l _).trans q.c2
      have d3 := (l _).trans q.c3
      have d4 := (l _).trans q.c4
      have HP1 : Hid (∀ W, Below wr.heap.size wr W → Calls Tryd.prog 11 #[.pointer (some ⟨w2.heap.size, 0, none⟩), opV p.1 p.2] W fun e w' => ∃ lv, e = .returned (ansV (ply m p.1).1 lv) ∧ (∀ W5, Chg (fun b => wr.heap.size ≤ b ∧ b < W.heap.size) w' W5 → Sep w [stoT w.heap.size m, stoT w1.heap.size m, docT w2.heap.size (ply m p.1).2] (updN (fun _ => wr.heap.size) 2 w'.heap.size) W5) ∧ IntsN W.heap.size w' lv (ply m p.1).1.l ∧ W.heap.size ≤ w'.heap.size ∧ ∀ b, wr.heap.size ≤ b → b < W.heap.size → w'.heap[b]? = W.heap[b]?) := fun W hb => sep_says (i := 2) (unhide HB) hb rfl hin
      have HP2 : Hid (∀ {m1 : Sto} {x : Nat} (w3 W : World), Sep w [stoT w.heap.size m, stoT w1.heap.size m, docT w2.heap.size m1] (updN (fun _ => wr.heap.size) 2 x) w3 → Below w3.heap.size w3 W → Calls Tryd.prog 9 #[.pointer (some ⟨w.heap.size, 0, none⟩), opV p.1 p.2] W fun e w' => ∃ lv, e = .returned (ansV (ply m p.1).1 lv) ∧ (∀ W5, Chg (fun b => w3.heap.size ≤ b ∧ b < W.heap.size) w' W5 → Sep w [stoT w.heap.size (ply m p.1).2, stoT w1.heap.size m, docT w2.heap.size m1] (updN (updN (fun _ => wr.heap.size) 2 x) 0 w'.heap.size) W5) ∧ IntsN W.heap.size w' lv (ply m p.1).1.l ∧ W.heap.size ≤ w'.heap.size ∧ ∀ b, wr.heap.size ≤ b → b < W.heap.size → w'.heap[b]? = W.heap[b]?) := fun w3 W h3 hb => sep_play (i := 0) (unhide HV) h3 hb rfl hin
      have HP3 : Hid (∀ {m1 m2 : Sto} {x y : Nat} (w4 W : World), Sep w [stoT w.heap.size m1, stoT w1.heap.size m, docT w2.heap.size m2] (updN (updN (fun _ => wr.heap.size) 2 x) 0 y) w4 → Below w4.heap.size w4 W → Calls Tryd.prog 9 #[.pointer (some ⟨w1.heap.size, 0, none⟩), opV p.1 p.2] W fun e w' => ∃ lv, e = .returned (ansV (ply m p.1).1 lv) ∧ (∀ W5, Chg (fun b => w4.heap.size ≤ b ∧ b < W.heap.size) w' W5 → Sep w [stoT w.heap.size m1, stoT w1.heap.size (ply m p.1).2, docT w2.heap.size m2] (fun _ => W5.heap.size) W5) ∧ IntsN W.heap.size w' lv (ply m p.1).1.l ∧ W.heap.size ≤ w'.heap.size ∧ ∀ b, wr.heap.size ≤ b → b < W.heap.size → w'.heap[b]? = W.heap[b]?) := fun w4 W h3 hb => (sep_play (i := 1) (unhide HV) h3 hb rfl hin).mono fun e w' hh => by
        obtain ⟨lv, e1, e2, e3⟩ := hh
        exact ⟨lv, e1, fun W5 c => (e2 W5 c).reset, e3⟩
      have HRF : Hid (p.1.kd ≠ 11 → (ply m p.1).2.ahead = 0 ∧ ((ply m p.1).1.c ≠ 0 → (ply m p.1).2 = m)) := fun h11 => ply_refused (unhide HA) h11
      obtain ⟨pa, pc, epv, -, -⟩ := hin.st
      unfold opV ansV at HP1 HP2 HP3
      rw [epv] at HP1 HP2 HP3 d4
      generalize p.1.L.length = PL at *
      generalize p.1.kd = kd at *
      clear q hc l hin epv hp
      by_cases h11 : kd = 11
      · subst h11
        go_wp2
        refine ⟨⟨k + 1, m, by omega, by go_num, HA, ?_⟩, by simp [intOf]; omega⟩
        exact (Sep.below (unhide HB) (by (repeat (first | exact Below.refl _ _ | refine Below.drew ?_ | refine Below.alloc ?_ (by first | (simp; done) | (simp; omega)) _ | refine Below.setCell ?_ (by first | (simp; done) | (simp; omega)) _)))).reset
      have hkb : (kd == 11) = false := by simp [h11]
      have hrf := unhide HRF h11
      generalize ply m p.1 = R at *
      obtain ⟨⟨rn, rc, rt, K⟩, rm⟩ := R
      dsimp only at HP1 HP2 HP3 hrf
      have HRM := hide hrf
      clear hrf HRF
      have HSM : Hid (∀ {W : World} {u v : Value}, Ints W u K → Ints W v K → Calls Tryd.prog 10 #[.agg #[.int .i64 rn, .int .i64 rc, .string (strB rt), u], .agg #[.int .i64 rn, .int .i64 rc, .string (strB rt), v]] W fun e w' => e = .returned (.bool true) ∧ Below W.heap.size W w') := fun h1 h2 => same_eq rn rc (strB rt) h1 h2
      go_wp2_with fail
      refine (unhide HP1 _ (by (repeat (first | exact Below.refl _ _ | refine Below.drew ?_ | refine Below.alloc ?_ (by first | (simp; done) | (simp; omega)) _ | refine Below.setCell ?_ (by first | (simp; done) | (simp; omega)) _)))).mono ?_
      clear HP1
      rintro e w3 ⟨lv, rfl, ht3, hi3, hs3, hk3⟩
      obtain ⟨la, lc, rfl⟩ := hi3.slice
      have HO3 := hide ((hk3 wr.heap.size (Nat.le_refl _) (by simp)).trans (MapKept.heap_alloc wr _).1)
      have hz3 : wr.heap.size < w3.heap.size := by simp at hs3; omega
      have HS3 := hide (ht3 w3 (Chg.refl _ _))
      obtain ⟨o0, o1, o2, o3, o4⟩ := op_cells (unhide HO3)
      clear ht3 hi3 hs3 hk3 d0 d1 d2 d3 d4
      go_wp2_with fail
      refine (unhide HP2 w3 _ (unhide HS3) (by (repeat (first | exact Below.refl _ _ | refine Below.drew ?_ | refine Below.alloc ?_ (by first | (simp; done) | (simp; omega)) _ | refine Below.setCell ?_ (by first | (simp; done) | (simp; omega)) _)))).mono ?_
      clear HP2
      rintro e w4 ⟨lv2, rfl, ht4, hi4, hs4, hk4⟩
      obtain ⟨la2, lc2, rfl⟩ := hi4.slice
      have HO4 := hide ((hk4 wr.heap.size (Nat.le_refl _) (by simp; omega)).trans ((Below.heap_alloc _ _ _ hz3).trans (unhide HO3)))
      have HA4 := hide ((hk4 w3.heap.size (by omega) (by simp)).trans (MapKept.heap_alloc w3 _).1)
      have hz4 : w3.heap.size < w4.heap.size := by simp at hs4; omega
      have HS4 := hide (ht4 w4 (Chg.refl _ _))
      have HI4 := hide (IntsN.mono (B2 := wr.heap.size) hi4 (by simp; omega))
      clear ht4 hi4 hs4 hk4 o0 o1 o2 o3 o4
      obtain ⟨o0, o1, o2, o3, o4⟩ := op_cells (unhide HO4)
      obtain ⟨a0, a1, a2, a3, -⟩ := ans_cells (unhide HA4)
      by_cases hrc : rc = 0
      · subst hrc
        go_wp2
        refine gen_world ?_
        intro V hV
        have b0 : V.cell? ⟨w4.heap.size, 0, none⟩ = some (.int .i64 rn) := by rw [hV]; go_simp
        have b1 : V.cell? ⟨w4.heap.size, 1, none⟩ = some (.int .i64 ((0 : Nat) : Int)) := by rw [hV]; go_simp
        have b2 : V.cell? ⟨w4.heap.size, 2, none⟩ = some (.string (strB rt)) := by rw [hV]; go_simp
        have b3 : V.cell? ⟨w4.heap.size, 3, none⟩ = some (.slice la2 K.length lc2) := by rw [hV]; go_simp
        have HBc : Below w4.heap.size w4 V := by rw [hV]; exact (Below.refl _ w4).alloc (Nat.le_refl _) _
        have c1 : V.cell? ⟨w3.heap.size, 1, none⟩ = some (.int .i64 0) := by rw [hV]; go_simp
        have p0 : V.cell? ⟨wr.heap.size, 0, none⟩ = some (.int .i64 kd) := (HBc.cell (p := ⟨wr.heap.size, 0, none⟩) (by show wr.heap.size < w4.heap.size; omega)).trans o0
        have p1 : V.cell? ⟨wr.heap.size, 1, none⟩ = some (.int .i64 p.1.run) := (HBc.cell (p := ⟨wr.heap.size, 1, none⟩) (by show wr.heap.size < w4.heap.size; omega)).trans o1
        have p2 : V.cell? ⟨wr.heap.size, 2, none⟩ = some (.int .i64 p.1.at_) := (HBc.cell (p := ⟨wr.heap.size, 2, none⟩) (by show wr.heap.size < w4.heap.size; omega)).trans o2
        have p3 : V.cell? ⟨wr.heap.size, 3, none⟩ = some (.int .i64 p.1.n) := (HBc.cell (p := ⟨wr.heap.size, 3, none⟩) (by show wr.heap.size < w4.heap.size; omega)).trans o3
        have p4 : V.cell? ⟨wr.heap.size, 4, none⟩ = some (.slice pa PL pc) := (HBc.cell (p := ⟨wr.heap.size, 4, none⟩) (by show wr.heap.size < w4.heap.size; omega)).trans o4
        have zV : V.heap.size = w4.heap.size + 1 := by rw [hV]; simp
        have HBV : Hid (Below w4.heap.size w4 V) := by rw [hV]; exact (Below.refl _ w4).alloc (Nat.le_refl _) _
        clear hV a0 a1 a2 a3 o0 o1 o2 o3 o4 HBc
        go_region_with (first
          | (go_at_call 9; refine (unhide HP3 w4 _ (unhide HS4) (by first | exact unhide HBV | exact (unhide HBV).drew)).mono ?_; rintro e w5 ⟨lv3, rfl, ht5, hi5, hs5, hk5⟩; obtain ⟨la3, lc3, rfl⟩ := hi5.slice; obtain ⟨hc5, hf5⟩ := cells_of hk5
             have e0 := (hc5 w4.heap.size 0 (by omega) (by show w4.heap.size < V.heap.size; omega)).trans b0
             have e1 := (hc5 w4.heap.size 1 (by omega) (by show w4.heap.size < V.heap.size; omega)).trans b1
             have e2 := (hc5 w4.heap.size 2 (by omega) (by show w4.heap.size < V.heap.size; omega)).trans b2
             have e3 := (hc5 w4.heap.size 3 (by omega) (by show w4.heap.size < V.heap.size; omega)).trans b3
             have HT6 := hide ht5
             have HL5 : Hid (Ints w5 (.slice la2 K.length lc2) K ∧ Ints w5 (.slice la3 K.length lc3) K) := ⟨((unhide HI4).keep (w' := w5) (fun b x y => (hk5 b x (by show b < V.heap.size; omega)).trans ((unhide HBV).block b y)) (by have : V.heap.size ≤ w5.heap.size := hs5; omega)).1, hi5.1⟩
             clear ht5 hi5 hs5 hk5 hc5 hf5)
          | (go_at_call 10; refine (unhide HSM (unhide HL5).2 (unhide HL5).1).mono ?_; rintro e w6 ⟨rfl, hb6⟩; have HB6 := hide hb6; clear hb6))
        all_goals
          go_wp2
          refine ⟨⟨k + 1, rm, by omega, by go_num, (unhide HRM).1, ?_⟩, by simp [intOf]; omega⟩
          exact ((unhide HT6 w5 (Chg.refl _ _)).below (unhide HB6)).reset
      · have hrb : ((rc : Int) == 0) = false := by simp; omega
        have hrm : rm = m := (unhide HRM).2 hrc
        subst hrm
        go_wp2
        refine gen_world ?_
        intro V hV
        have c1 : V.cell? ⟨w3.heap.size, 1, none⟩ = some (.int .i64 (rc : Int)) := by rw [hV]; go_simp
        have zV : V.heap.size = w4.heap.size + 1 := by rw [hV]; simp
        have HBV : Hid (Below w4.heap.size w4 V) := by rw [hV]; exact (Below.refl _ w4).alloc (Nat.le_refl _) _
        clear hV a0 a1 a2 a3 o0 o1 o2 o3 o4
        go_quiet (fail)
        go_wp2
        refine ⟨⟨k + 1, rm, by omega, by go_num, HA, ?_⟩, by simp [intOf]; omega⟩
        exact (Sep.below (W := V.drewN nq) ((unhide HS4).below (unhide HBV)) ⟨rfl, rfl, rfl, Nat.le_refl _, fun _ _ => rfl⟩).reset
    · have hltz : ¬ (k : Int) < (N : Int) := by omega
      have HX0 := hide (sep_live (i := 0) (unhide HB) (Below.refl _ _) rfl)
      have HX1 : Hid (∀ W, Below wr.heap.size wr W → _) := fun W h => sep_live (W := W) (i := 1) (unhide HB) h rfl
      have HU0 : Hid (∀ W, Below wr.heap.size wr W → _) := fun W h => sep_used (W := W) (i := 0) (unhide HB) h rfl
      have HU1 : Hid (∀ W, Below wr.heap.size wr W → _) := fun W h => sep_used (W := W) (i := 1) (unhide HB) h rfl
      have HK0 : Hid (∀ W, Below wr.heap.size wr W → _) := fun W h => sep_peak (W := W) (i := 0) (unhide HB) h rfl
      have HK1 : Hid (∀ W, Below wr.heap.size wr W → _) := fun W h => sep_peak (W := W) (i := 1) (unhide HB) h rfl
      have HM0 : Hid (∀ W, Below wr.heap.size wr W → _) := fun W h => sep_made (W := W) (i := 0) (unhide HB) h rfl
      have HM1 : Hid (∀ W, Below wr.heap.size wr W → _) := fun W h => sep_made (W := W) (i := 1) (unhide HB) h rfl
      go_wp2_with fail
      refine (unhide HX0).mono ?_
      rintro e w7 ⟨v1, rfl, hi7, hb7⟩
      have HI7 := hide hi7
      have HB7 := hide hb7
      clear hi7 hb7 HX0
      go_wp2_with fail
      refine (unhide HX1 _ (unhide HB7)).mono ?_
      rintro e w8 ⟨v2, rfl, hi8, hb8⟩
      have HI8 : Hid (Ints w8 v1 (nums m.runs) ∧ Ints w8 v2 (nums m.runs)) := ⟨(unhide HI7).below hb8, hi8⟩
      have HB8 := hide ((unhide HB7).trans (hb8.mono (unhide HB7).size))
      clear hi8 hb8 HX1
      go_wp2_with fail
      refine (list_eq (unhide HI8).1 (unhide HI8).2).mono ?_
      rintro e w9 ⟨rfl, hb9⟩
      have HB9 := hide ((unhide HB8).trans (hb9.mono (unhide HB8).size))
      clear hb9
      go_wp2_with (first
        | (go_at_call 14; refine (unhide HU0 _ (unhide HB9)).mono ?_; clear HU0; rintro e w10 ⟨rfl, hw10⟩; have hw11 := hw10.symm; subst hw11; clear hw10)
        | (go_at_call 14; refine (unhide HU1 _ (unhide HB9)).mono ?_; clear HU1; rintro e w10 ⟨rfl, hw10⟩; have hw11 := hw10.symm; subst hw11; clear hw10)
        | (go_at_call 15; refine (unhide HK0 _ (unhide HB9)).mono ?_; clear HK0; rintro e w10 ⟨rfl, hw10⟩; have hw11 := hw10.symm; subst hw11; clear hw10)
        | (go_at_call 15; refine (unhide HK1 _ (unhide HB9)).mono ?_; clear HK1; rintro e w10 ⟨rfl, hw10⟩; have hw11 := hw10.symm; subst hw11; clear hw10)
        | (go_at_call 16; refine (unhide HM0 _ (unhide HB9)).mono ?_; clear HM0; rintro e w10 ⟨rfl, hw10⟩; have hw11 := hw10.symm; subst hw11; clear hw10)
        | (go_at_call 16; refine (unhide HM1 _ (unhide HB9)).mono ?_; clear HM1; rintro e w10 ⟨rfl, hw10⟩; have hw11 := hw10.symm; subst hw11; clear hw10))
      go_ret
      exact ⟨by simp, (unhide HB).old.trans ((unhide HB9).mono (unhide HB).old.size)⟩
end Rs
end Go.Proofs.YtdlmpogmoepkjaaDoor
