/- Layer 5: RunsTwins. -/
import Derived.Test.YtdlmpogmoepkjaaDoorLnR
import Derived.Deep.RegionHeld3
namespace Go.Proofs.YtdlmpogmoepkjaaDoor
open Go.RowKit
namespace Rs
set_option maxRecDepth 100000 in
set_option maxHeartbeats 4000000 in
theorem twins_law {w : World} {vA vB : Value} {osA osB : List (Op5 × Value)} {E : Nat → Addr} (V : Env w E w.heap.size) (hsA : Script w vA osA) (hsB : Script w vB osB) :
    Calls Tryd.prog 4 #[vA, vB] w fun e w' => e = .returned (.bool true) ∧ Below w.heap.size w w' := by
  have HS1 := hide (sep_new (Sep.nil w fun _ => 0) 40 (by decide) (by decide))
  have HS2 : Hid (∀ {L : List Thing} {D : Nat → Nat} {w1 : World}, Sep w L D w1 → Calls Tryd.prog 6 #[.int .i64 90] w1 fun e w' => e = .returned (.pointer (some ⟨w1.heap.size, 0, none⟩)) ∧ Sep w (L ++ [stoT w1.heap.size (newS 90)]) (fun _ => w'.heap.size) w') := fun h => sep_new h 90 (by decide) (by decide)
  have HS3 : Hid (∀ {L : List Thing} {D : Nat → Nat} {w1 : World}, Sep w L D w1 → Calls Tryd.prog 7 #[.int .i64 40] w1 fun e w' => e = .returned (.pointer (some ⟨w1.heap.size, 0, none⟩)) ∧ Sep w (L ++ [docT w1.heap.size (newS 40)]) (fun _ => w'.heap.size) w') := fun h => sep_dnew h 40 (by decide) (by decide)
  have HS4 : Hid (∀ {L : List Thing} {D : Nat → Nat} {w1 : World}, Sep w L D w1 → Calls Tryd.prog 7 #[.int .i64 90] w1 fun e w' => e = .returned (.pointer (some ⟨w1.heap.size, 0, none⟩)) ∧ Sep w (L ++ [docT w1.heap.size (newS 90)]) (fun _ => w'.heap.size) w') := fun h => sep_dnew h 90 (by decide) (by decide)
  have HV := hide V
  clear V
  obtain ⟨aoA, capA, rfl, hnA, hokA, hatA⟩ := hsA
  have HATA := hide hatA
  have HOKA := hide hokA
  obtain ⟨NA, hNA⟩ : ∃ N, N = osA.length := ⟨_, rfl⟩
  have HNA := hide hNA
  rw [← hNA] at hnA ⊢
  clear hatA hokA hNA
  obtain ⟨aoB, capB, rfl, hnB, hokB, hatB⟩ := hsB
  have HATB := hide hatB
  have HOKB := hide hokB
  obtain ⟨NB, hNB⟩ : ∃ N, N = osB.length := ⟨_, rfl⟩
  have HNB := hide hNB
  rw [← hNB] at hnB ⊢
  clear hatB hokB hNB
  go_enter Tryd.func4, Tryd.ntmps4
  go_wp2_with fail
  refine (unhide HS1).mono ?_
  rintro e u1 ⟨rfl, hb1⟩
  have HT1 := hide hb1
  clear hb1 HS1
  go_wp2_with fail
  refine (unhide HS2 (unhide HT1)).mono ?_
  rintro e u2 ⟨rfl, hb1⟩
  have HT2 := hide hb1
  clear hb1 HS2 HT1
  go_wp2_with fail
  refine (unhide HS3 (unhide HT2)).mono ?_
  rintro e u3 ⟨rfl, hb1⟩
  have HT3 := hide hb1
  clear hb1 HS3 HT2
  go_wp2_with fail
  refine (unhide HS4 (unhide HT3)).mono ?_
  rintro e u4 ⟨rfl, hb1⟩
  have HT4 := hide hb1
  clear hb1 HS4 HT3
  go_wp2_with (go_at_call 8; refine (sep_wakes (unhide HV) (unhide HT4)).mono ?_; clear HT4; rintro e u5 ⟨rfl, hb4⟩; have HT := hide hb4; clear hb4)
  simp only [List.nil_append, List.cons_append] at HT
  go_loopw [9] (fun i wr => ∃ (k : Nat) (m1 m2 : Sto), k ≤ max NA NB ∧ i = .int .i64 k ∧ Hid (Sep w [stoT w.heap.size m1, stoT u1.heap.size m2, docT u2.heap.size m1, docT u3.heap.size m2] (fun _ => wr.heap.size) wr)) (fun i _ => max NA NB - (intOf i).toNat)
  case atStart => exact ⟨0, newS 40, newS 90, Nat.zero_le _, rfl, HT⟩
  case round =>
    obtain ⟨k, m1, m2, hk, rfl, HB⟩ := hrel
    clear HT
    have hk0 : 0 ≤ (k : Int) := by omega
    by_cases hA : k < NA
    · have hAz : (k : Int) < (NA : Int) := by omega
      by_cases hB : k < NB
      · have hBz : (k : Int) < (NB : Int) := by omega
        go_wp2
        obtain ⟨pA, hpA⟩ : ∃ p, osA[k]? = some p := ⟨_, List.getElem?_eq_getElem (by rw [← unhide HNA]; omega)⟩
        obtain ⟨gA, offA, eaA, hgA, hcA⟩ := unhide HATA (by rw [← unhide HNA]; omega)
        subst eaA
        have qA := hcA k pA hpA
        have hinA := unhide HOKA pA (List.mem_of_getElem? hpA)
        obtain ⟨paA, pcA, epvA, -, -⟩ := hinA.st
        have SA : Hid (∀ W, Below w.heap.size w W → W.cell? ⟨gA, offA + k * 5, none⟩ = some (.int .i64 pA.1.kd) ∧ W.cell? ⟨gA, offA + k * 5 + 1, none⟩ = some (.int .i64 pA.1.run) ∧ W.cell? ⟨gA, offA + k * 5 + 2, none⟩ = some (.int .i64 pA.1.at_) ∧ W.cell? ⟨gA, offA + k * 5 + 3, none⟩ = some (.int .i64 pA.1.n) ∧ W.cell? ⟨gA, offA + k * 5 + 4, none⟩ = some (.slice paA pA.1.L.length pcA)) := fun W hW => by
          have l : ∀ o, W.cell? ⟨gA, o, none⟩ = w.cell? ⟨gA, o, none⟩ := fun o => hW.cell (p := ⟨gA, o, none⟩) hgA
          have d4 := (l _).trans qA.c4
          rw [epvA] at d4
          exact ⟨(l _).trans qA.c0, (l _).trans qA.c1, (l _).trans qA.c2, (l _).trans qA.c3, d4⟩
        have HP1A : Hid (∀ W, Below wr.heap.size wr W → Calls Tryd.prog 9 #[.pointer (some ⟨w.heap.size, 0, none⟩), opV pA.1 pA.2] W fun e w' => ∃ lv, e = .returned (ansV (ply m1 pA.1).1 lv) ∧ (∀ W5, Chg (fun b => wr.heap.size ≤ b ∧ b < W.heap.size) w' W5 → Sep w [stoT w.heap.size (ply m1 pA.1).2, stoT u1.heap.size m2, docT u2.heap.size m1, docT u3.heap.size m2] (updN (fun _ => wr.heap.size) 0 w'.heap.size) W5) ∧ IntsN W.heap.size w' lv (ply m1 pA.1).1.l ∧ W.heap.size ≤ w'.heap.size ∧ ∀ b, wr.heap.size ≤ b → b < W.heap.size → w'.heap[b]? = W.heap[b]?) := fun W hb => sep_play (i := 0) (unhide HV) (unhide HB) hb rfl hinA
        have HD1A : Hid (∀ W, Below wr.heap.size wr W → Calls Tryd.prog 11 #[.pointer (some ⟨u2.heap.size, 0, none⟩), opV pA.1 pA.2] W fun e w' => ∃ lv, e = .returned (ansV (ply m1 pA.1).1 lv) ∧ (∀ W5, Chg (fun b => wr.heap.size ≤ b ∧ b < W.heap.size) w' W5 → Sep w [stoT w.heap.size m1, stoT u1.heap.size m2, docT u2.heap.size (ply m1 pA.1).2, docT u3.heap.size m2] (updN (fun _ => wr.heap.size) 2 w'.heap.size) W5) ∧ IntsN W.heap.size w' lv (ply m1 pA.1).1.l ∧ W.heap.size ≤ w'.heap.size ∧ ∀ b, wr.heap.size ≤ b → b < W.heap.size → w'.heap[b]? = W.heap[b]?) := fun W hb => sep_says (i := 2) (unhide HB) hb rfl hinA
        have HD2A : Hid (∀ {x : Nat} (w3 : World), Sep w [stoT w.heap.size (ply m1 pA.1).2, stoT u1.heap.size m2, docT u2.heap.size m1, docT u3.heap.size m2] (updN (fun _ => wr.heap.size) 0 x) w3 → Calls Tryd.prog 11 #[.pointer (some ⟨u2.heap.size, 0, none⟩), opV pA.1 pA.2] w3 fun e w' => ∃ lv, e = .returned (ansV (ply m1 pA.1).1 lv) ∧ Sep w [stoT w.heap.size (ply m1 pA.1).2, stoT u1.heap.size m2, docT u2.heap.size (ply m1 pA.1).2, docT u3.heap.size m2] (fun _ => w'.heap.size) w' ∧ IntsN w3.heap.size w' lv (ply m1 pA.1).1.l ∧ w3.heap.size ≤ w'.heap.size ∧ ∀ b, wr.heap.size ≤ b → b < w3.heap.size → w'.heap[b]? = w3.heap[b]?) := fun w3 h3 => (sep_says (i := 2) h3 (Below.refl _ _) rfl hinA).mono fun e w' hh => by
          obtain ⟨lv, e1, e2, e3⟩ := hh
          exact ⟨lv, e1, (e2 w' (Chg.refl _ _)).reset, e3⟩
        have HP2A : Hid (∀ {x : Nat} (w3 : World), Sep w [stoT w.heap.size m1, stoT u1.heap.size m2, docT u2.heap.size (ply m1 pA.1).2, docT u3.heap.size m2] (updN (fun _ => wr.heap.size) 2 x) w3 → Calls Tryd.prog 9 #[.pointer (some ⟨w.heap.size, 0, none⟩), opV pA.1 pA.2] w3 fun e w' => ∃ lv, e = .returned (ansV (ply m1 pA.1).1 lv) ∧ Sep w [stoT w.heap.size (ply m1 pA.1).2, stoT u1.heap.size m2, docT u2.heap.size (ply m1 pA.1).2, docT u3.heap.size m2] (fun _ => w'.heap.size) w' ∧ IntsN w3.heap.size w' lv (ply m1 pA.1).1.l ∧ w3.heap.size ≤ w'.heap.size ∧ ∀ b, wr.heap.size ≤ b → b < w3.heap.size → w'.heap[b]? = w3.heap[b]?) := fun w3 h3 => (sep_play (i := 0) (unhide HV) h3 (Below.refl _ _) rfl hinA).mono fun e w' hh => by
          obtain ⟨lv, e1, e2, e3⟩ := hh
          exact ⟨lv, e1, (e2 w' (Chg.refl _ _)).reset, e3⟩
        unfold opV ansV at HP1A HP2A HD1A HD2A
        rw [epvA] at HP1A HP2A HD1A HD2A
        clear qA hcA hinA epvA hpA
        generalize pA.1.L.length = PLA at *
        generalize ply m1 pA.1 = RA at *
        obtain ⟨⟨rnA, rcA, rtA, KA⟩, rmA⟩ := RA
        dsimp only at HP1A HP2A HD1A HD2A
        have HSMA : Hid (∀ {W : World} {u v : Value}, Ints W u KA → Ints W v KA → Calls Tryd.prog 10 #[.agg #[.int .i64 rnA, .int .i64 rcA, .string (strB rtA), u], .agg #[.int .i64 rnA, .int .i64 rcA, .string (strB rtA), v]] W fun e w' => e = .returned (.bool true) ∧ Below W.heap.size W w') := fun h1 h2 => same_eq rnA rcA (strB rtA) h1 h2
        have s0A := unhide SA wr (unhide HB).old
        go_region_held3 (fun w' => w'.cell? ⟨gA, offA + k * 5, none⟩ = some (.int .i64 pA.1.kd) ∧ w'.cell? ⟨gA, offA + k * 5 + 1, none⟩ = some (.int .i64 pA.1.run) ∧ w'.cell? ⟨gA, offA + k * 5 + 2, none⟩ = some (.int .i64 pA.1.at_) ∧ w'.cell? ⟨gA, offA + k * 5 + 3, none⟩ = some (.int .i64 pA.1.n) ∧ w'.cell? ⟨gA, offA + k * 5 + 4, none⟩ = some (.slice paA PLA pcA))
          (first | exact s0A | exact s3A | exact s5A | exact s6A)
          (first
            | (go_at_call 11; refine (unhide HD2A _ (unhide HPFA)).mono ?_; rintro e w5A ⟨lwA, rfl, ht5, hi5, hs5, hk5⟩; obtain ⟨lbA, ldA, rfl⟩ := hi5.slice; have s5A := unhide SA _ ht5.old; have HT6A := hide ht5; have HL5A : Hid (Ints w5A (.slice laA KA.length lcA) KA ∧ Ints w5A (.slice lbA KA.length ldA) KA) := ⟨((unhide HI3A).keep (w' := w5A) (fun b x y => hk5 b x y) hs5).1, hi5.1⟩; clear ht5 hi5 hs5 hk5)
            | (go_at_call 9; refine (unhide HP2A _ (unhide HDFA)).mono ?_; rintro e w5A ⟨lvA, rfl, ht5, hi5, hs5, hk5⟩; obtain ⟨laA, lcA, rfl⟩ := hi5.slice; have s5A := unhide SA _ ht5.old; have HT6A := hide ht5; have HL5A : Hid (Ints w5A (.slice laA KA.length lcA) KA ∧ Ints w5A (.slice lbA KA.length ldA) KA) := ⟨hi5.1, ((unhide HI3A).keep (w' := w5A) (fun b x y => hk5 b x y) hs5).1⟩; clear ht5 hi5 hs5 hk5)
            | (go_at_call 9; refine (unhide HP1A _ (by first | exact Below.refl _ _ | exact (Below.refl _ _).drew)).mono ?_; rintro e w3A ⟨lvA, rfl, ht3, hi3, hs3, hk3⟩; obtain ⟨laA, lcA, rfl⟩ := hi3.slice; have HPFA := hide (ht3 w3A (Chg.refl _ _)); have s3A := unhide SA _ (unhide HPFA).old; have HI3A := hide (IntsN.mono (B2 := wr.heap.size) hi3 (by first | exact Nat.le_refl _ | simp)); clear ht3 hi3 hs3 hk3)
            | (go_at_call 11; refine (unhide HD1A _ (by first | exact Below.refl _ _ | exact (Below.refl _ _).drew)).mono ?_; rintro e w3A ⟨lwA, rfl, ht3, hi3, hs3, hk3⟩; obtain ⟨lbA, ldA, rfl⟩ := hi3.slice; have HDFA := hide (ht3 w3A (Chg.refl _ _)); have s3A := unhide SA _ (unhide HDFA).old; have HI3A := hide (IntsN.mono (B2 := wr.heap.size) hi3 (by first | exact Nat.le_refl _ | simp)); clear ht3 hi3 hs3 hk3)
            | (go_at_call 10; refine (unhide HSMA (unhide HL5A).1 (unhide HL5A).2).mono ?_; rintro e w6A ⟨rfl, hb6⟩; have HFA := hide ((unhide HT6A).below hb6).reset; have s6A := unhide SA _ (unhide HFA).old; clear hb6))
        all_goals
          clear s0A s3A s5A s6A HP1A HP2A HD1A HD2A HSMA HT6A HL5A HI3A
          go_wp2
          obtain ⟨pB, hpB⟩ : ∃ p, osB[k]? = some p := ⟨_, List.getElem?_eq_getElem (by rw [← unhide HNB]; omega)⟩
          obtain ⟨gB, offB, eaB, hgB, hcB⟩ := unhide HATB (by rw [← unhide HNB]; omega)
          subst eaB
          have qB := hcB k pB hpB
          have hinB := unhide HOKB pB (List.mem_of_getElem? hpB)
          obtain ⟨paB, pcB, epvB, -, -⟩ := hinB.st
          have SB : Hid (∀ W, Below w.heap.size w W → W.cell? ⟨gB, offB + k * 5, none⟩ = some (.int .i64 pB.1.kd) ∧ W.cell? ⟨gB, offB + k * 5 + 1, none⟩ = some (.int .i64 pB.1.run) ∧ W.cell? ⟨gB, offB + k * 5 + 2, none⟩ = some (.int .i64 pB.1.at_) ∧ W.cell? ⟨gB, offB + k * 5 + 3, none⟩ = some (.int .i64 pB.1.n) ∧ W.cell? ⟨gB, offB + k * 5 + 4, none⟩ = some (.slice paB pB.1.L.length pcB)) := fun W hW => by
            have l : ∀ o, W.cell? ⟨gB, o, none⟩ = w.cell? ⟨gB, o, none⟩ := fun o => hW.cell (p := ⟨gB, o, none⟩) hgB
            have d4 := (l _).trans qB.c4
            rw [epvB] at d4
            exact ⟨(l _).trans qB.c0, (l _).trans qB.c1, (l _).trans qB.c2, (l _).trans qB.c3, d4⟩
          have HP1B : Hid (∀ W, Below w6A.heap.size w6A W → Calls Tryd.prog 9 #[.pointer (some ⟨u1.heap.size, 0, none⟩), opV pB.1 pB.2] W fun e w' => ∃ lv, e = .returned (ansV (ply m2 pB.1).1 lv) ∧ (∀ W5, Chg (fun b => w6A.heap.size ≤ b ∧ b < W.heap.size) w' W5 → Sep w [stoT w.heap.size rmA, stoT u1.heap.size (ply m2 pB.1).2, docT u2.heap.size rmA, docT u3.heap.size m2] (updN (fun _ => w6A.heap.size) 1 w'.heap.size) W5) ∧ IntsN W.heap.size w' lv (ply m2 pB.1).1.l ∧ W.heap.size ≤ w'.heap.size ∧ ∀ b, w6A.heap.size ≤ b → b < W.heap.size → w'.heap[b]? = W.heap[b]?) := fun W hb => sep_play (i := 1) (unhide HV) (unhide HFA) hb rfl hinB
          have HD1B : Hid (∀ W, Below w6A.heap.size w6A W → Calls Tryd.prog 11 #[.pointer (some ⟨u3.heap.size, 0, none⟩), opV pB.1 pB.2] W fun e w' => ∃ lv, e = .returned (ansV (ply m2 pB.1).1 lv) ∧ (∀ W5, Chg (fun b => w6A.heap.size ≤ b ∧ b < W.heap.size) w' W5 → Sep w [stoT w.heap.size rmA, stoT u1.heap.size m2, docT u2.heap.size rmA, docT u3.heap.size (ply m2 pB.1).2] (updN (fun _ => w6A.heap.size) 3 w'.heap.size) W5) ∧ IntsN W.heap.size w' lv (ply m2 pB.1).1.l ∧ W.heap.size ≤ w'.heap.size ∧ ∀ b, w6A.heap.size ≤ b → b < W.heap.size → w'.heap[b]? = W.heap[b]?) := fun W hb => sep_says (i := 3) (unhide HFA) hb rfl hinB
          have HD2B : Hid (∀ {x : Nat} (w3 : World), Sep w [stoT w.heap.size rmA, stoT u1.heap.size (ply m2 pB.1).2, docT u2.heap.size rmA, docT u3.heap.size m2] (updN (fun _ => w6A.heap.size) 1 x) w3 → Calls Tryd.prog 11 #[.pointer (some ⟨u3.heap.size, 0, none⟩), opV pB.1 pB.2] w3 fun e w' => ∃ lv, e = .returned (ansV (ply m2 pB.1).1 lv) ∧ Sep w [stoT w.heap.size rmA, stoT u1.heap.size (ply m2 pB.1).2, docT u2.heap.size rmA, docT u3.heap.size (ply m2 pB.1).2] (fun _ => w'.heap.size) w' ∧ IntsN w3.heap.size w' lv (ply m2 pB.1).1.l ∧ w3.heap.size ≤ w'.heap.size ∧ ∀ b, w6A.heap.size ≤ b → b < w3.heap.size → w'.heap[b]? = w3.heap[b]?) := fun w3 h3 => (sep_says (i := 3) h3 (Below.refl _ _) rfl hinB).mono fun e w' hh => by
            obtain ⟨lv, e1, e2, e3⟩ := hh
            exact ⟨lv, e1, (e2 w' (Chg.refl _ _)).reset, e3⟩
          have HP2B : Hid (∀ {x : Nat} (w3 : World), Sep w [stoT w.heap.size rmA, stoT u1.heap.size m2, docT u2.heap.size rmA, docT u3.heap.size (ply m2 pB.1).2] (updN (fun _ => w6A.heap.size) 3 x) w3 → Calls Tryd.prog 9 #[.pointer (some ⟨u1.heap.size, 0, none⟩), opV pB.1 pB.2] w3 fun e w' => ∃ lv, e = .returned (ansV (ply m2 pB.1).1 lv) ∧ Sep w [stoT w.heap.size rmA, stoT u1.heap.size (ply m2 pB.1).2, docT u2.heap.size rmA, docT u3.heap.size (ply m2 pB.1).2] (fun _ => w'.heap.size) w' ∧ IntsN w3.heap.size w' lv (ply m2 pB.1).1.l ∧ w3.heap.size ≤ w'.heap.size ∧ ∀ b, w6A.heap.size ≤ b → b < w3.heap.size → w'.heap[b]? = w3.heap[b]?) := fun w3 h3 => (sep_play (i := 1) (unhide HV) h3 (Below.refl _ _) rfl hinB).mono fun e w' hh => by
            obtain ⟨lv, e1, e2, e3⟩ := hh
            exact ⟨lv, e1, (e2 w' (Chg.refl _ _)).reset, e3⟩
          unfold opV ansV at HP1B HP2B HD1B HD2B
          rw [epvB] at HP1B HP2B HD1B HD2B
          clear qB hcB hinB epvB hpB
          generalize pB.1.L.length = PLB at *
          generalize ply m2 pB.1 = RB at *
          obtain ⟨⟨rnB, rcB, rtB, KB⟩, rmB⟩ := RB
          dsimp only at HP1B HP2B HD1B HD2B
          have HSMB : Hid (∀ {W : World} {u v : Value}, Ints W u KB → Ints W v KB → Calls Tryd.prog 10 #[.agg #[.int .i64 rnB, .int .i64 rcB, .string (strB rtB), u], .agg #[.int .i64 rnB, .int .i64 rcB, .string (strB rtB), v]] W fun e w' => e = .returned (.bool true) ∧ Below W.heap.size W w') := fun h1 h2 => same_eq rnB rcB (strB rtB) h1 h2
          have s0B := unhide SB w6A (unhide HFA).old
          go_region_held3 (fun w' => w'.cell? ⟨gB, offB + k * 5, none⟩ = some (.int .i64 pB.1.kd) ∧ w'.cell? ⟨gB, offB + k * 5 + 1, none⟩ = some (.int .i64 pB.1.run) ∧ w'.cell? ⟨gB, offB + k * 5 + 2, none⟩ = some (.int .i64 pB.1.at_) ∧ w'.cell? ⟨gB, offB + k * 5 + 3, none⟩ = some (.int .i64 pB.1.n) ∧ w'.cell? ⟨gB, offB + k * 5 + 4, none⟩ = some (.slice paB PLB pcB))
            (first | exact s0B | exact s3B | exact s5B | exact s6B)
            (first
              | (go_at_call 11; refine (unhide HD2B _ (unhide HPFB)).mono ?_; rintro e w5B ⟨lwB, rfl, ht5, hi5, hs5, hk5⟩; obtain ⟨lbB, ldB, rfl⟩ := hi5.slice; have s5B := unhide SB _ ht5.old; have HT6B := hide ht5; have HL5B : Hid (Ints w5B (.slice laB KB.length lcB) KB ∧ Ints w5B (.slice lbB KB.length ldB) KB) := ⟨((unhide HI3B).keep (w' := w5B) (fun b x y => hk5 b x y) hs5).1, hi5.1⟩; clear ht5 hi5 hs5 hk5)
              | (go_at_call 9; refine (unhide HP2B _ (unhide HDFB)).mono ?_; rintro e w5B ⟨lvB, rfl, ht5, hi5, hs5, hk5⟩; obtain ⟨laB, lcB, rfl⟩ := hi5.slice; have s5B := unhide SB _ ht5.old; have HT6B := hide ht5; have HL5B : Hid (Ints w5B (.slice laB KB.length lcB) KB ∧ Ints w5B (.slice lbB KB.length ldB) KB) := ⟨hi5.1, ((unhide HI3B).keep (w' := w5B) (fun b x y => hk5 b x y) hs5).1⟩; clear ht5 hi5 hs5 hk5)
              | (go_at_call 9; refine (unhide HP1B _ (by first | exact Below.refl _ _ | exact (Below.refl _ _).drew)).mono ?_; rintro e w3B ⟨lvB, rfl, ht3, hi3, hs3, hk3⟩; obtain ⟨laB, lcB, rfl⟩ := hi3.slice; have HPFB := hide (ht3 w3B (Chg.refl _ _)); have s3B := unhide SB _ (unhide HPFB).old; have HI3B := hide (IntsN.mono (B2 := w6A.heap.size) hi3 (by first | exact Nat.le_refl _ | simp)); clear ht3 hi3 hs3 hk3)
              | (go_at_call 11; refine (unhide HD1B _ (by first | exact Below.refl _ _ | exact (Below.refl _ _).drew)).mono ?_; rintro e w3B ⟨lwB, rfl, ht3, hi3, hs3, hk3⟩; obtain ⟨lbB, ldB, rfl⟩ := hi3.slice; have HDFB := hide (ht3 w3B (Chg.refl _ _)); have s3B := unhide SB _ (unhide HDFB).old; have HI3B := hide (IntsN.mono (B2 := w6A.heap.size) hi3 (by first | exact Nat.le_refl _ | simp)); clear ht3 hi3 hs3 hk3)
              | (go_at_call 10; refine (unhide HSMB (unhide HL5B).1 (unhide HL5B).2).mono ?_; rintro e w6B ⟨rfl, hb6⟩; have HFB := hide ((unhide HT6B).below hb6).reset; have s6B := unhide SB _ (unhide HFB).old; clear hb6))
          all_goals
            clear s0B s3B s5B s6B HP1B HP2B HD1B HD2B HSMB HT6B HL5B HI3B
            go_wp2
            refine ⟨⟨k + 1, rmA, rmB, by omega, by go_num, HFB⟩, by simp [intOf]; omega⟩
      · have hBz : ¬ (k : Int) < (NB : Int) := by omega
        go_wp2
        obtain ⟨pA, hpA⟩ : ∃ p, osA[k]? = some p := ⟨_, List.getElem?_eq_getElem (by rw [← unhide HNA]; omega)⟩
        obtain ⟨gA, offA, eaA, hgA, hcA⟩ := unhide HATA (by rw [← unhide HNA]; omega)
        subst eaA
        have qA := hcA k pA hpA
        have hinA := unhide HOKA pA (List.mem_of_getElem? hpA)
        obtain ⟨paA, pcA, epvA, -, -⟩ := hinA.st
        have SA : Hid (∀ W, Below w.heap.size w W → W.cell? ⟨gA, offA + k * 5, none⟩ = some (.int .i64 pA.1.kd) ∧ W.cell? ⟨gA, offA + k * 5 + 1, none⟩ = some (.int .i64 pA.1.run) ∧ W.cell? ⟨gA, offA + k * 5 + 2, none⟩ = some (.int .i64 pA.1.at_) ∧ W.cell? ⟨gA, offA + k * 5 + 3, none⟩ = some (.int .i64 pA.1.n) ∧ W.cell? ⟨gA, offA + k * 5 + 4, none⟩ = some (.slice paA pA.1.L.length pcA)) := fun W hW => by
          have l : ∀ o, W.cell? ⟨gA, o, none⟩ = w.cell? ⟨gA, o, none⟩ := fun o => hW.cell (p := ⟨gA, o, none⟩) hgA
          have d4 := (l _).trans qA.c4
          rw [epvA] at d4
          exact ⟨(l _).trans qA.c0, (l _).trans qA.c1, (l _).trans qA.c2, (l _).trans qA.c3, d4⟩
        have HP1A : Hid (∀ W, Below wr.heap.size wr W → Calls Tryd.prog 9 #[.pointer (some ⟨w.heap.size, 0, none⟩), opV pA.1 pA.2] W fun e w' => ∃ lv, e = .returned (ansV (ply m1 pA.1).1 lv) ∧ (∀ W5, Chg (fun b => wr.heap.size ≤ b ∧ b < W.heap.size) w' W5 → Sep w [stoT w.heap.size (ply m1 pA.1).2, stoT u1.heap.size m2, docT u2.heap.size m1, docT u3.heap.size m2] (updN (fun _ => wr.heap.size) 0 w'.heap.size) W5) ∧ IntsN W.heap.size w' lv (ply m1 pA.1).1.l ∧ W.heap.size ≤ w'.heap.size ∧ ∀ b, wr.heap.size ≤ b → b < W.heap.size → w'.heap[b]? = W.heap[b]?) := fun W hb => sep_play (i := 0) (unhide HV) (unhide HB) hb rfl hinA
        have HD1A : Hid (∀ W, Below wr.heap.size wr W → Calls Tryd.prog 11 #[.pointer (some ⟨u2.heap.size, 0, none⟩), opV pA.1 pA.2] W fun e w' => ∃ lv, e = .returned (ansV (ply m1 pA.1).1 lv) ∧ (∀ W5, Chg (fun b => wr.heap.size ≤ b ∧ b < W.heap.size) w' W5 → Sep w [stoT w.heap.size m1, stoT u1.heap.size m2, docT u2.heap.size (ply m1 pA.1).2, docT u3.heap.size m2] (updN (fun _ => wr.heap.size) 2 w'.heap.size) W5) ∧ IntsN W.heap.size w' lv (ply m1 pA.1).1.l ∧ W.heap.size ≤ w'.heap.size ∧ ∀ b, wr.heap.size ≤ b → b < W.heap.size → w'.heap[b]? = W.heap[b]?) := fun W hb => sep_says (i := 2) (unhide HB) hb rfl hinA
        have HD2A : Hid (∀ {x : Nat} (w3 : World), Sep w [stoT w.heap.size (ply m1 pA.1).2, stoT u1.heap.size m2, docT u2.heap.size m1, docT u3.heap.size m2] (updN (fun _ => wr.heap.size) 0 x) w3 → Calls Tryd.prog 11 #[.pointer (some ⟨u2.heap.size, 0, none⟩), opV pA.1 pA.2] w3 fun e w' => ∃ lv, e = .returned (ansV (ply m1 pA.1).1 lv) ∧ Sep w [stoT w.heap.size (ply m1 pA.1).2, stoT u1.heap.size m2, docT u2.heap.size (ply m1 pA.1).2, docT u3.heap.size m2] (fun _ => w'.heap.size) w' ∧ IntsN w3.heap.size w' lv (ply m1 pA.1).1.l ∧ w3.heap.size ≤ w'.heap.size ∧ ∀ b, wr.heap.size ≤ b → b < w3.heap.size → w'.heap[b]? = w3.heap[b]?) := fun w3 h3 => (sep_says (i := 2) h3 (Below.refl _ _) rfl hinA).mono fun e w' hh => by
          obtain ⟨lv, e1, e2, e3⟩ := hh
          exact ⟨lv, e1, (e2 w' (Chg.refl _ _)).reset, e3⟩
        have HP2A : Hid (∀ {x : Nat} (w3 : World), Sep w [stoT w.heap.size m1, stoT u1.heap.size m2, docT u2.heap.size (ply m1 pA.1).2, docT u3.heap.size m2] (updN (fun _ => wr.heap.size) 2 x) w3 → Calls Tryd.prog 9 #[.pointer (some ⟨w.heap.size, 0, none⟩), opV pA.1 pA.2] w3 fun e w' => ∃ lv, e = .returned (ansV (ply m1 pA.1).1 lv) ∧ Sep w [stoT w.heap.size (ply m1 pA.1).2, stoT u1.heap.size m2, docT u2.heap.size (ply m1 pA.1).2, docT u3.heap.size m2] (fun _ => w'.heap.size) w' ∧ IntsN w3.heap.size w' lv (ply m1 pA.1).1.l ∧ w3.heap.size ≤ w'.heap.size ∧ ∀ b, wr.heap.size ≤ b → b < w3.heap.size → w'.heap[b]? = w3.heap[b]?) := fun w3 h3 => (sep_play (i := 0) (unhide HV) h3 (Below.refl _ _) rfl hinA).mono fun e w' hh => by
          obtain ⟨lv, e1, e2, e3⟩ := hh
          exact ⟨lv, e1, (e2 w' (Chg.refl _ _)).reset, e3⟩
        unfold opV ansV at HP1A HP2A HD1A HD2A
        rw [epvA] at HP1A HP2A HD1A HD2A
        clear qA hcA hinA epvA hpA
        generalize pA.1.L.length = PLA at *
        generalize ply m1 pA.1 = RA at *
        obtain ⟨⟨rnA, rcA, rtA, KA⟩, rmA⟩ := RA
        dsimp only at HP1A HP2A HD1A HD2A
        have HSMA : Hid (∀ {W : World} {u v : Value}, Ints W u KA → Ints W v KA → Calls Tryd.prog 10 #[.agg #[.int .i64 rnA, .int .i64 rcA, .string (strB rtA), u], .agg #[.int .i64 rnA, .int .i64 rcA, .string (strB rtA), v]] W fun e w' => e = .returned (.bool true) ∧ Below W.heap.size W w') := fun h1 h2 => same_eq rnA rcA (strB rtA) h1 h2
        have s0A := unhide SA wr (unhide HB).old
        go_region_held3 (fun w' => w'.cell? ⟨gA, offA + k * 5, none⟩ = some (.int .i64 pA.1.kd) ∧ w'.cell? ⟨gA, offA + k * 5 + 1, none⟩ = some (.int .i64 pA.1.run) ∧ w'.cell? ⟨gA, offA + k * 5 + 2, none⟩ = some (.int .i64 pA.1.at_) ∧ w'.cell? ⟨gA, offA + k * 5 + 3, none⟩ = some (.int .i64 pA.1.n) ∧ w'.cell? ⟨gA, offA + k * 5 + 4, none⟩ = some (.slice paA PLA pcA))
          (first | exact s0A | exact s3A | exact s5A | exact s6A)
          (first
            | (go_at_call 11; refine (unhide HD2A _ (unhide HPFA)).mono ?_; rintro e w5A ⟨lwA, rfl, ht5, hi5, hs5, hk5⟩; obtain ⟨lbA, ldA, rfl⟩ := hi5.slice; have s5A := unhide SA _ ht5.old; have HT6A := hide ht5; have HL5A : Hid (Ints w5A (.slice laA KA.length lcA) KA ∧ Ints w5A (.slice lbA KA.length ldA) KA) := ⟨((unhide HI3A).keep (w' := w5A) (fun b x y => hk5 b x y) hs5).1, hi5.1⟩; clear ht5 hi5 hs5 hk5)
            | (go_at_call 9; refine (unhide HP2A _ (unhide HDFA)).mono ?_; rintro e w5A ⟨lvA, rfl, ht5, hi5, hs5, hk5⟩; obtain ⟨laA, lcA, rfl⟩ := hi5.slice; have s5A := unhide SA _ ht5.old; have HT6A := hide ht5; have HL5A : Hid (Ints w5A (.slice laA KA.length lcA) KA ∧ Ints w5A (.slice lbA KA.length ldA) KA) := ⟨hi5.1, ((unhide HI3A).keep (w' := w5A) (fun b x y => hk5 b x y) hs5).1⟩; clear ht5 hi5 hs5 hk5)
            | (go_at_call 9; refine (unhide HP1A _ (by first | exact Below.refl _ _ | exact (Below.refl _ _).drew)).mono ?_; rintro e w3A ⟨lvA, rfl, ht3, hi3, hs3, hk3⟩; obtain ⟨laA, lcA, rfl⟩ := hi3.slice; have HPFA := hide (ht3 w3A (Chg.refl _ _)); have s3A := unhide SA _ (unhide HPFA).old; have HI3A := hide (IntsN.mono (B2 := wr.heap.size) hi3 (by first | exact Nat.le_refl _ | simp)); clear ht3 hi3 hs3 hk3)
            | (go_at_call 11; refine (unhide HD1A _ (by first | exact Below.refl _ _ | exact (Below.refl _ _).drew)).mono ?_; rintro e w3A ⟨lwA, rfl, ht3, hi3, hs3, hk3⟩; obtain ⟨lbA, ldA, rfl⟩ := hi3.slice; have HDFA := hide (ht3 w3A (Chg.refl _ _)); have s3A := unhide SA _ (unhide HDFA).old; have HI3A := hide (IntsN.mono (B2 := wr.heap.size) hi3 (by first | exact Nat.le_refl _ | simp)); clear ht3 hi3 hs3 hk3)
            | (go_at_call 10; refine (unhide HSMA (unhide HL5A).1 (unhide HL5A).2).mono ?_; rintro e w6A ⟨rfl, hb6⟩; have HFA := hide ((unhide HT6A).below hb6).reset; have s6A := unhide SA _ (unhide HFA).old; clear hb6))
        all_goals
          clear s0A s3A s5A s6A HP1A HP2A HD1A HD2A HSMA HT6A HL5A HI3A
          go_wp2
          go_quiet (fail)
          have HQ := hide (Sep.below (W := w6A.drewN nq) (unhide HFA) ⟨rfl, rfl, rfl, Nat.le_refl _, fun _ _ => rfl⟩).reset
          go_wp2
          refine ⟨⟨k + 1, rmA, m2, by omega, by go_num, HQ⟩, by simp [intOf]; omega⟩
    · have hAz : ¬ (k : Int) < (NA : Int) := by omega
      by_cases hB : k < NB
      · have hBz : (k : Int) < (NB : Int) := by omega
        go_wp2
        go_quiet (fail)
        have HQ := hide (Sep.below (W := wr.drewN nq) (unhide HB) ⟨rfl, rfl, rfl, Nat.le_refl _, fun _ _ => rfl⟩).reset
        go_wp2
        generalize wr.drewN nq = wq at *
        obtain ⟨pB, hpB⟩ : ∃ p, osB[k]? = some p := ⟨_, List.getElem?_eq_getElem (by rw [← unhide HNB]; omega)⟩
        obtain ⟨gB, offB, eaB, hgB, hcB⟩ := unhide HATB (by rw [← unhide HNB]; omega)
        subst eaB
        have qB := hcB k pB hpB
        have hinB := unhide HOKB pB (List.mem_of_getElem? hpB)
        obtain ⟨paB, pcB, epvB, -, -⟩ := hinB.st
        have SB : Hid (∀ W, Below w.heap.size w W → W.cell? ⟨gB, offB + k * 5, none⟩ = some (.int .i64 pB.1.kd) ∧ W.cell? ⟨gB, offB + k * 5 + 1, none⟩ = some (.int .i64 pB.1.run) ∧ W.cell? ⟨gB, offB + k * 5 + 2, none⟩ = some (.int .i64 pB.1.at_) ∧ W.cell? ⟨gB, offB + k * 5 + 3, none⟩ = some (.int .i64 pB.1.n) ∧ W.cell? ⟨gB, offB + k * 5 + 4, none⟩ = some (.slice paB pB.1.L.length pcB)) := fun W hW => by
          have l : ∀ o, W.cell? ⟨gB, o, none⟩ = w.cell? ⟨gB, o, none⟩ := fun o => hW.cell (p := ⟨gB, o, none⟩) hgB
          have d4 := (l _).trans qB.c4
          rw [epvB] at d4
          exact ⟨(l _).trans qB.c0, (l _).trans qB.c1, (l _).trans qB.c2, (l _).trans qB.c3, d4⟩
        have HP1B : Hid (∀ W, Below wq.heap.size wq W → Calls Tryd.prog 9 #[.pointer (some ⟨u1.heap.size, 0, none⟩), opV pB.1 pB.2] W fun e w' => ∃ lv, e = .returned (ansV (ply m2 pB.1).1 lv) ∧ (∀ W5, Chg (fun b => wq.heap.size ≤ b ∧ b < W.heap.size) w' W5 → Sep w [stoT w.heap.size m1, stoT u1.heap.size (ply m2 pB.1).2, docT u2.heap.size m1, docT u3.heap.size m2] (updN (fun _ => wq.heap.size) 1 w'.heap.size) W5) ∧ IntsN W.heap.size w' lv (ply m2 pB.1).1.l ∧ W.heap.size ≤ w'.heap.size ∧ ∀ b, wq.heap.size ≤ b → b < W.heap.size → w'.heap[b]? = W.heap[b]?) := fun W hb => sep_play (i := 1) (unhide HV) (unhide HQ) hb rfl hinB
        have HD1B : Hid (∀ W, Below wq.heap.size wq W → Calls Tryd.prog 11 #[.pointer (some ⟨u3.heap.size, 0, none⟩), opV pB.1 pB.2] W fun e w' => ∃ lv, e = .returned (ansV (ply m2 pB.1).1 lv) ∧ (∀ W5, Chg (fun b => wq.heap.size ≤ b ∧ b < W.heap.size) w' W5 → Sep w [stoT w.heap.size m1, stoT u1.heap.size m2, docT u2.heap.size m1, docT u3.heap.size (ply m2 pB.1).2] (updN (fun _ => wq.heap.size) 3 w'.heap.size) W5) ∧ IntsN W.heap.size w' lv (ply m2 pB.1).1.l ∧ W.heap.size ≤ w'.heap.size ∧ ∀ b, wq.heap.size ≤ b → b < W.heap.size → w'.heap[b]? = W.heap[b]?) := fun W hb => sep_says (i := 3) (unhide HQ) hb rfl hinB
        have HD2B : Hid (∀ {x : Nat} (w3 : World), Sep w [stoT w.heap.size m1, stoT u1.heap.size (ply m2 pB.1).2, docT u2.heap.size m1, docT u3.heap.size m2] (updN (fun _ => wq.heap.size) 1 x) w3 → Calls Tryd.prog 11 #[.pointer (some ⟨u3.heap.size, 0, none⟩), opV pB.1 pB.2] w3 fun e w' => ∃ lv, e = .returned (ansV (ply m2 pB.1).1 lv) ∧ Sep w [stoT w.heap.size m1, stoT u1.heap.size (ply m2 pB.1).2, docT u2.heap.size m1, docT u3.heap.size (ply m2 pB.1).2] (fun _ => w'.heap.size) w' ∧ IntsN w3.heap.size w' lv (ply m2 pB.1).1.l ∧ w3.heap.size ≤ w'.heap.size ∧ ∀ b, wq.heap.size ≤ b → b < w3.heap.size → w'.heap[b]? = w3.heap[b]?) := fun w3 h3 => (sep_says (i := 3) h3 (Below.refl _ _) rfl hinB).mono fun e w' hh => by
          obtain ⟨lv, e1, e2, e3⟩ := hh
          exact ⟨lv, e1, (e2 w' (Chg.refl _ _)).reset, e3⟩
        have HP2B : Hid (∀ {x : Nat} (w3 : World), Sep w [stoT w.heap.size m1, stoT u1.heap.size m2, docT u2.heap.size m1, docT u3.heap.size (ply m2 pB.1).2] (updN (fun _ => wq.heap.size) 3 x) w3 → Calls Tryd.prog 9 #[.pointer (some ⟨u1.heap.size, 0, none⟩), opV pB.1 pB.2] w3 fun e w' => ∃ lv, e = .returned (ansV (ply m2 pB.1).1 lv) ∧ Sep w [stoT w.heap.size m1, stoT u1.heap.size (ply m2 pB.1).2, docT u2.heap.size m1, docT u3.heap.size (ply m2 pB.1).2] (fun _ => w'.heap.size) w' ∧ IntsN w3.heap.size w' lv (ply m2 pB.1).1.l ∧ w3.heap.size ≤ w'.heap.size ∧ ∀ b, wq.heap.size ≤ b → b < w3.heap.size → w'.heap[b]? = w3.heap[b]?) := fun w3 h3 => (sep_play (i := 1) (unhide HV) h3 (Below.refl _ _) rfl hinB).mono fun e w' hh => by
          obtain ⟨lv, e1, e2, e3⟩ := hh
          exact ⟨lv, e1, (e2 w' (Chg.refl _ _)).reset, e3⟩
        unfold opV ansV at HP1B HP2B HD1B HD2B
        rw [epvB] at HP1B HP2B HD1B HD2B
        clear qB hcB hinB epvB hpB
        generalize pB.1.L.length = PLB at *
        generalize ply m2 pB.1 = RB at *
        obtain ⟨⟨rnB, rcB, rtB, KB⟩, rmB⟩ := RB
        dsimp only at HP1B HP2B HD1B HD2B
        have HSMB : Hid (∀ {W : World} {u v : Value}, Ints W u KB → Ints W v KB → Calls Tryd.prog 10 #[.agg #[.int .i64 rnB, .int .i64 rcB, .string (strB rtB), u], .agg #[.int .i64 rnB, .int .i64 rcB, .string (strB rtB), v]] W fun e w' => e = .returned (.bool true) ∧ Below W.heap.size W w') := fun h1 h2 => same_eq rnB rcB (strB rtB) h1 h2
        have s0B := unhide SB wq (unhide HQ).old
        go_region_held3 (fun w' => w'.cell? ⟨gB, offB + k * 5, none⟩ = some (.int .i64 pB.1.kd) ∧ w'.cell? ⟨gB, offB + k * 5 + 1, none⟩ = some (.int .i64 pB.1.run) ∧ w'.cell? ⟨gB, offB + k * 5 + 2, none⟩ = some (.int .i64 pB.1.at_) ∧ w'.cell? ⟨gB, offB + k * 5 + 3, none⟩ = some (.int .i64 pB.1.n) ∧ w'.cell? ⟨gB, offB + k * 5 + 4, none⟩ = some (.slice paB PLB pcB))
          (first | exact s0B | exact s3B | exact s5B | exact s6B)
          (first
            | (go_at_call 11; refine (unhide HD2B _ (unhide HPFB)).mono ?_; rintro e w5B ⟨lwB, rfl, ht5, hi5, hs5, hk5⟩; obtain ⟨lbB, ldB, rfl⟩ := hi5.slice; have s5B := unhide SB _ ht5.old; have HT6B := hide ht5; have HL5B : Hid (Ints w5B (.slice laB KB.length lcB) KB ∧ Ints w5B (.slice lbB KB.length ldB) KB) := ⟨((unhide HI3B).keep (w' := w5B) (fun b x y => hk5 b x y) hs5).1, hi5.1⟩; clear ht5 hi5 hs5 hk5)
            | (go_at_call 9; refine (unhide HP2B _ (unhide HDFB)).mono ?_; rintro e w5B ⟨lvB, rfl, ht5, hi5, hs5, hk5⟩; obtain ⟨laB, lcB, rfl⟩ := hi5.slice; have s5B := unhide SB _ ht5.old; have HT6B := hide ht5; have HL5B : Hid (Ints w5B (.slice laB KB.length lcB) KB ∧ Ints w5B (.slice lbB KB.length ldB) KB) := ⟨hi5.1, ((unhide HI3B).keep (w' := w5B) (fun b x y => hk5 b x y) hs5).1⟩; clear ht5 hi5 hs5 hk5)
            | (go_at_call 9; refine (unhide HP1B _ (by first | exact Below.refl _ _ | exact (Below.refl _ _).drew)).mono ?_; rintro e w3B ⟨lvB, rfl, ht3, hi3, hs3, hk3⟩; obtain ⟨laB, lcB, rfl⟩ := hi3.slice; have HPFB := hide (ht3 w3B (Chg.refl _ _)); have s3B := unhide SB _ (unhide HPFB).old; have HI3B := hide (IntsN.mono (B2 := wq.heap.size) hi3 (by first | exact Nat.le_refl _ | simp)); clear ht3 hi3 hs3 hk3)
            | (go_at_call 11; refine (unhide HD1B _ (by first | exact Below.refl _ _ | exact (Below.refl _ _).drew)).mono ?_; rintro e w3B ⟨lwB, rfl, ht3, hi3, hs3, hk3⟩; obtain ⟨lbB, ldB, rfl⟩ := hi3.slice; have HDFB := hide (ht3 w3B (Chg.refl _ _)); have s3B := unhide SB _ (unhide HDFB).old; have HI3B := hide (IntsN.mono (B2 := wq.heap.size) hi3 (by first | exact Nat.le_refl _ | simp)); clear ht3 hi3 hs3 hk3)
            | (go_at_call 10; refine (unhide HSMB (unhide HL5B).1 (unhide HL5B).2).mono ?_; rintro e w6B ⟨rfl, hb6⟩; have HFB := hide ((unhide HT6B).below hb6).reset; have s6B := unhide SB _ (unhide HFB).old; clear hb6))
        all_goals
          clear s0B s3B s5B s6B HP1B HP2B HD1B HD2B HSMB HT6B HL5B HI3B
          go_wp2
          refine ⟨⟨k + 1, m1, rmB, by omega, by go_num, HFB⟩, by simp [intOf]; omega⟩
      · have hBz : ¬ (k : Int) < (NB : Int) := by omega
        go_wp2
        go_ret
        exact ⟨rfl, (unhide HB).old⟩
end Rs
end Go.Proofs.YtdlmpogmoepkjaaDoor
