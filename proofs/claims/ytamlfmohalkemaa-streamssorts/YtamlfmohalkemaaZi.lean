/- Layer 8: the walk of StreamsSorts. -/
import Derived.Test.YtamlfmohalkemaaZh
namespace Go.Proofs.Ytamlfmohalkemaa
open Go.RowKit Go.Shelf
namespace Sm

set_option maxRecDepth 100000 in
set_option maxHeartbeats 4000000 in
theorem sorts_walk {w : World} {v : Value} {A : List Tx} (h : RowAt w v A w.heap.size) (hz : A.length ≤ 8796093022208) :
    Calls Try.prog 7 #[v] w fun e w' => e = .returned (.bool true) ∧ Below w.heap.size w w' := by
  have H := hide h
  obtain ⟨ao, cA, rfl, -⟩ := h
  go_enter Try.func7, Try.ntmps7
  go_wp2_with fail
  refine (wakes_true w).mono ?_
  rintro e w1 ⟨rfl, b1⟩
  have s1 := b1.size
  have HF1 := hide b1
  clear b1
  go_wp2_with fail
  refine (twin_any (((unhide H).below (unhide HF1)).mono s1) hz).mono ?_
  rintro e w2 ⟨a2, c2, rfl, ho2, hn2, hb2⟩
  have s2 := hb2.size
  have HF2 := hide (⟨ho2, (unhide HF1).trans (hb2.mono s1)⟩ : _ ∧ _)
  clear HF1 ho2 hn2 hb2
  go_wp2_with fail
  obtain ⟨ho2, b2⟩ := unhide HF2
  refine (of_any (own_row ho2) hz).mono ?_
  rintro e w3 ⟨gf, lb, rfl, hw3, hb3⟩
  have s3 := hb3.size
  have HF3 := hide (⟨hw3, b2.trans (hb3.mono (by omega))⟩ : _ ∧ _)
  clear HF2 ho2 b2 hw3 hb3
  go_wp2_with fail
  obtain ⟨hw3, b3⟩ := unhide HF3
  have bx3 := Boxed.new w3 27 (.func (.func gf) #[] lb)
  have b34 : Below w3.heap.size w3 (w3.alloc (.cells #[.func (.func gf) #[] lb] 27)) := (Below.refl _ w3).alloc (Nat.le_refl _) _
  refine (list_any hw3.gives b34 (by simp) (Nat.le_trans (ofS_len A) hz) 1099511627776).mono ?_
  rintro e w4 ⟨sl, rfl, ho4, hn4, hb4⟩
  obtain ⟨S, hS⟩ : ∃ S, S = (ofS A).take (1099511627776 : Int).toNat := ⟨_, rfl⟩
  rw [← hS] at ho4
  have hSr : Rs S := by rw [hS]; exact List.Pairwise.sublist (List.take_sublist _ _) (ofS_rs A)
  have hSA : ∀ x ∈ S, x ∈ A := fun x hx => ofS_mem.1 (List.mem_of_mem_take (by rw [hS] at hx; exact hx))
  have hSl : S.length ≤ A.length := by
    have := ofS_len A
    rw [hS, List.length_take]
    omega
  clear hS
  have b4 : Below w3.heap.size w3 w4 := b34.trans (hb4.mono (by simp))
  have s4 : w3.heap.size + 1 ≤ w4.heap.size := by have := hb4.size; simpa using this
  have bx4 : Boxed w4 w3.heap.size 27 (.func (.func gf) #[] lb) := (hb4.block _ (by simp)).trans bx3
  obtain ⟨a4, c4, rfl⟩ := ho4.slice
  have bw4 := b3.trans (b4.mono (by omega))
  have HS := hide (⟨hSr, hSA, own_row ho4⟩ : _ ∧ _ ∧ _)
  have HA := hide ((unhide H).below bw4)
  have HW := hide (⟨hw3, b4, bw4, bx4⟩ : _ ∧ _ ∧ _ ∧ _)
  clear HF3 hw3 b3 bx3 b34 ho4 hn4 hb4 hSr hSA b4 bw4 bx4 H
  go_wp2
  go_loopw [21] (fun p wr => ∃ (k : Nat), p = .int .i64 (k : Int) ∧ k ≤ S.length ∧ wr = w4) (fun p _ => S.length - (intOf p).toNat)
  case atStart => exact ⟨0, rfl, Nat.zero_le _, rfl⟩
  case round =>
    obtain ⟨k, rfl, hk, rfl⟩ := hrel
    by_cases hkl : k < S.length
    · obtain ⟨hSr, hSA, ao4, cc4, e4, hat4⟩ := unhide HS
      injection e4 with e4a e4b e4c
      subst e4a e4c
      clear e4b
      obtain ⟨g, off, rfl, hg, hc⟩ := hat4 (by omega)
      obtain ⟨x, hx⟩ : ∃ x, S[k]? = some x := ⟨_, List.getElem?_eq_getElem hkl⟩
      have c1 : wr.cell? ⟨g, off + k, none⟩ = some (.string x) := hc k x hx
      have hxA : Hid (x ∈ A) := hSA x (List.mem_of_getElem? hx)
      have hprev : ∀ j, k = j + 1 → ∃ y, wr.cell? ⟨g, off + j, none⟩ = some (.string y) ∧ Op.bytesLess y.toList x.toList = true := fun j hj => by
        have hjl : j < S.length := by omega
        have hy := List.getElem?_eq_getElem hjl
        refine ⟨_, hc j _ hy, ?_⟩
        have := List.pairwise_iff_getElem.1 hSr j k hjl hkl (by omega)
        rw [List.getElem?_eq_getElem hkl] at hx
        injection hx with hx
        rw [hx] at this
        exact this
      have HP := hide hprev
      clear hSr hSA hat4 hc hx hprev
      rcases k with _ | j
      · rw [Nat.add_zero] at c1
        go_wp2
        obtain ⟨V, hV⟩ : ∃ V, V = wr := ⟨_, rfl⟩
        subst hV
        go_loopw [39, 7] (fun p f wr => ∃ (j : Nat) (b : Bool), p = .int .i64 (j : Int) ∧ f = .bool b ∧ j ≤ A.length ∧ Hid (b = true ↔ x ∈ A.take j) ∧ wr = V) (fun p _ _ => A.length - (intOf p).toNat)
        case atStart => exact ⟨0, false, rfl, rfl, Nat.zero_le _, (by simp [Hid]), rfl⟩
        case round =>
          obtain ⟨i, b, rfl, rfl, hi, HBm, rfl⟩ := hrel
          by_cases hil : i < A.length
          · obtain ⟨aoA, ccA, eA, hatA⟩ := unhide HA
            injection eA with eAa eAb eAc
            subst eAa eAc
            clear eAb
            obtain ⟨gA, offA, rfl, hgA, hcA⟩ := hatA (by omega)
            obtain ⟨z, hzz⟩ : ∃ z, A[i]? = some z := ⟨_, List.getElem?_eq_getElem hil⟩
            have cz : wr.cell? ⟨gA, offA + i, none⟩ = some (.string z) := hcA i z hzz
            have htk : A.take (i + 1) = A.take i ++ [z] := by rw [List.take_add_one, hzz]; rfl
            have HN : ∀ b', Hid ((b' = true ↔ (b = true ∨ z = x)) → (b' = true ↔ x ∈ A.take (i + 1))) := fun b' h' => by
              rw [htk, List.mem_append, List.mem_singleton, h', unhide HBm]
              exact or_congr Iff.rfl ⟨fun e => e.symm, fun e => e.symm⟩
            clear hatA hcA hzz htk
            cases b with
            | true =>
              go_wp2
              go_roundw
              case rel => exact ⟨i + 1, true, by simp, rfl, by omega, unhide (HN true) (by simp), (by first | trivial | rfl)⟩
              case measure => simp [intOf]; omega
            | false =>
              go_wp2
              go_roundw
              case rel => exact ⟨i + 1, (z.toList == x.toList), by simp, rfl, by omega, unhide (HN _) (by rw [tx_beq]; simp), (by first | trivial | rfl)⟩
              case measure => simp [intOf]; omega
          · have hb : b = true := (unhide HBm).2 (by rw [List.take_of_length_le (by omega)]; exact unhide hxA)
            subst hb
            go_wp2
            go_roundw
            case rel => exact ⟨0 + 1, by simp, by omega, (by first | trivial | rfl)⟩
            case measure => simp [intOf]; omega
      · obtain ⟨y, c2, hlt⟩ := unhide HP j rfl
        go_wp2
        obtain ⟨V, hV⟩ : ∃ V, V = wr := ⟨_, rfl⟩
        subst hV
        go_loopw [39, 7] (fun p f wr => ∃ (j : Nat) (b : Bool), p = .int .i64 (j : Int) ∧ f = .bool b ∧ j ≤ A.length ∧ Hid (b = true ↔ x ∈ A.take j) ∧ wr = V) (fun p _ _ => A.length - (intOf p).toNat)
        case atStart => exact ⟨0, false, rfl, rfl, Nat.zero_le _, (by simp [Hid]), rfl⟩
        case round =>
          obtain ⟨i, b, rfl, rfl, hi, HBm, rfl⟩ := hrel
          by_cases hil : i < A.length
          · obtain ⟨aoA, ccA, eA, hatA⟩ := unhide HA
            injection eA with eAa eAb eAc
            subst eAa eAc
            clear eAb
            obtain ⟨gA, offA, rfl, hgA, hcA⟩ := hatA (by omega)
            obtain ⟨z, hzz⟩ : ∃ z, A[i]? = some z := ⟨_, List.getElem?_eq_getElem hil⟩
            have cz : wr.cell? ⟨gA, offA + i, none⟩ = some (.string z) := hcA i z hzz
            have htk : A.take (i + 1) = A.take i ++ [z] := by rw [List.take_add_one, hzz]; rfl
            have HN : ∀ b', Hid ((b' = true ↔ (b = true ∨ z = x)) → (b' = true ↔ x ∈ A.take (i + 1))) := fun b' h' => by
              rw [htk, List.mem_append, List.mem_singleton, h', unhide HBm]
              exact or_congr Iff.rfl ⟨fun e => e.symm, fun e => e.symm⟩
            clear hatA hcA hzz htk
            cases b with
            | true =>
              go_wp2
              go_roundw
              case rel => exact ⟨i + 1, true, by simp, rfl, by omega, unhide (HN true) (by simp), (by first | trivial | rfl)⟩
              case measure => simp [intOf]; omega
            | false =>
              go_wp2
              go_roundw
              case rel => exact ⟨i + 1, (z.toList == x.toList), by simp, rfl, by omega, unhide (HN _) (by rw [tx_beq]; simp), (by first | trivial | rfl)⟩
              case measure => simp [intOf]; omega
          · have hb : b = true := (unhide HBm).2 (by rw [List.take_of_length_le (by omega)]; exact unhide hxA)
            subst hb
            go_wp2
            go_roundw
            case rel => exact ⟨(j + 1) + 1, by simp, by omega, (by first | trivial | rfl)⟩
            case measure => simp [intOf]; omega
    · go_wp2
      obtain ⟨V, hV⟩ : ∃ V, V = wr := ⟨_, rfl⟩
      subst hV
      go_loopw [55] (fun p wr => ∃ (j : Nat), p = .int .i64 (j : Int) ∧ j ≤ A.length ∧ Hid (Below V.heap.size V wr)) (fun p _ => A.length - (intOf p).toNat)
      case atStart => exact ⟨0, rfl, Nat.zero_le _, Below.refl _ _⟩
      case round =>
        obtain ⟨i, rfl, hi, HBv⟩ := hrel
        obtain ⟨hw3, b4, bw4, bx4⟩ := unhide HW
        by_cases hil : i < A.length
        · obtain ⟨aoA, ccA, eA, hatA⟩ := unhide HA
          injection eA with eAa eAb eAc
          subst eAa eAc
          clear eAb
          obtain ⟨gA, offA, rfl, hgA, hcA⟩ := hatA (by omega)
          obtain ⟨z, hzz⟩ : ∃ z, A[i]? = some z := ⟨_, List.getElem?_eq_getElem hil⟩
          have cz : wr.cell? ⟨gA, offA + i, none⟩ = some (.string z) := ((unhide HBv).cell (p := ⟨gA, offA + i, none⟩) (Nat.lt_of_lt_of_le hgA bw4.size)).trans (hcA i z hzz)
          have cb : wr.cell? ⟨w3.heap.size, 0, none⟩ = some (.func (.func gf) #[] lb) := ((unhide HBv).cell (p := ⟨w3.heap.size, 0, none⟩) bx4.lt).trans bx4.cell
          have hzA : Hid (z ∈ ofS A) := ofS_mem.2 (List.mem_of_getElem? hzz)
          have sV := (unhide HBv).size
          clear hatA hcA hzz hw3 b4 bw4 bx4
          go_wp2_with fail
          obtain ⟨hw3, b4, bw4, bx4⟩ := unhide HW
          refine (has_any hw3.gives (ofS_rs A) (b4.trans ((unhide HBv).mono (by omega))) (by omega) z).mono ?_
          rintro e w9 ⟨b9, rfl, hb9, hw9⟩
          have e9 : b9 = true := hb9.2 (unhide hzA)
          subst e9
          have HB9 := hide ((unhide HBv).trans (hw9.mono sV))
          clear hw3 b4 bw4 bx4 hb9 hw9
          go_wp2
          go_roundw
          case rel => exact ⟨i + 1, by simp, by omega, HB9⟩
          case measure => simp [intOf]; omega
        · have HBw := hide (bw4.trans ((unhide HBv).mono bw4.size))
          clear hw3 b4 bw4 bx4
          go_wp2
          go_ret
          exact ⟨rfl, unhide HBw⟩
end Sm
end Go.Proofs.Ytamlfmohalkemaa
