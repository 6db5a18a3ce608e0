/- Layer 6: Frame, the program's; the laws' wakes. -/
import Derived.Test.YtdcffkahijpcbabDoorUr
import Derived.Laws.MakeOwn
namespace Go.Proofs.YtdcffkahijpcbabDoor
open Go.RowKit
namespace Um

theorem u64_size {x : ByteArray} (h : x.size ≤ 255) : x.size < 18446744073709551616 := by omega
set_option maxHeartbeats 1000000 in
set_option maxRecDepth 100000 in
theorem frame_any (v0 : Value) (L : List ByteArray) (w : World) (hT : Txs w v0 L) (hN : L.length ≤ 1073741824) (A : ByteArray) (Ev : Int) (HA : Hid (frA L = A)) (HE : Hid (frE L = Ev)) :
    Calls Tryd.prog 16 #[v0] w fun e w' => e = .returned (.tuple #[.string A, .int .i64 Ev]) ∧ Below w.heap.size w w' := by
  obtain ⟨i0, hi0, hz0, hz1, hz2⟩ := info_parts infoB
  have HT := hide hT
  obtain ⟨a0, c0, rfl, hc0, -, H0⟩ := hT
  have HC := hide H0
  clear H0
  obtain ⟨n, hn⟩ : ∃ n, L.length = n := ⟨_, rfl⟩
  rw [hn] at hN hc0 HC ⊢
  have HN := hide hn
  clear hn
  go_enter Tryd.func16, Tryd.ntmps16
  go_wp2
  go_loopw [4, 12] (fun s4 s12 wr => ∃ (k S : Nat), s12 = .int .i64 (k : Int) ∧ k ≤ n ∧ s4 = .int .i64 (S : Int) ∧ S ≤ 257 * k ∧ Hid (S = (fk L k).length) ∧ Hid (∀ (j : Nat) x, j < k → L[j]? = some x → x.size ≤ 255) ∧ Hid (Below w.heap.size w wr)) (fun _ k _ => n - (intOf k).toNat)
  case atStart => exact ⟨0, 0, rfl, by omega, rfl, by omega, rfl, fun _ _ h => by omega, Below.refl _ _⟩
  case round =>
    obtain ⟨k, S, rfl, hk, rfl, hS, HS, HF, HB⟩ := hrel
    by_cases hlt : k < n
    · have hltz : (k : Int) < (n : Int) := by omega
      have hltN : k < L.length := by rw [unhide HN]; exact hlt
      obtain ⟨x, hx⟩ : ∃ x, L[k]? = some x := ⟨_, List.getElem?_eq_getElem hltN⟩
      obtain ⟨g, off, ea, hg, hc⟩ := unhide HC (by omega)
      subst ea
      have hcx : wr.cell? ⟨g, off + k, none⟩ = some (.string x) := ((unhide HB).cell (p := ⟨g, off + k, none⟩) hg).trans (hc k x hx)
      have HX := hide hx
      clear hc hx hltN
      by_cases h255 : x.size ≤ 255
      · have hxz : ¬ 255 < (x.size : Int) := by omega
        have HU := hide (fun W => uint_any x.size (u64_size h255) W)
        have HSU := hide (str_size (uL x.size))
        have HSL := hide (uL_len 1 x.size (by omega))
        have hqs := str_size (uL x.size)
        have hql := uL_len 1 x.size (by omega)
        obtain ⟨q, hq⟩ : ∃ q, (uL x.size).length = q := ⟨_, rfl⟩
        rw [hq] at hqs hql
        have HQ := hide hq
        clear hq HSU HSL
        generalize str (uL x.size) = U at *
        obtain ⟨y, hy⟩ : ∃ y, x.size = y := ⟨_, rfl⟩
        rw [hy] at h255 hxz HQ HU
        go_wp2_with (go_at_call 28; refine (unhide HU _).mono ?_; rintro e w1 ⟨rfl, hB1⟩; have HB1 := hide hB1; clear hB1)
        go_roundw
        case rel =>
          refine ⟨k + 1, S + (q + y), by go_num, by omega, by go_num, by omega, ?_, ?_, (unhide HB).trans ((unhide HB1).mono (unhide HB).size)⟩
          · show _ = _
            rw [fk_succ (unhide HX), List.length_append, List.length_append, hy, unhide HQ, lst_len, hy, ← unhide HS]
          · intro j z hj hz
            by_cases hjk : j < k
            · exact unhide HF j z hjk hz
            · have : j = k := by omega
              subst this
              have := (unhide HX).symm.trans hz
              injection this with this
              rw [← this, hy]
              exact h255
        case measure => simp [intOf]; omega
      · have hxz : 255 < (x.size : Int) := by omega
        go_wp2
        go_ret2
        have hf := fit_no (unhide HX) h255
        have e1 := unhide HA
        have e2 := unhide HE
        unfold frA at e1
        unfold frE at e2
        rw [hf] at e1 e2
        simp at e1 e2
        subst e1 e2
        exact ⟨rfl, unhide HB⟩
    · have hltz : ¬ (k : Int) < (n : Int) := by omega
      have hkn : k = n := by omega
      subst hkn
      have HFI : Hid (fit (rl L) = true) := fit_yes fun j x hx => unhide HF j x (by rw [← unhide HN]; exact (List.getElem?_eq_some_iff.1 hx).1) hx
      obtain ⟨W0, hmk, hown0, hgr0⟩ := run_make_own wr w.heap.size 99 5 i0 (.int .u8 0) 1 Tryd.underlying99 hi0 hz0 hz1 .i64 .i64 S (by rw [hz2]; omega) (by unfold maxLen; omega) (unhide HB).size
      have HO0 := hide hown0
      have HB0 : Hid (Below w.heap.size w W0) := (unhide HB).grown hgr0 (unhide HB).size (fun j e => by cases e)
      clear hown0 hgr0
      go_wp2
      obtain ⟨wo, rfl⟩ : ∃ x : World, x = wr := ⟨_, rfl⟩
      go_loopw [7, 34] (fun s7 s34 wr => ∃ (j : Nat) (u : Value), u = s7 ∧ s34 = .int .i64 (j : Int) ∧ j ≤ k ∧ Hid (Own w.heap.size wr u (fk L j)) ∧ Hid (Below w.heap.size w wr)) (fun _ j _ => k - (intOf j).toNat)
      case atStart => exact ⟨0, _, rfl, rfl, by omega, unhide HO0, unhide HB0⟩
      case round =>
        obtain ⟨j, u, rfl, rfl, hj, HO, HBr⟩ := hrel
        by_cases hjk : j < k
        · have hjz : (j : Int) < (k : Int) := by omega
          have hltN : j < L.length := by rw [unhide HN]; exact hjk
          obtain ⟨x, hx⟩ : ∃ x, L[j]? = some x := ⟨_, List.getElem?_eq_getElem hltN⟩
          obtain ⟨g, off, ea, hg, hc⟩ := unhide HC (by omega)
          subst ea
          have hcx : wr.cell? ⟨g, off + j, none⟩ = some (.string x) := ((unhide HBr).cell (p := ⟨g, off + j, none⟩) hg).trans (hc j x hx)
          have h255 : x.size ≤ 255 := unhide HF j x hjk hx
          have HLE := hide (fk_len (L := L) j (by omega) (fun i y hi hy => unhide HF i y (by omega) hy))
          have HX := hide hx
          clear hc hx hltN
          have HU := hide (append_uint x.size (u64_size h255) (fk L j) w.heap.size u wr (by have := unhide HLE; omega) (unhide HO) (unhide HBr).size)
          obtain ⟨y, hy⟩ : ∃ y, x.size = y := ⟨_, rfl⟩
          have HY := hide hy
          rw [hy] at h255 HU
          go_wp2_with (first | (at_builtin; refine wpList_app _ rfl _ _ rfl _ _ _ _ rfl rfl (by exact unhide HAP) ?_) | (go_at_call 48; refine (unhide HU).mono ?_; rintro e w1 ⟨u1, rfl, hO1, hB1⟩; obtain ⟨u2, w2, hap, hO2, hgr2, -⟩ := append_str w1 u1 _ _ x 99 (Nat.le_trans (unhide HBr).size hB1.size) hO1 (by have := unhide HLE; have := uL_len 1 y (by omega); rw [List.length_append, hy]; omega); obtain ⟨a2, c2, rfl⟩ := row_slice hO2; have HO2 := hide hO2; have HB2 := hide (push0 hO1 ((unhide HBr).trans hB1) (Nat.le_refl _) hgr2); obtain ⟨a1, c1, rfl⟩ := own_slice hO1; rw [List.length_append] at hap HO2; have HAP := hide hap; clear hap hO1 hB1 hO2 hgr2))
          go_roundw
          case rel =>
            refine ⟨j + 1, _, rfl, by go_num, by omega, ?_, unhide HB2⟩
            show Own _ _ _ _
            rw [fk_succ (unhide HX), ← List.append_assoc]
            refine own_more ?_
            have h := unhide HO2
            rw [byteCells_byts] at h
            rw [lst_len, hy, List.length_append]
            rw [hy] at h
            exact h
          case measure => simp [intOf]; omega
        · have hjz : ¬ (j : Int) < (k : Int) := by omega
          have hjk2 : j = k := by omega
          subst hjk2
          have eA := fk_all (L := L) (k := j) (by rw [unhide HN]; exact Nat.le_refl _)
          rw [eA] at HO
          have hcv := conv_own (unhide HO)
          obtain ⟨a2, c2, rfl⟩ := own_slice (unhide HO)
          have e1 := unhide HA
          have e2 := unhide HE
          unfold frA at e1
          unfold frE at e2
          rw [unhide HFI] at e1 e2
          simp at e1 e2
          subst e1 e2
          go_wp2
          go_ret2
          exact ⟨rfl, unhide HBr⟩
theorem txs_lit2 (W : World) (x y : ByteArray) : Txs (W.alloc (.cells #[.string x, .string y] 9)) (.slice (some ⟨W.heap.size, 0, none⟩) 2 2) [x, y] := by
  refine ⟨_, 2, rfl, by simp, (fun h => by cases h), fun _ => ⟨W.heap.size, 0, rfl, by simp, fun j z hz => ?_⟩⟩
  rw [Nat.zero_add, World.cell?_alloc_at _ _ _ _ rfl]
  have hj := (List.getElem?_eq_some_iff.1 hz).1
  simp at hj
  match j, hj with
  | 0, _ => simp at hz; subst hz; rfl
  | 1, _ => simp at hz; subst hz; rfl
set_option maxRecDepth 100000 in
theorem wakes_any (w : World) : Calls Tryd.prog 8 #[] w fun e w' => e = .returned (.bool true) ∧ Below w.heap.size w w' := by
  have HF : Hid (∀ W : World, Calls Tryd.prog 16 #[.slice (some ⟨W.heap.size, 0, none⟩) 2 2] (W.alloc (.cells #[.string ⟨#[97, 98]⟩, .string ⟨#[]⟩] 9)) fun e w' => e = .returned (.tuple #[.string ⟨#[2, 97, 98, 0]⟩, .int .i64 0]) ∧ Below (W.alloc (.cells #[.string ⟨#[97, 98]⟩, .string ⟨#[]⟩] 9)).heap.size (W.alloc (.cells #[.string ⟨#[97, 98]⟩, .string ⟨#[]⟩] 9)) w') := fun W =>
    frame_any _ [⟨#[97, 98]⟩, ⟨#[]⟩] _ (txs_lit2 W _ _) (by decide) _ _ (show frA [⟨#[97, 98]⟩, ⟨#[]⟩] = _ by
      unfold frA
      rw [if_pos (by decide)]
      simp only [frs, rl, List.map_cons, List.map_nil, List.flatMap_cons, List.flatMap_nil, fr, lst]
      rw [uL_small (by decide), uL_small (by decide)]
      rfl) (by show frE _ = 0; unfold frE; rw [if_pos (by decide)])
  have HU : Hid (∀ W, Calls Tryd.prog 28 #[.int .u64 300] W fun e w' => e = .returned (.string ⟨#[172, 2]⟩) ∧ Below W.heap.size W w') := fun W => by
    have h := uint_any 300 (by decide) W
    rw [uL_big (by decide), uL_small (by decide)] at h
    exact h
  go_enter Tryd.func8, Tryd.ntmps8
  go_wp2_with (first | (go_at_call 16; refine (unhide HF _).mono ?_; rintro e w1 ⟨rfl, hB1⟩; have HB1 := hide hB1; clear hB1) | (go_at_call 28; refine (unhide HU _).mono ?_; rintro e w2 ⟨rfl, hB2⟩; have HB2 := hide hB2; clear hB2))
  go_ret
  refine ⟨rfl, ?_⟩
  have h1 := (unhide HB1)
  have h2 := (unhide HB2)
  have h0 : Below w.heap.size w (w.alloc (.cells #[.string ⟨#[97, 98]⟩, .string ⟨#[]⟩] 9)) := (Below.refl _ w).alloc (Nat.le_refl _) _
  exact (h0.trans (h1.mono h0.size)).trans (h2.mono (h0.trans (h1.mono h0.size)).size)
end Um
end Go.Proofs.YtdcffkahijpcbabDoor
