/- Layer 6: RecordStreams. -/
import Derived.Test.YtdcffkahijpcbabDoorXa
namespace Go.Proofs.YtdcffkahijpcbabDoor
open Go.RowKit
namespace Rs
theorem eq_er (E : Nat → Addr) (i : Nat) (W : World) : (binOp .eql 47 (er E i) (er E i)).run Tryd.prog W = .ok (.bool true) W := eq_same (E i)
theorem split4 {b o : Int} (h : b < 1 ∨ 4096 < b ∨ o < 1 ∨ 4096 < o) : b < 1 ∨ (¬ b < 1 ∧ 4096 < b) ∨ (¬ b < 1 ∧ ¬ 4096 < b ∧ o < 1) ∨ (¬ b < 1 ∧ ¬ 4096 < b ∧ ¬ o < 1 ∧ 4096 < o) := by omega
set_option maxRecDepth 100000 in
set_option maxHeartbeats 2000000 in
theorem streams_no {w : World} {v : Value} {E : Nat → Addr} (V : Env w E w.heap.size) (b o : Int) (hb : -9223372036854775808 ≤ b ∧ b ≤ 9223372036854775807) (ho : -9223372036854775808 ≤ o ∧ o ≤ 9223372036854775807) (h : b < 1 ∨ 4096 < b ∨ o < 1 ∨ 4096 < o) :
    Calls Tryd.prog 4 #[v, .int .i64 b, .int .i64 o] w fun e w' => e = .returned (.bool true) ∧ Below w.heap.size w w' := by
  have HNW := hide (new_any 9 w (by omega) (by omega))
  have HV := hide V
  have heq := eq_er E 2
  clear V
  obtain ⟨hb1, hb2⟩ := hb
  obtain ⟨ho1, ho2⟩ := ho
  rcases split4 h with h1 | ⟨h1, h2⟩ | ⟨h1, h2, h3⟩ | ⟨h1, h2, h3, h4⟩ <;>
  · clear h
    go_enter Tryd.func4, Tryd.ntmps4
    go_wp2_with (first | (go_at_call 6; refine (unhide HNW).mono ?_; rintro e w1 ⟨rfl, -, hb1, -⟩; have V1 := (unhide HV).below hb1; have HB1 := hide hb1; have hli := V1.li; have HOP := hide (open_no (sb := w.heap.size) V1 (-1) (by omega)); clear hb1 V1) | (go_at_call 11; refine (unhide HOP).mono ?_; rintro e w2 ⟨rfl, hw2⟩; subst hw2))
    go_ret
    exact ⟨rfl, unhide HB1⟩
/-- what fits: short texts, with their sizes' sum -/
def fz (D : List ByteArray) : Nat := (D.map fun x => x.size + 2).sum
structure Fit (D : List ByteArray) (z : Nat) : Prop where
  short : ∀ x ∈ D, x.size ≤ 255
  sum : fz D = z
theorem Fit.push {D : List ByteArray} {z : Nat} {x : ByteArray} (h : Fit D z) (hx : x.size ≤ 255) : Fit (D ++ [x]) (z + (x.size + 2)) := by
  refine ⟨fun y hy => ?_, ?_⟩
  · rcases List.mem_append.1 hy with hy | hy
    · exact h.short y hy
    · rw [List.mem_singleton.1 hy]; exact hx
  · unfold fz
    rw [List.map_append, List.sum_append, show (D.map fun x => x.size + 2).sum = z from h.sum]
    simp
theorem Fit.len {D : List ByteArray} {z : Nat} (h : Fit D z) : (Um.frs (Um.rl D)).length ≤ z := by
  rw [← h.sum]
  have hs := h.short
  clear h
  induction D with
  | nil => simp [Um.rl, Um.frs, fz]
  | cons x t ih =>
    have h1 := ih fun y hy => hs y (List.mem_cons_of_mem _ hy)
    have h2 := Um.fr_le (r := Um.lst x) (by rw [Um.lst_len]; exact hs x (List.mem_cons_self ..))
    rw [Um.lst_len] at h2
    rw [show Um.rl (x :: t) = Um.lst x :: Um.rl t from rfl, Um.frs_cons, List.length_append]
    rw [show fz (x :: t) = (x.size + 2) + fz t by simp [fz]]
    omega
theorem Fit.fit {D : List ByteArray} {z : Nat} (h : Fit D z) : Um.fit (Um.rl D) = true := Um.fit_yes fun _ _ hx => h.short _ (List.mem_of_getElem? hx)
theorem rl_take (D : List ByteArray) (i : Nat) : Um.frs (Um.rl (D.take (i + 3))) = Um.frs (Um.rl (D.take i)) ++ Um.frs (Um.rl ((D.drop i).take 3)) := by
  rw [List.take_add, Um.rl, List.map_append, Um.frs_app]
  rfl
theorem Fit.take {D : List ByteArray} {z : Nat} (h : Fit D z) (i : Nat) : (Um.frs (Um.rl (D.take i))).length ≤ z := by
  have h1 := h.len
  have e : Um.frs (Um.rl D) = Um.frs (Um.rl (D.take i)) ++ Um.frs (Um.rl (D.drop i)) := by
    conv => lhs; rw [← List.take_append_drop i D, Um.rl, List.map_append, Um.frs_app]
    rfl
  rw [e, List.length_append] at h1
  omega
theorem Fit.part {D : List ByteArray} {z : Nat} (h : Fit D z) (i : Nat) : Um.fit (Um.rl ((D.drop i).take 3)) = true := Um.fit_yes fun _ _ hx => h.short _ (List.mem_of_mem_drop (List.mem_of_mem_take (List.mem_of_getElem? hx)))
theorem rl_drop {D : List ByteArray} {k : Nat} {x : ByteArray} (h : D[k]? = some x) : Um.frs (Um.rl (D.drop k)) = Um.fr (Um.lst x) ++ Um.frs (Um.rl (D.drop (k + 1))) := by
  have hk := (List.getElem?_eq_some_iff.1 h).1
  rw [List.drop_eq_getElem_cons hk, (List.getElem?_eq_some_iff.1 h).2]
  rfl
/-- a part of the texts -/
theorem txs_part {W : World} {g off M i j cap : Nat} {D : List ByteArray} (hM : M = D.length) (hj : j = min (i + 3) M) (hi : i < M) (hcap : M ≤ cap) (hg : g < W.heap.size) (hc : ∀ (k : Nat) x, D[k]? = some x → W.cell? ⟨g, off + k, none⟩ = some (.string x)) : Um.Txs W (.slice (some ⟨g, off + i, none⟩) (j - i) (cap - i)) ((D.drop i).take 3) := by
  have hl : ((D.drop i).take 3).length = j - i := by rw [List.length_take, List.length_drop]; omega
  refine ⟨some ⟨g, off + i, none⟩, cap - i, by rw [hl], by rw [hl]; omega, (fun h => by cases h), fun _ => ⟨g, off + i, rfl, hg, fun k x hx => ?_⟩⟩
  rw [List.getElem?_take] at hx
  split at hx
  · rw [List.getElem?_drop] at hx
    rw [Nat.add_assoc]
    exact hc (i + k) x hx
  · cases hx
set_option maxRecDepth 100000 in
set_option maxHeartbeats 1500000 in
theorem streams_law {w : World} {v : Value} {L : List ByteArray} {E : Nat → Addr} (V : Env w E w.heap.size) (hT : Um.Txs w v L) (hn : L.length ≤ 9223372036854775807) (b o : Nat) (hb1 : 1 ≤ b) (hb2 : b ≤ 4096) (ho1 : 1 ≤ o) (ho2 : o ≤ 4096) :
    Calls Tryd.prog 4 #[v, .int .i64 b, .int .i64 o] w fun e w' => e = .returned (.bool true) ∧ Below w.heap.size w w' := by
  obtain ⟨i0, hi, hz0, hz1, hz2⟩ := Um.info_parts Um.infoT
  have HV := hide V
  obtain ⟨ao, cap, rfl, hcap, hnn, hat⟩ := hT
  have HAT := hide hat
  obtain ⟨N, hN⟩ : ∃ N, N = L.length := ⟨_, rfl⟩
  have HN := hide hN
  rw [← hN] at hn hcap ⊢
  clear hat hN V hnn
  have hb1z : ¬ (b : Int) < 1 := by omega
  have hb2z : ¬ 4096 < (b : Int) := by omega
  have ho1z : ¬ (o : Int) < 1 := by omega
  have ho2z : ¬ 4096 < (o : Int) := by omega
  go_enter Tryd.func4, Tryd.ntmps4
  go_wp2
  go_loopw [9, 10, 60] (fun s9 s10 s60 wr => ∃ (k z : Nat) (u : Value) (D : List ByteArray), u = s9 ∧ s10 = .int .i64 z ∧ s60 = .int .i64 k ∧ k ≤ N ∧ z ≤ 1048832 ∧ 2 * D.length ≤ z ∧ Hid (Fit D z) ∧ Hid (Um.OwnT w.heap.size wr u D) ∧ Hid (Below w.heap.size w wr)) (fun _ _ k _ => N - (intOf k).toNat)
  case atStart => exact ⟨0, 0, _, [], rfl, rfl, rfl, Nat.zero_le _, by omega, by simp, ⟨by simp, rfl⟩, Um.ownT_nil _ _, Below.refl _ _⟩
  case round =>
    obtain ⟨k, z, u, D, rfl, rfl, rfl, hk, hz, hD, HFT, HO, HBr⟩ := hrel
    by_cases hlt : k < N
    · have hltz : (k : Int) < (N : Int) := by omega
      have hk0 : 0 ≤ (k : Int) := by omega
      have hltN : k < L.length := by rw [← unhide HN]; exact hlt
      obtain ⟨x, hx⟩ : ∃ x, L[k]? = some x := ⟨_, List.getElem?_eq_getElem hltN⟩
      obtain ⟨g, off, rfl, hg, hc⟩ := unhide HAT (by omega)
      have hcx : wr.cell? ⟨g, off + k, none⟩ = some (.string x) := ((unhide HBr).cell (p := ⟨g, off + k, none⟩) hg).trans (hc k x hx)
      clear hc hx hltN
      by_cases hs : x.size ≤ 255
      · have hsz : (x.size : Int) ≤ 255 := by omega
        by_cases hzz : z < 1048576
        · have hzz2 : (z : Int) < 1048576 := by omega
          have HF2 := hide ((unhide HFT).push hs)
          go_wp2_with (at_builtin; refine wpList_append_own _ rfl _ _ 35 rfl w.heap.size 9 i0 (.string ByteArray.empty) 1 16 Tryd.underlying35 hi hz0 hz1 hz2 rfl (by decide) _ _ _ rfl ((unhide HO).below ((Below.refl _ _).alloc (Nat.le_refl _) _)) ⟨wr.heap.size, 0, none⟩ 1 1 [.string x] rfl rfl (Um.new_cells _ #[.string x] _) (by simp [Value.oneCell']) (by unfold maxLen; omega) (by omega) (by have := (unhide HBr).size; simp; omega) ?_; intro v' w2 hown' hgrow hnil; clear hnil; have HO2 := hide (Um.ownT_push hown'); have HB2 := hide (Um.push1 (unhide HO) (unhide HBr) (Nat.le_refl _) hgrow); clear hown' hgrow)
          go_roundw
          case rel => exact ⟨k + 1, z + (x.size + 2), v', D ++ [x], rfl, by go_num, by go_num, by omega, by omega, by simp only [List.length_append, List.length_cons, List.length_nil]; omega, HF2, HO2, HB2⟩
          case measure => simp [intOf]; omega
        · have hzz2 : ¬ (z : Int) < 1048576 := by omega
          go_wp2
          go_roundw
          case rel => exact ⟨k + 1, z, _, D, rfl, rfl, by go_num, by omega, by omega, hD, HFT, HO, HBr⟩
          case measure => simp [intOf]; omega
      · have hsz : ¬ (x.size : Int) ≤ 255 := by omega
        go_wp2
        go_roundw
        case rel => exact ⟨k + 1, z, _, D, rfl, rfl, by go_num, by omega, by omega, hD, HFT, HO, HBr⟩
        case measure => simp [intOf]; omega
    · have hltz : ¬ (k : Int) < (N : Int) := by omega
      obtain ⟨w0, hw0⟩ : ∃ w0 : World, w0 = wr := ⟨_, rfl⟩
      subst hw0
      obtain ⟨ao2, cap2, rfl, hcap2, -, hat2⟩ := (unhide HO).txs
      have HA2 := hide hat2
      have V1 := ((unhide HV).below (unhide HBr)).up (unhide HBr).size
      have HV1 := hide V1
      have HNW := hide (new_any z w0 (by omega) (by omega))
      have HOP : Hid (∀ W, At W w0.heap.size (newS z) (fun b => b = w0.heap.size) → Below w0.heap.size w0 W → Calls Tryd.prog 11 #[.pointer (some ⟨w0.heap.size, 0, none⟩), .int .i64 b] W fun e w' => ∃ wb, e = .returned (.tuple #[.pointer (some ⟨wb, 0, none⟩), .nilIface]) ∧ Sw w0 w' E w0.heap.size wb b z []) := fun W h1 h2 => sw_open V1 hb1 hb2 (by omega) h1 h2
      obtain ⟨M, hM⟩ : ∃ M, M = D.length := ⟨_, rfl⟩
      have HM := hide hM
      rw [← hM] at hcap2 hD ⊢
      clear hat2 V1 hM
      go_wp2_with (first | (go_at_call 6; refine (unhide HNW).mono ?_; clear HNW; rintro e w2 ⟨rfl, h2, hb2', -⟩; have HAT2 := hide h2; have HB2 := hide hb2'; clear h2 hb2') | (go_at_call 11; refine (unhide HOP _ (unhide HAT2) (unhide HB2)).mono ?_; clear HOP; rintro e w3 ⟨wb, rfl, h3⟩; have HS3 := hide h3; clear h3))
      go_loopw [16] (fun s16 wq => ∃ i : Nat, s16 = .int .i64 i ∧ i ≤ M + 2 ∧ Hid (Sw w0 wq E w0.heap.size wb b z (Um.frs (Um.rl (D.take i))))) (fun i _ => M + 3 - (intOf i).toNat)
      case atStart => exact ⟨0, rfl, by omega, HS3⟩
      case round =>
        obtain ⟨i, rfl, hiM, HSW⟩ := hrel
        by_cases hil : i < M
        · have hilz : (i : Int) < (M : Int) := by omega
          have hi0 : 0 ≤ (i : Int) := by omega
          obtain ⟨g, off, rfl, hg, hc⟩ := unhide HA2 (by rw [← unhide HM]; omega)
          obtain ⟨j, hj⟩ : ∃ j, j = min (i + 3) M := ⟨_, rfl⟩
          have hjz : min ((i : Int) + 3) (M : Int) = (j : Int) := by omega
          have hij : (i : Int) ≤ (j : Int) := by omega
          have hjc : (j : Int) ≤ (cap2 : Int) := by omega
          have HPU : Hid (Calls Tryd.prog 12 #[.pointer (some ⟨wb, 0, none⟩), .slice (some ⟨g, off + i, none⟩) (j - i) (cap2 - i)] wr fun e w' => e = .returned .nilIface ∧ Sw w0 w' E w0.heap.size wb b z (Um.frs (Um.rl (D.take (i + 3))))) := by
            rw [rl_take]
            have hw := (unhide HSW).old
            have hl : ((D.drop i).take 3).length = j - i := by rw [List.length_take, List.length_drop, ← unhide HM]; omega
            exact sw_put (unhide HV1) (unhide HSW) (txs_part (unhide HM) hj hil hcap2 (Nat.lt_of_lt_of_le hg hw.size) fun k x hx => (hw.cell (p := ⟨g, off + k, none⟩) hg).trans (hc k x hx)) (by omega) ((unhide HFT).part i) (by omega) (by rw [← rl_take]; exact (unhide HFT).take (i + 3))
          have hi3 : i + 3 ≤ M + 2 := by omega
          have hm3 : M + 3 - (i + 3) < M + 3 - i := by omega
          clear hc hj
          go_wp2_with (go_at_call 12; refine (unhide HPU).mono ?_; clear HPU; rintro e w4 ⟨rfl, h4⟩; have HS4 := hide h4; clear h4)
          go_roundw
          case rel => exact ⟨i + 3, by go_num, by omega, HS4⟩
          case measure => simp [intOf]; omega
        · have hilz : ¬ (i : Int) < (M : Int) := by omega
          have HSX := hide (unhide HSW)
          rw [List.take_of_length_le (by rw [← unhide HM]; omega)] at HSX
          obtain ⟨T, hT⟩ : ∃ T, T = Um.frs (Um.rl D) := ⟨_, rfl⟩
          rw [← hT] at HSX
          have hTl : T.length ≤ z := by rw [hT]; exact (unhide HFT).len
          have HCL := hide (sw_close (unhide HV1) (unhide HSX) hTl)
          have HFR : Hid (∀ W, Sd w0 W w0.heap.size z T → Calls Tryd.prog 14 #[.pointer (some ⟨w0.heap.size, 0, none⟩), .int .i64 1, .int .i64 o] W fun e w' => ∃ rb, e = .returned (.tuple #[.pointer (some ⟨rb, 0, none⟩), .nilIface]) ∧ Sr w0 w' w0.heap.size rb o z T T) := fun W hW => sd_from (unhide HV1) hW ho1 ho2
          have HTT := hide hT
          clear hT
          go_wp2_with (first | (go_at_call 13; refine (unhide HCL).mono ?_; clear HCL; rintro e w4 ⟨rfl, h4⟩; have HD4 := hide h4; clear h4) | (go_at_call 14; refine (unhide HFR _ (unhide HD4)).mono ?_; clear HFR; rintro e w5 ⟨rb, rfl, h5⟩; have HR5 := hide h5; clear h5))
          go_loopw [134] (fun s134 wq => ∃ q : Nat, s134 = .int .i64 q ∧ q ≤ M ∧ Hid (Sr w0 wq w0.heap.size rb o z T (Um.frs (Um.rl (D.drop q))))) (fun q _ => M - (intOf q).toNat)
          case atStart => exact ⟨0, rfl, Nat.zero_le _, by rw [List.drop_zero, ← unhide HTT]; exact HR5⟩
          case round =>
            obtain ⟨q, rfl, hq, HSR⟩ := hrel
            by_cases hql : q < M
            · have hqlz : (q : Int) < (M : Int) := by omega
              have hq0 : 0 ≤ (q : Int) := by omega
              obtain ⟨g, off, rfl, hg, hc⟩ := unhide HA2 (by rw [← unhide HM]; omega)
              obtain ⟨x, hx⟩ : ∃ x, D[q]? = some x := ⟨_, List.getElem?_eq_getElem (by rw [← unhide HM]; exact hql)⟩
              have hcx : wr.cell? ⟨g, off + q, none⟩ = some (.string x) := ((unhide HSR).old.cell (p := ⟨g, off + q, none⟩) hg).trans (hc q x hx)
              have HSY := hide (unhide HSR)
              rw [rl_drop hx] at HSY
              have hxs : x.size ≤ 255 := (unhide HFT).short x (List.mem_of_getElem? hx)
              have hRl : (Um.fr (Um.lst x) ++ Um.frs (Um.rl (D.drop (q + 1)))).length ≤ 67108864 := by
                rw [← rl_drop hx]
                have e1 := (unhide HFT).len
                have e2 : Um.frs (Um.rl D) = Um.frs (Um.rl (D.take q)) ++ Um.frs (Um.rl (D.drop q)) := by
                  conv => lhs; rw [← List.take_append_drop q D, Um.rl, List.map_append, Um.frs_app]
                  rfl
                rw [e2, List.length_append] at e1
                omega
              have HNX := hide (sr_next (unhide HV1) (unhide HSY) ho1 ho2 (by omega) hRl (by rw [Um.lst_len]; exact hxs))
              rw [Um.str_lst] at HNX
              clear hc hx hRl HSY
              go_wp2_with (go_at_call 15; refine (unhide HNX).mono ?_; clear HNX; rintro e w6 ⟨rfl, h6⟩; have HR6 := hide h6; clear h6)
              go_roundw
              case rel => exact ⟨q + 1, by go_num, by omega, HR6⟩
              case measure => simp [intOf]; omega
            · have hqlz : ¬ (q : Int) < (M : Int) := by omega
              have HSY := hide (unhide HSR)
              rw [List.drop_of_length_le (by rw [← unhide HM]; omega), show Um.frs (Um.rl ([] : List ByteArray)) = [] from rfl] at HSY
              have HNX := hide (sr_end (unhide HSY))
              have HSZ : Hid (∀ W, Sd w0 W w0.heap.size z T → Calls Tryd.prog 17 #[.pointer (some ⟨w0.heap.size, 0, none⟩), .int .i64 1] W fun e w' => e = .returned (.tuple #[.int .i64 T.length, .nilIface]) ∧ Sd w0 w' w0.heap.size z T) := fun W hW => sd_size (unhide HV1) hW
              have HRD : Hid (∀ W, Sd w0 W w0.heap.size z T → Calls Tryd.prog 18 #[.pointer (some ⟨w0.heap.size, 0, none⟩), .int .i64 1, .int .i64 0, .int .i64 T.length] W fun e w' => e = .returned (.tuple #[.string (Um.str T), .nilIface]) ∧ Below w0.heap.size w0 w') := fun W hW => sd_read (unhide HV1) hW (by omega)
              have HFM : Hid (∀ W, Sd w0 W w0.heap.size z T → Calls Tryd.prog 16 #[.slice ao2 M cap2] W fun e w' => e = .returned (.tuple #[.string (Um.str T), .int .i64 0]) ∧ Sd w0 w' w0.heap.size z T) := fun W hW => by
                have k1 : Um.Txs W (.slice ao2 M cap2) D := by
                  have k2 := ((unhide HO).txs).below hW.old
                  rwa [← unhide HM] at k2
                refine (Um.frame_any _ D W k1 (by rw [← unhide HM]; omega) (Um.str T) 0 (hide (by unfold Um.frA; rw [if_pos (unhide HFT).fit, unhide HTT])) (hide (by unfold Um.frE; rw [if_pos (unhide HFT).fit]))).mono fun e w' hh => ⟨hh.1, hW.below hh.2⟩
              generalize Um.str T = ST at *
              go_wp2_with (first | (go_at_call 15; refine (unhide HNX).mono ?_; clear HNX; rintro e w6 ⟨rfl, h6⟩; have HD6 := hide h6; clear h6) | (go_at_call 16; refine (unhide HFM _ (unhide HD6)).mono ?_; clear HFM; rintro e w7 ⟨rfl, h7⟩; have HD7 := hide h7; clear h7) | (go_at_call 17; refine (unhide HSZ _ (unhide HD7)).mono ?_; clear HSZ; rintro e w8 ⟨rfl, h8⟩; have HD8 := hide h8; clear h8) | (go_at_call 18; refine (unhide HRD _ (unhide HD8)).mono ?_; clear HRD; rintro e w9 ⟨rfl, h9⟩; have HB9 := hide h9; clear h9))
              go_ret
              exact ⟨rfl, (unhide HBr).trans ((unhide HB9).mono (unhide HBr).size)⟩
end Rs
end Go.Proofs.YtdcffkahijpcbabDoor
