/- Layer 10: the document's remove, Look, Union. -/
import Derived.Test.YtohfhkdhccpoaaaGreatDoorNd
namespace Go.Proofs.YtohfhkdhccpoaaaGreatDoor
open Go.RowKit Go.Shelf
namespace Rs
open Sm (Tx ofS)
theorem din_below {w W : World} {sb : Nat} {m : Sto} {F : Nat → Prop} {rv : Value} {sl : Nat → Value} (h : DIn w sb m F rv sl) (hb : Below w.heap.size w W) : DIn W sb m F rv sl := h.kept (fun b q => hb.block b (h.lt b q)) (fun _ x => x) (fun b q => Nat.lt_of_lt_of_le (h.lt b q) hb.size)
theorem dres_off {F : Nat → Prop} {w w' : World} {v : Value} {l : List Int} {sb : Nat} {m : Sto} (h : Nums w v l) (ho : Off F v) (r : DRes F w sb m w') : Nums w' v l := h.off ho r.2
set_option maxRecDepth 100000 in
set_option maxHeartbeats 2000000 in
theorem dremove_go {w : World} {sb : Nat} {m : Sto} {F : Nat → Prop} {rv v : Value} {sl : Nat → Value} {ks : List Nat} (h : DIn w sb m F rv sl) (hn : Nums w v (zs ks)) (ho : Off F v) (hz : ks.length ≤ 16777216) :
    Calls Tryz.prog 60 #[.pointer (some ⟨sb, 0, none⟩), v] w fun e w' => e = .returned (.tuple #[]) ∧ DRes F w sb (remAll m ks) w' := by
  have HR : Hid (∀ m' wr (k : Int), DRes F w sb m' wr → Calls Tryz.prog 33 #[.pointer (some ⟨sb, 0, none⟩), .int .i64 k] wr fun e w' => e = .returned (.int .i64 (rem m' k).1) ∧ DRes F w sb (rem m' k).2 w') := fun m' wr k hr => hr.rem h.lt k
  have H0 := hide (DRes.start h)
  obtain ⟨N, hN⟩ : ∃ N, (zs ks).length = N := ⟨_, rfl⟩
  have HM : Hid (ks.length = N) := by rw [← hN, zs_len]; rfl
  have hz' : N ≤ 16777216 := by rw [← hN, zs_len]; exact hz
  have hn0 := hn
  obtain ⟨ao, cap, rfl, -⟩ := hn
  have HC : Hid (∀ m' wr, DRes F w sb m' wr → 0 < N → ∃ g off, ao = some ⟨g, off, none⟩ ∧ ∀ (j : Nat) n, (zs ks)[j]? = some n → wr.cell? ⟨g, off + j, none⟩ = some (.int .i64 n)) := fun m' wr r h0 => by
    obtain ⟨ao', cap', e, hat⟩ := dres_off hn0 ho r
    obtain ⟨g, off, e1, _, hc⟩ := hat (by rw [hN]; exact h0)
    injection e with e _ _
    exact ⟨g, off, e.trans e1, hc⟩
  rw [hN]
  clear h ho hz hN hn0
  go_enter Tryz.func60, Tryz.ntmps60
  go_wp2
  go_loopw [4] (fun s4 wr => ∃ k : Nat, s4 = .int .i64 k ∧ k ≤ N ∧ Hid (DRes F w sb (remAll m (ks.take k)) wr)) (fun s4 _ => N - (intOf s4).toNat)
  case atStart => exact ⟨0, rfl, Nat.zero_le _, H0⟩
  case round =>
    clear H0
    obtain ⟨k, rfl, hk, HD⟩ := hrel
    by_cases hlt : k < N
    · have hltz : (k : Int) < (N : Int) := by omega
      have hk0 : 0 ≤ (k : Int) := by omega
      obtain ⟨n, hn⟩ : ∃ n, ks[k]? = some n := ⟨_, List.getElem?_eq_getElem (by rw [unhide HM]; exact hlt)⟩
      obtain ⟨g, off, rfl, hc⟩ := unhide HC _ _ (unhide HD) (by omega)
      have hcx := hc k n (zs_get hn)
      have HK := hide (unhide HR _ _ (n : Int) (unhide HD))
      have HTh : Hid (remAll m (ks.take (k + 1)) = (rem (remAll m (ks.take k)) n).2) := by
        show _ = _
        rw [List.take_add_one, hn]
        exact remAll_snoc m _ n
      clear hn HR HC hc
      go_wp2_with (go_at_call 33; refine (unhide HK).mono ?_; rintro e w3 ⟨rfl, h3⟩; rw [← unhide HTh] at h3; have H3 := hide h3; clear h3)
      go_roundw
      case rel => exact ⟨k + 1, by go_num, by omega, H3⟩
      case measure => simp [intOf]; omega
    · have hltz : ¬ (k : Int) < (N : Int) := by omega
      have hD := unhide HD
      rw [List.take_of_length_le (by rw [unhide HM]; omega)] at hD
      have HD2 := hide hD
      clear hD HD HC HR
      go_wp2
      go_end0
      exact ⟨rfl, unhide HD2⟩
set_option maxRecDepth 100000 in
set_option maxHeartbeats 2000000 in
theorem look_doc {w : World} {sb : Nat} {m : Sto} {F : Nat → Prop} {rv v : Value} {sl : Nat → Value} {ks : List Nat} {st : Nat → List Tx} (h : DIn w sb m F rv sl) (hn : Nums w v (zs ks)) (hq : Qs m st ks) (hz : ks.length ≤ 16777216) :
    Calls Tryz.prog 56 #[.pointer (some ⟨sb, 0, none⟩), v] w fun e w' => e = .returned (.int .i64 0) ∧ Below w.heap.size w w' := by
  have HRD : Hid (∀ W k, Below w.heap.size w W → k ∈ ks → Calls Tryz.prog 84 #[.pointer (some ⟨sb, 0, none⟩), .int .i64 (k : Nat), .int .i64 0, .int .i64 0] W fun e w' => ∃ t, e = .returned (.tuple #[.string t, .int .i64 0]) ∧ w' = W) := fun W k hW hk => by
    obtain ⟨r, h1, h2, _⟩ := (hq.std k hk).run
    have q := read_doc (din_below h hW) k 0 0 (by omega) (by omega)
    have e := rea_ok (a := 0) (n := 0) h1 h2 (by omega)
    rw [show rea m (k : Int) 0 0 = (((r.txt.drop 0).take 0), 0) from e] at q
    exact q.mono fun e w' hh => ⟨_, hh.1, hh.2⟩
  have HND := hide hq.nd
  obtain ⟨N, hN⟩ : ∃ N, (zs ks).length = N := ⟨_, rfl⟩
  have HM : Hid (ks.length = N) := by rw [← hN, zs_len]; rfl
  have hz' : N ≤ 16777216 := by rw [← hN, zs_len]; exact hz
  have hn0 := hn
  obtain ⟨ao, cap, rfl, -⟩ := hn
  have HC : Hid (∀ W, Below w.heap.size w W → 0 < N → ∃ g off, ao = some ⟨g, off, none⟩ ∧ g < W.heap.size ∧ ∀ (j : Nat) n, (zs ks)[j]? = some n → W.cell? ⟨g, off + j, none⟩ = some (.int .i64 n)) := fun W hW h0 => by
    obtain ⟨ao', cap', e, hat⟩ := hn0.below hW
    obtain ⟨g, off, e1, hg, hc⟩ := hat (by rw [hN]; exact h0)
    injection e with e _ _
    exact ⟨g, off, e.trans e1, hg, hc⟩
  rw [hN]
  clear h hz hN hq hn0
  go_enter Tryz.func56, Tryz.ntmps56
  go_wp2
  go_loopw [5] (fun s5 wr => ∃ k : Nat, s5 = .int .i64 k ∧ k ≤ N ∧ Hid (Below w.heap.size w wr)) (fun s5 _ => N - (intOf s5).toNat)
  case atStart => exact ⟨0, rfl, Nat.zero_le _, Below.refl _ _⟩
  case round =>
    obtain ⟨k, rfl, hk, HB⟩ := hrel
    by_cases hlt : k < N
    · have hltz : (k : Int) < (N : Int) := by omega
      have hk0 : 0 ≤ (k : Int) := by omega
      obtain ⟨n, hn⟩ : ∃ n, ks[k]? = some n := ⟨_, List.getElem?_eq_getElem (by rw [unhide HM]; exact hlt)⟩
      have HNK := hide hn
      obtain ⟨g, off, rfl, hg, hc⟩ := unhide HC _ (unhide HB) (by omega)
      have HCC0 : Hid (∀ W, Below wr.heap.size wr W → (∀ (j : Nat) n, (zs ks)[j]? = some n → W.cell? ⟨g, off + j, none⟩ = some (.int .i64 n)) ∧ Below w.heap.size w W) := fun W hW => ⟨fun j n hj => (hW.cell (p := ⟨g, off + j, none⟩) hg).trans (hc j n hj), (unhide HB).trans (hW.mono (unhide HB).size)⟩
      obtain ⟨W0, hW0⟩ : ∃ W0, W0 = wr := ⟨_, rfl⟩
      have HW0 := hide hW0
      clear hW0
      have hcx := hc k n (zs_get hn)
      have HK := hide (unhide HRD _ n (unhide HB) (List.mem_of_getElem? hn))
      have HCC : Hid (∀ W, Below W0.heap.size W0 W → (∀ (j : Nat) n, (zs ks)[j]? = some n → W.cell? ⟨g, off + j, none⟩ = some (.int .i64 n)) ∧ Below w.heap.size w W) := by rw [unhide HW0]; exact HCC0
      clear hn hc HCC0
      go_wp2_with (go_at_call 84; refine (unhide HK).mono ?_; rintro e w3 ⟨t, rfl, hw⟩; have hw' := hw.symm; subst hw'; clear hw)
      go_loopw [8] (fun s8 wr2 => ∃ j : Nat, s8 = .int .i64 j ∧ j ≤ k ∧ Hid (Below W0.heap.size W0 wr2)) (fun s8 _ => k - (intOf s8).toNat)
      case atStart => exact ⟨0, rfl, Nat.zero_le _, by show Below _ _ _; rw [unhide HW0]; exact Below.refl _ _⟩
      case round =>
        obtain ⟨j, rfl, hj, HQ⟩ := hrel
        obtain ⟨hcc, -⟩ := unhide HCC _ (unhide HQ)
        by_cases hjk : j < k
        · have hjz : (j : Int) < (k : Int) := by omega
          have hj0 : 0 ≤ (j : Int) := by omega
          have hjN : (j : Int) < (N : Int) := by omega
          obtain ⟨n2, hn2⟩ : ∃ n2, ks[j]? = some n2 := ⟨_, List.getElem?_eq_getElem (by rw [unhide HM]; omega)⟩
          have y1 := hcc k n (zs_get (unhide HNK))
          have y2 := hcc j n2 (zs_get hn2)
          have hne : ¬ (n2 : Int) = (n : Int) := fun e => by
            have e2 : n2 = n := by omega
            obtain ⟨l1, e3⟩ := List.getElem?_eq_some_iff.1 hn2
            obtain ⟨l2, e4⟩ := List.getElem?_eq_some_iff.1 (unhide HNK)
            have := List.pairwise_iff_getElem.1 (unhide HND) j k l1 l2 hjk
            rw [e3, e4] at this
            exact this e2
          have HQ2 : Hid (∀ q, Below wr.heap.size wr (wr.drewN q)) := fun q => ⟨rfl, rfl, rfl, Nat.le_refl _, fun _ _ => rfl⟩
          have HQ3 : Hid (∀ W, Below wr.heap.size wr W → Below W0.heap.size W0 W) := fun W hW => (unhide HQ).trans (hW.mono (unhide HQ).size)
          clear hcc hn2
          go_wp2
          go_quiet (fail)
          have bV := unhide HQ3 _ (unhide HQ2 nq)
          generalize wr.drewN nq = V at *
          go_wp2
          go_roundw
          case rel => exact ⟨j + 1, by go_num, by omega, bV⟩
          case measure => simp [intOf]; omega
        · have hjz : ¬ (j : Int) < (k : Int) := by omega
          have bW := (unhide HCC _ (unhide HQ)).2
          clear hcc
          go_wp2
          go_roundw
          case rel => exact ⟨k + 1, by go_num, by omega, bW⟩
          case measure => simp [intOf]; omega
    · have hltz : ¬ (k : Int) < (N : Int) := by omega
      clear HRD HC HND
      go_wp2
      go_ret
      exact ⟨rfl, unhide HB⟩
end Rs
end Go.Proofs.YtohfhkdhccpoaaaGreatDoor
