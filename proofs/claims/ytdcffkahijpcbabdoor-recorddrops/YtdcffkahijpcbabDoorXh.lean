/- Layer 6: RecordDrops. -/
import Derived.Test.YtdcffkahijpcbabDoorXi
import Derived.Deep.RegionWith
import Derived.BigQuiet
namespace Go.Proofs.YtdcffkahijpcbabDoor
open Go.RowKit
namespace Rs
theorem ne_same {w : World} (a : Addr) : (binOp .neq 47 (.iface 164 (.pointer (some a))) (.iface 164 (.pointer (some a)))).run Tryd.prog w = .ok (.bool false) w := by
  obtain ⟨i, hi, hc⟩ := Option.map_eq_some_iff.1 (show (Tryd.prog.info? 164).map (·.comparable) = some true by kernel_rfl)
  obtain ⟨j, hj, _⟩ := Option.map_eq_some_iff.1 (show (Tryd.prog.info? 179).map (·.size) = some 1 by kernel_rfl)
  simp only [binOp]
  simp [Op.equal, Op.maxDepth, run_equalIn_iface_ptr_same w 9998 a Tryd.underlying47 Tryd.underlying164 hi hc hj]
theorem Env.over {w : World} {E : Nat → Addr} {B C : Nat} (h : Env w E B) (hC : B ≤ C) : Env w E C := { h with g := h.g.sub fun _ hb => Nat.le_trans h.nb (Nat.le_trans hC hb), lt := fun i hi => Nat.lt_of_lt_of_le (h.lt i hi) hC, nb := Nat.le_trans h.nb hC }
set_option maxRecDepth 100000 in
set_option maxHeartbeats 2000000 in
theorem drops_law {w : World} {v : Value} {L : List ByteArray} {E : Nat → Addr} (V : Env w E w.heap.size) (hT : Um.Txs w v L) (hn : L.length ≤ 9223372036854775807) (bl n c : Int) (hb1 : -9223372036854775808 ≤ bl) (hb2 : bl ≤ 9223372036854775807) (hn2 : n ≤ 9223372036854775807) (hc1 : -9223372036854775808 ≤ c) (hc2 : c ≤ 9223372036854775807) :
    Calls Tryd.prog 5 #[.agg #[v, .int .i64 bl, .int .i64 n, .int .i64 c]] w fun e w' => e = .returned (.bool true) ∧ Below w.heap.size w w' := by
  have HV := hide V
  have HT := hide hT
  obtain ⟨ao, cap, rfl, hcap, hnn, hat⟩ := hT
  obtain ⟨N, hN⟩ : ∃ N, N = L.length := ⟨_, rfl⟩
  have HN := hide hN
  rw [← hN] at hn hcap ⊢
  obtain ⟨q, hq⟩ : ∃ q : Nat, max 0 bl = (q : Int) := ⟨(max 0 bl).toNat, by omega⟩
  have hqb : q ≤ 9223372036854775807 := by omega
  have hr : (q : Int).tmod 64 = ((q % 64 : Nat) : Int) := by rw [Int.tmod_eq_emod_of_nonneg (by omega)]; omega
  obtain ⟨b, hbb⟩ : ∃ b : Nat, 1 + (q : Int) % 64 = (b : Int) := ⟨1 + q % 64, by omega⟩
  have hb3 : 1 ≤ b := by omega
  have hb4 : b ≤ 4096 := by omega
  obtain ⟨bx, hbx⟩ : ∃ bx, bx = w.heap.size := ⟨_, rfl⟩
  clear hat hN V hnn
  go_enter Tryd.func5, Tryd.ntmps5
  go_wp2_with (go_at_call 8; refine (Um.wakes_any _).mono ?_; rintro e w1 ⟨rfl, hB1⟩; have HB1 := hide hB1; clear hB1)
  have dd : ∀ k, w1.cell? ⟨w.heap.size, k, none⟩ = (w.alloc (.cells #[.slice ao N cap, .int .i64 bl, .int .i64 n, .int .i64 c] 66)).cell? ⟨w.heap.size, k, none⟩ := fun k => (unhide HB1).cell (p := ⟨w.heap.size, k, none⟩) (by simp)
  have d0 : w1.cell? ⟨bx, 0, none⟩ = some (.slice ao N cap) := by rw [hbx, dd]; go_simp
  have d1 : w1.cell? ⟨bx, 1, none⟩ = some (.int .i64 bl) := by rw [hbx, dd]; go_simp
  have d2 : w1.cell? ⟨bx, 2, none⟩ = some (.int .i64 n) := by rw [hbx, dd]; go_simp
  have d3 : w1.cell? ⟨bx, 3, none⟩ = some (.int .i64 c) := by rw [hbx, dd]; go_simp
  have hbl : bx < w1.heap.size := by have := (unhide HB1).size; simp at this; omega
  have HW1 : Hid (Below w.heap.size w w1) := ((Below.refl _ w).alloc (Nat.le_refl _) _).trans ((unhide HB1).mono (by simp))
  rw [← hbx]
  have HBX := hide hbx
  clear dd HB1 hbx
  go_quiet (fail)
  have e3 : (w1.drewN nq).cell? ⟨bx, 3, none⟩ = some (.int .i64 c) := d3
  have HW2 : Hid (Below w.heap.size w (w1.drewN nq)) := (unhide HW1).trans ⟨rfl, rfl, rfl, Nat.le_refl _, fun _ _ => rfl⟩
  have hbl2 : bx < (w1.drewN nq).heap.size := hbl
  generalize w1.drewN nq = W0 at *
  clear d0 d1 d2 d3 hbl HW1
  go_wp2
  go_region_held3 (fun w' => w'.cell? ⟨bx, 3, none⟩ = some (.int .i64 c))
    (first | exact e3 | exact s1)
    (first
      | (go_at_call 6; refine (new_any c _ hc1 hc2).mono ?_; rintro e wa ⟨rfl, ha1, ha2, ha3⟩; have s1 : wa.cell? ⟨bx, 3, none⟩ = some (.int .i64 c) := (ha2.cell (p := ⟨bx, 3, none⟩) (by show bx < _; first | exact hbl2 | (simp; omega) | omega)).trans (by first | exact e3 | go_simp); have hza : bx < wa.heap.size := (by have := ha2.size; first | omega | (simp at this; omega)); have HA := hide (And.intro ha1 (And.intro ha2 ha3)); clear ha1 ha2 ha3)
      | (go_at_call 7; refine (dnew_any c _ hc1 hc2).mono ?_; rintro e wd ⟨rfl, hd1, hd2, hd3⟩; have s1 : wd.cell? ⟨bx, 3, none⟩ = some (.int .i64 c) := (hd2.cell (p := ⟨bx, 3, none⟩) (by show bx < _; first | exact hza | omega)).trans (by first | exact s1 | go_simp); have HD := hide (And.intro hd1 (And.intro hd2 hd3)); clear hd1 hd2 hd3))
  clear s1 e3
  have HP0 : Hid (P2 W0 wd W0.heap.size wa.heap.size (newS c) (newS c)) := by
    obtain ⟨a1, a2, a3⟩ := unhide HA
    obtain ⟨b1, b2, b3⟩ := unhide HD
    have za : wa.heap.size = W0.heap.size + 1 := a3
    have a2' : Below W0.heap.size W0 wa := ⟨a2.os, a2.tape, a2.output, a2.size, a2.block⟩
    refine ⟨_, _, _, _, a1.kept (fun y hy => b2.block y (a1.lt y hy)) (fun _ z => z) (fun y hy => Nat.lt_of_lt_of_le (a1.lt y hy) b2.size), b1, fun y hy e => ?_, fun y hy => ?_, a2'.trans (b2.mono (by omega))⟩
    · have hy' : y = W0.heap.size := hy
      have e' : y = wa.heap.size := e
      omega
    · rcases hy with hy | hy
      · have hy' : y = W0.heap.size := hy
        omega
      · have hy' : y = wa.heap.size := hy
        omega
  obtain ⟨sb, hsb⟩ : ∃ sb, sb = W0.heap.size := ⟨_, rfl⟩
  obtain ⟨tb, htb⟩ : ∃ tb, tb = wa.heap.size := ⟨_, rfl⟩

  rw [← htb, ← hsb] at HP0
  rw [← htb, ← hsb]
  have HB0 : Hid (∀ {W : World} {m md : Sto}, P2 W0 W sb tb m md → Below w.heap.size w W) := fun h => (unhide HW2).trans (h.old.mono (unhide HW2).size)
  have V0 := ((unhide HV).below (unhide HW2)).over (unhide HW2).size
  have HV0 := hide V0
  clear hsb htb HA HD V0 hza
  have HBK : Hid (∀ {W : World} {m md : Sto}, P2 W0 W sb tb m md → Calls Tryd.prog 19 #[.pointer (some ⟨sb, 0, none⟩), .int .i64 n] W fun e w' => e = .returned (.tuple #[]) ∧ P2 W0 w' sb tb (m.brk n) md) := fun h => p2_break h n hn2
  have HBD : Hid (∀ {W : World} {m md : Sto}, P2 W0 W sb tb m md → Calls Tryd.prog 20 #[.pointer (some ⟨tb, 0, none⟩), .int .i64 n] W fun e w' => e = .returned (.tuple #[]) ∧ P2 W0 w' sb tb m (md.brk n)) := fun h => p2_dbreak h n hn2
  rcases crt_first c n with ⟨hone, m2, hcr, hru⟩ | ⟨hone, m2, hcr, hso⟩
  · have HOP : Hid (∀ {W : World} {md : Sto}, P2 W0 W sb tb ((newS c).brk n) md → Calls Tryd.prog 11 #[.pointer (some ⟨sb, 0, none⟩), .int .i64 b] W fun e w' => e = .returned (.tuple #[.pointer none, er E 9]) ∧ P2 W0 w' sb tb m2 md) := fun h => p2_open_fail (unhide HV0) h hb3 hb4 hcr (by decide)
    have HOD : Hid (∀ {W : World} {m : Sto}, P2 W0 W sb tb m ((newS c).brk n) → Calls Tryd.prog 21 #[.pointer (some ⟨tb, 0, none⟩), .int .i64 b] W fun e w' => e = .returned (.tuple #[.pointer none, .int .i64 9]) ∧ P2 W0 w' sb tb m m2) := fun h => p2_dopen_fail h hb3 hb4 hcr (by decide)
    have HCO : Hid (∀ {W : World} {m md : Sto}, P2 W0 W sb tb m md → Calls Tryd.prog 22 #[er E 9] W fun e w' => e = .returned (.int .i64 9) ∧ w' = W) := fun h => code6_9 ((unhide HV0).below h.old)
    have HLV : Hid (∀ {W : World}, P2 W0 W sb tb m2 m2 → Calls Tryd.prog 23 #[.pointer (some ⟨sb, 0, none⟩)] W fun e w' => ∃ a k, e = .returned (.slice a 0 k) ∧ Below w.heap.size w w') := fun {W} h => by
      have h0 := unhide HB0 h
      obtain ⟨F, F2, rv, sl, k1, k2, k3, k4, k5⟩ := h
      refine (live_any k1).mono ?_
      rintro e w' ⟨u, rfl, ho, hb⟩
      obtain ⟨a, k, rfl⟩ := own_slice ho
      exact ⟨a, k, by rw [hru]; rfl, h0.trans (hb.mono h0.size)⟩
    clear hcr hru hone
    unfold er at HOP HCO
    go_wp2_with (first
      | (go_at_call 19; refine (unhide HBK (unhide HP0)).mono ?_; rintro e w3 ⟨rfl, h3⟩; have HP1 := hide h3; clear h3)
      | (go_at_call 20; refine (unhide HBD (unhide HP1)).mono ?_; rintro e w4 ⟨rfl, h4⟩; have HP3 := hide h4; clear h4)
      | (go_at_call 11; refine (unhide HOP (unhide HP3)).mono ?_; rintro e w5 ⟨rfl, h5⟩; have HP4 := hide h5; clear h5)
      | (go_at_call 21; refine (unhide HOD (unhide HP4)).mono ?_; rintro e w6 ⟨rfl, h6⟩; have HP5 := hide h6; clear h6)
      | (go_at_call 22; refine (unhide HCO (unhide HP5)).mono ?_; rintro e w7 ⟨rfl, hw7⟩; have hw8 := hw7.symm; subst hw8; clear hw7)
      | (go_at_call 23; refine (unhide HLV (unhide HP5)).mono ?_; rintro e w8 ⟨a, k, rfl, h8⟩; have HB8 := hide h8; clear h8))
    go_ret
    exact ⟨rfl, unhide HB8⟩
  · have HOP : Hid (∀ {W : World} {md : Sto}, P2 W0 W sb tb ((newS c).brk n) md → Calls Tryd.prog 11 #[.pointer (some ⟨sb, 0, none⟩), .int .i64 b] W fun e w' => ∃ wb, e = .returned (.tuple #[.pointer (some ⟨wb, 0, none⟩), .nilIface]) ∧ P3 W0 w' E sb wb tb m2 ⟨1, b, [], 0⟩ md) := fun h => p2_open_go (unhide HV0) h hb3 hb4 hcr
    have HOD : Hid (∀ {W : World} {wb : Nat}, P3 W0 W E sb wb tb m2 ⟨1, b, [], 0⟩ ((newS c).brk n) → Calls Tryd.prog 21 #[.pointer (some ⟨tb, 0, none⟩), .int .i64 b] W fun e w' => ∃ vb, e = .returned (.tuple #[.pointer (some ⟨vb, 0, none⟩), .int .i64 0]) ∧ Ps W0 w' E sb wb tb vb m2 ⟨1, b, [], 0⟩ m2 ⟨1, b, 0, ByteArray.empty⟩) := fun h => p3_dopen_go h hb3 hb4 hcr
    have HSO := hide hso
    clear hcr hso hone
    go_wp2_with (first
      | (go_at_call 19; refine (unhide HBK (unhide HP0)).mono ?_; rintro e w3 ⟨rfl, h3⟩; have HP1 := hide h3; clear h3)
      | (go_at_call 20; refine (unhide HBD (unhide HP1)).mono ?_; rintro e w4 ⟨rfl, h4⟩; have HP3 := hide h4; clear h4)
      | (go_at_call 11; refine (unhide HOP (unhide HP3)).mono ?_; rintro e w5 ⟨wb, rfl, h5⟩; have HP4 := hide h5; clear h5)
      | (go_at_call 21; refine (unhide HOD (unhide HP4)).mono ?_; rintro e w6 ⟨vb, rfl, h6⟩; have HP5 := hide h6; clear h6)
      | (go_at_call 22; refine (code6_0 _).mono ?_; rintro e w7 ⟨rfl, hw7⟩; have hw8 := hw7.symm; subst hw8; clear hw7))
    clear HOP HOD HBK HBD HP0 HP1 HP3 HP4
    go_loopw [74] (fun s74 wr => ∃ k : Nat, s74 = .int .i64 k ∧ k ≤ N ∧ Hid (∃ m x d, Dr W0 wr E sb wb tb vb m x d)) (fun k _ => N - (intOf k).toNat)
    case atStart => exact ⟨0, rfl, Nat.zero_le _, ⟨_, _, _, ⟨unhide HP5, like_new b, unhide HSO, rfl, hb3, hb4, by show (0 : Nat) ≤ 4096; omega, .inl rfl⟩⟩⟩
    case round =>
      obtain ⟨k, rfl, hk, HDR⟩ := hrel
      obtain ⟨m, x, d, hdr⟩ := unhide HDR
      have HD1 := hide hdr
      have hold := hdr.ps.old
      have HO1 : Hid (Below w.heap.size w wr) := (unhide HW2).trans (hold.mono (unhide HW2).size)
      clear hold
      by_cases hlt : k < N
      · have hltz : (k : Int) < (N : Int) := by omega
        have hk0 : 0 ≤ (k : Int) := by omega
        obtain ⟨ao', cap', e9, -, -, hat⟩ := unhide HT
        injection e9 with e91 e92 e93
        subst e91
        obtain ⟨g, off, rfl, hg, hcc⟩ := hat (by rw [← unhide HN]; omega)
        obtain ⟨y, hy⟩ : ∃ y, L[k]? = some y := ⟨_, List.getElem?_eq_getElem (by rw [← unhide HN]; exact hlt)⟩
        have hcx : wr.cell? ⟨g, off + k, none⟩ = some (.string y) := ((unhide HO1).cell (p := ⟨g, off + k, none⟩) hg).trans (hcc k y hy)
        have hrun : x.run ≤ 16777216 := by rw [hdr.run]; omega
        have HPU : Hid (∀ W, Below wr.heap.size wr W → wr.heap.size < W.heap.size → W.cell? ⟨wr.heap.size, 0, none⟩ = some (.string y) → Calls Tryd.prog 12 #[.pointer (some ⟨wb, 0, none⟩), .slice (some ⟨wr.heap.size, 0, none⟩) 1 1] W fun e w' => e = .returned (errV E (wput m x [y]).1) ∧ Ps W0 w' E sb wb tb vb (wput m x [y]).2.1 (wput m x [y]).2.2 m d) := fun W h1 h2 h3 => ps_put (unhide HV0) ((unhide HD1).ps.below h1) hrun (txs_one h2 h3) (by simp) (by simp)
        have HCO : Hid (∀ W, Ps W0 W E sb wb tb vb (wput m x [y]).2.1 (wput m x [y]).2.2 m d → Calls Tryd.prog 22 #[errV E (wput m x [y]).1] W fun e w' => e = .returned (.int .i64 (wput m x [y]).1) ∧ w' = W) := fun W h1 => code6_any ((unhide HV0).below h1.old) (num_put (unhide HD1).num (unhide HD1).blk1 [y]).1
        have HPD : Hid (∀ w4 W, Ps W0 w4 E sb wb tb vb (wput m x [y]).2.1 (wput m x [y]).2.2 m d → Below w4.heap.size w4 W → w4.heap.size < W.heap.size → W.cell? ⟨w4.heap.size, 0, none⟩ = some (.string y) → Calls Tryd.prog 24 #[.pointer (some ⟨tb, 0, none⟩), .pointer (some ⟨vb, 0, none⟩), .slice (some ⟨w4.heap.size, 0, none⟩) 1 1] W fun e w' => e = .returned (.int .i64 (wput m x [y]).1) ∧ ∃ m x d, Dr W0 w' E sb wb tb vb m x d) := fun w4 W h0 h1 h2 h3 => by
          have q := ps_dput (h0.below h1) (by rw [(unhide HD1).like.blk]; exact (unhide HD1).blk1) (by rw [(unhide HD1).like.blk]; exact (unhide HD1).blk2) (unhide HD1).held (txs_one h2 h3) (by simp)
          rw [(like_put (m := m) (unhide HD1).like [y]).1] at q
          exact q.mono fun e w' hh => ⟨hh.1, _, _, _, (unhide HD1).put hh.2⟩
        generalize wput m x [y] = R at *
        generalize errV E R.1 = ev at *
        clear hcc hy hat e92 e93 hdr
        go_wp2_with (first
          | (go_at_call 12; refine (unhide HPU _ (by (repeat (first | exact Below.refl _ _ | refine Below.drew ?_ | refine Below.alloc ?_ (by first | (simp; done) | (simp; omega)) _ | refine Below.setCell ?_ (by first | (simp; done) | (simp; omega)) _))) (by simp) (by go_simp)).mono ?_; clear HPU; rintro e w4 ⟨rfl, h4⟩; have HP6 := hide h4; clear h4)
          | (go_at_call 22; refine (unhide HCO _ (unhide HP6)).mono ?_; rintro e w7 ⟨rfl, hw7⟩; have hw8 := hw7.symm; subst hw8; clear hw7)
          | (go_at_call 24; refine (unhide HPD _ _ (unhide HP6) (by (repeat (first | exact Below.refl _ _ | refine Below.drew ?_ | refine Below.alloc ?_ (by first | (simp; done) | (simp; omega)) _ | refine Below.setCell ?_ (by first | (simp; done) | (simp; omega)) _))) (by simp) (by go_simp)).mono ?_; clear HPD; rintro e w8 ⟨rfl, h8⟩; have HP7 := hide h8; clear h8))
        go_roundw
        case rel => exact ⟨k + 1, by go_num, by omega, HP7⟩
        case measure => simp [intOf]; omega
      · have hltz : ¬ (k : Int) < (N : Int) := by omega
        have HCLZ : Hid (∀ {W : World} {m : Sto}, Pk W0 W sb wb m → W.cell? ⟨1, 0, none⟩ = some (er E 13)) := fun h => ((unhide HV0).below h.old).cl
        have HBK2 : Hid (∀ {W : World} {m : Sto}, Pk W0 W sb wb m → Below w.heap.size w W) := fun h => (unhide HW2).trans (h.old.mono (unhide HW2).size)
        rcases dr_close (unhide HV0) hdr with ⟨cc, m', x', hc0, hnum, hxd, hxr, hso, Q, hcl, hdc⟩ | ⟨m', hso, Q, hcl, hdc⟩
        · have HQ1 := hide hcl
          have HQ2 := hide hdc
          have HCO : Hid (∀ {W : World}, Pp W0 W E sb wb m' x' → Calls Tryd.prog 22 #[er E cc] W fun e w' => e = .returned (.int .i64 cc) ∧ w' = W) := fun h => by
            have q := code6_any ((unhide HV0).below h.old) hnum
            rwa [errV_er hc0] at q
          have HC2 : Hid (∀ {W : World}, Pp W0 W E sb wb m' x' → Calls Tryd.prog 13 #[.pointer (some ⟨wb, 0, none⟩)] W fun e w' => e = .returned (.tuple #[.int .i64 0, er E cc]) ∧ w' = W) := fun h => pp_close h hxd hc0
          have HPU : Hid (∀ {W : World} (v : Value), Pp W0 W E sb wb m' x' → Calls Tryd.prog 12 #[.pointer (some ⟨wb, 0, none⟩), v] W fun e w' => e = .returned (er E cc) ∧ w' = W) := fun v h => pp_put h hxd hc0
          have HPB : Hid (∀ {W W' : World}, Pp W0 W E sb wb m' x' → Below W.heap.size W W' → Pp W0 W' E sb wb m' x') := fun h hb => h.below hb
          have HDR2 : Hid (∀ {W : World}, Pp W0 W E sb wb m' x' → Calls Tryd.prog 26 #[.pointer (some ⟨wb, 0, none⟩)] W fun e w' => e = .returned (.tuple #[]) ∧ Pk W0 w' sb wb (rem m' 1).2) := fun h => by
            have q := pp_drop (unhide HV0) h (by rw [hxr]; omega)
            rw [hxr] at q
            exact q
          have hru := rem_solo hso
          have HLV : Hid (∀ {W : World}, Pk W0 W sb wb (rem m' 1).2 → Calls Tryd.prog 23 #[.pointer (some ⟨sb, 0, none⟩)] W fun e w' => ∃ a k, e = .returned (.slice a 0 k) ∧ Pk W0 w' sb wb (rem m' 1).2) := fun h => (pk_live h).mono fun e w' hh => by
            obtain ⟨a, k, e1, e2⟩ := hh
            rw [hru] at e1
            exact ⟨a, k, e1, e2⟩
          have HUS : Hid (∀ {W : World}, Pk W0 W sb wb (rem m' 1).2 → Calls Tryd.prog 27 #[.pointer (some ⟨sb, 0, none⟩)] W fun e w' => e = .returned (.int .i64 0) ∧ w' = W) := fun h => by
            have q := pk_used h
            rw [hru] at q
            exact q
          have HPZ : Hid (∀ {W : World} {m : Sto} (v : Value), Pk W0 W sb wb m → Calls Tryd.prog 12 #[.pointer (some ⟨wb, 0, none⟩), v] W fun e w' => e = .returned (er E 13) ∧ w' = W) := fun v h => pk_put (unhide HV0) h
          have he1 := fun W : World => ne_same (w := W) (E cc)
          have he2 := fun W : World => eq_same (w := W) (E 13)
          generalize (rem m' 1).2 = mz at *
          unfold er at *
          clear hcl hdc hnum hxd hxr hso hru hdr HDR
          go_wp2_with (first
            | (go_at_call 25; refine (unhide HQ2 _ (unhide HQ)).mono ?_; rintro e w4 ⟨rfl, h4⟩; have HP6 := hide h4; clear h4)
            | (go_at_call 22; refine (unhide HCO (unhide HP6)).mono ?_; rintro e w7 ⟨rfl, hw7⟩; have hw8 := hw7.symm; subst hw8; clear hw7)
            | (go_at_call 13; first | (refine (unhide HC2 (unhide HP6)).mono ?_; rintro e w7 ⟨rfl, hw7⟩; have hw8 := hw7.symm; subst hw8; clear hw7) | (refine (unhide HQ1).mono ?_; rintro e w3 ⟨rfl, h3⟩; have HQ := hide h3; clear h3))
            | (go_at_call 12; refine (unhide HPU _ (unhide HPB (unhide HP6) (by (repeat (first | exact Below.refl _ _ | refine Below.drew ?_ | refine Below.alloc ?_ (by first | (simp; done) | (simp; omega)) _ | refine Below.setCell ?_ (by first | (simp; done) | (simp; omega)) _))))).mono ?_; rintro e w7 ⟨rfl, hw7⟩; have hw8 := hw7.symm; subst hw8; clear hw7)
            | (go_at_call 26; refine (unhide HDR2 (unhide HPB (unhide HP6) (by (repeat (first | exact Below.refl _ _ | refine Below.drew ?_ | refine Below.alloc ?_ (by first | (simp; done) | (simp; omega)) _ | refine Below.setCell ?_ (by first | (simp; done) | (simp; omega)) _))))).mono ?_; rintro e w8 ⟨rfl, h8⟩; have HK8 := hide h8; clear h8))
          have zc := unhide HCLZ (unhide HK8)
          go_region_held3 (fun w' => w'.cell? ⟨1, 0, none⟩ = some (.iface 164 (.pointer (some (E 13)))))
            (first | exact zc | exact s1)
            (first
              | (go_at_call 23; refine (unhide HLV (by first | exact unhide HK8 | exact (unhide HK8).below (by (repeat (first | exact Below.refl _ _ | refine Below.drew ?_ | refine Below.alloc ?_ (by first | (simp; done) | (simp; omega)) _ | refine Below.setCell ?_ (by first | (simp; done) | (simp; omega)) _))))).mono ?_; rintro e w9 ⟨la, lk, rfl, h9⟩; have HK9 := hide h9; have s1 := unhide HCLZ h9; clear h9)
              | (go_at_call 27; refine (unhide HUS (unhide HK9)).mono ?_; rintro e w7 ⟨rfl, hw7⟩; have hw8 := hw7.symm; subst hw8; clear hw7)
              | (go_at_call 12; refine (unhide HPZ _ (unhide HK9)).mono ?_; rintro e w7 ⟨rfl, hw7⟩; have hw8 := hw7.symm; subst hw8; clear hw7))
          go_wp2
          go_ret
          exact ⟨rfl, unhide HBK2 (unhide HK9)⟩
        · have HQ1 := hide hcl
          have HQ2 := hide hdc
          have HC2 : Hid (∀ {W : World}, Pk W0 W sb wb m' → Calls Tryd.prog 13 #[.pointer (some ⟨wb, 0, none⟩)] W fun e w' => e = .returned (.tuple #[.int .i64 0, er E 13]) ∧ w' = W) := fun h => pk_close (unhide HV0) h
          have HDR2 : Hid (∀ {W : World}, Pk W0 W sb wb m' → Calls Tryd.prog 26 #[.pointer (some ⟨wb, 0, none⟩)] W fun e w' => e = .returned (.tuple #[]) ∧ Pk W0 w' sb wb m') := fun h => pk_drop h
          have HLV : Hid (∀ {W : World}, Pk W0 W sb wb m' → Calls Tryd.prog 23 #[.pointer (some ⟨sb, 0, none⟩)] W fun e w' => ∃ a k, e = .returned (.slice a 1 k) ∧ Pk W0 w' sb wb m') := fun h => (pk_live h).mono fun e w' hh => by
            obtain ⟨a, k, e1, e2⟩ := hh
            obtain ⟨t, s, e3⟩ := hso
            rw [e3] at e1
            exact ⟨a, k, e1, e2⟩
          have he2 := fun W : World => ne_same (w := W) (E 13)
          unfold er at *
          clear hcl hdc hso hdr HDR
          go_wp2_with (first
            | (go_at_call 25; refine (unhide HQ2 _ (unhide HQ)).mono ?_; rintro e w4 ⟨rfl, h4⟩; have HP6 := hide h4; have zc := unhide HCLZ h4; clear h4)
            | (go_at_call 22; refine (code6_0 _).mono ?_; rintro e w7 ⟨rfl, hw7⟩; have hw8 := hw7.symm; subst hw8; clear hw7)
            | (go_at_call 13; first | (refine (unhide HC2 (unhide HP6)).mono ?_; rintro e w7 ⟨rfl, hw7⟩; have hw8 := hw7.symm; subst hw8; clear hw7) | (refine (unhide HQ1).mono ?_; rintro e w3 ⟨rfl, h3⟩; have HQ := hide h3; clear h3))
            | (go_at_call 26; refine (unhide HDR2 (unhide HP6)).mono ?_; rintro e w8 ⟨rfl, h8⟩; have HK8 := hide h8; clear h8)
            | (go_at_call 23; refine (unhide HLV (unhide HK8)).mono ?_; rintro e w9 ⟨la, lk, rfl, h9⟩; have HK9 := hide h9; clear h9))
          go_ret
          exact ⟨rfl, unhide HBK2 (unhide HK9)⟩
end Rs
end Go.Proofs.YtdcffkahijpcbabDoor
