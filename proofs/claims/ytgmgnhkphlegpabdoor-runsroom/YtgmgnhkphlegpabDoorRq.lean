/- Layer 5: RunsRoom. -/
import Derived.Test.YtgmgnhkphlegpabDoorRk
import Derived.Test.YtgmgnhkphlegpabDoorRs5
import Derived.Deep.CutRange
import Derived.Deep.RegionHeld3
import Derived.Stop.LaidErr
namespace Go.Proofs.YtgmgnhkphlegpabDoor
open Go.RowKit
namespace Rs
def rmT (T p k : Nat) : Sto := ⟨T, [], k, p, 0⟩
def rmC (T p k : Nat) : Sto := ⟨T, [⟨k + 1, [], false⟩], k + 1, p, 0⟩
def rmA (T k : Nat) (s : ByteArray) : Sto := ⟨T, [⟨k + 1, s.data.toList, false⟩], k + 1, T, 0⟩
def rmS (T k : Nat) (s : ByteArray) : Sto := ⟨T, [⟨k + 1, s.data.toList, true⟩], k + 1, T, 0⟩
theorem rm1 (T p k : Nat) (h : k < 20) : crt (rmT T p k) = ((((k + 1 : Nat) : Int), 0), rmC T p k) := by
  unfold crt
  rw [if_neg (by simp [rmT]), if_neg (by simp only [rmT]; omega)]
  rfl
theorem look1 (n : Nat) (t : List UInt8) (b : Bool) : look [⟨n, t, b⟩] (n : Int) = some ⟨n, t, b⟩ := by simp [look]
theorem rm2 (T p k : Nat) (s : ByteArray) (h : s.size = T) (hp : p ≤ T) : app (rmC T p k) ((k + 1 : Nat) : Int) [s] = (0, rmA T k s) := by
  unfold app
  rw [if_neg (by simp [rmC])]
  simp only [rmC, look1]
  have e : tot [⟨k + 1, [], false⟩] + sz [s] = T := by simp [tot, sz, h]
  simp only [e, Nat.le_refl, if_true]
  simp only [Sto.tick, Sto.app, rmA, repl, bytes, e]
  simp
  omega
theorem rm3 (T k : Nat) (s : ByteArray) (h : s.size = T) : app (rmA T k s) ((k + 1 : Nat) : Int) [⟨#[120]⟩] = (7, rmA T k s) := by
  unfold app
  rw [if_neg (by simp [rmA])]
  simp only [rmA, look1]
  have e1 : sz [⟨#[120]⟩] = 1 := rfl
  have e2 : tot [⟨k + 1, s.data.toList, false⟩] = T := by simp [tot, h]
  have c : ¬ (tot [⟨k + 1, s.data.toList, false⟩] + sz [⟨#[120]⟩] ≤ T) := by rw [e1, e2]; omega
  simp only [c, if_false]
  simp [Sto.tick]
theorem rm4 (T k : Nat) (s : ByteArray) : sel (rmA T k s) ((k + 1 : Nat) : Int) = (0, rmS T k s) := by
  unfold sel
  rw [if_neg (by simp [rmA])]
  simp only [rmA, look1]
  simp [Sto.tick, repl, rmS]
theorem rm5 (T k : Nat) (s : ByteArray) : rem (rmS T k s) ((k + 1 : Nat) : Int) = (0, rmT T T (k + 1)) := by
  unfold rem
  simp only [rmS, look1]
  simp [drop, rmT]
theorem sit_seal {w w1 W : World} {E : Nat → Addr} {sb : Nat} {m : Sto} {k : Int} (h : Sit w E sb m w1) (hk1 : -9223372036854775808 ≤ k) (hk2 : k ≤ 9223372036854775807) (hb : Below w1.heap.size w1 W) :
    Calls Tryd.prog 9 #[.pointer (some ⟨sb, 0, none⟩), .int .i64 k] W fun e w' => e = .returned (errV E (sel m k).1) ∧ Sit w E sb (sel m k).2 w' := by
  obtain ⟨F, h1, h2, h3, h4⟩ := h.below hb
  refine (seal_any h1 h2 hk1 hk2).mono ?_
  rintro e w' ⟨rfl, h5⟩
  exact ⟨rfl, Sit.res h2 h3 h4 h5⟩
theorem sit_remove {w w1 W : World} {E : Nat → Addr} {sb : Nat} {m : Sto} {k : Int} (h : Sit w E sb m w1) (hk1 : -9223372036854775808 ≤ k) (hk2 : k ≤ 9223372036854775807) (hb : Below w1.heap.size w1 W) :
    Calls Tryd.prog 10 #[.pointer (some ⟨sb, 0, none⟩), .int .i64 k] W fun e w' => e = .returned (errV E (rem m k).1) ∧ Sit w E sb (rem m k).2 w' := by
  obtain ⟨F, h1, h2, h3, h4⟩ := h.below hb
  refine (remove_any h1 h2 hk1 hk2).mono ?_
  rintro e w' ⟨rfl, h5⟩
  exact ⟨rfl, Sit.res h2 h3 h4 h5⟩
theorem sit_peak {w w1 W : World} {E : Nat → Addr} {sb : Nat} {m : Sto} (h : Sit w E sb m w1) (hb : Below w1.heap.size w1 W) : Calls Tryd.prog 12 #[.pointer (some ⟨sb, 0, none⟩)] W fun e w' => e = .returned (.int .i64 m.peak) ∧ w' = W := by
  obtain ⟨F, h1, _⟩ := h.below hb
  exact peak_any h1
theorem ne_err (W : World) (a : Addr) : (binOp .neq 26 (.iface 74 (.pointer (some a))) (.iface 74 (.pointer (some a)))).run Tryd.prog W = .ok (.bool false) W := by
  obtain ⟨i, hi, hc⟩ := Option.map_eq_some_iff.1 (show (Tryd.prog.info? 74).map (·.comparable) = some true by kernel_rfl)
  obtain ⟨j, hj, _⟩ := Option.map_eq_some_iff.1 (show (Tryd.prog.info? 91).map (·.size) = some 1 by kernel_rfl)
  simp only [binOp]
  simp [Op.equal, Op.maxDepth, run_equalIn_iface_ptr_same W 9998 a Tryd.underlying26 Tryd.underlying74 hi hc hj]
set_option maxRecDepth 100000 in
set_option maxHeartbeats 1000000 in
theorem room_law (s : ByteArray) (n : Int) (w : World) {E : Nat → Addr} {F : Nat → Prop} (G : Gs w E F) (hs : s.size ≤ maxLen) :
    Calls Tryd.prog 3 #[.string s, .int .i64 n] w fun e w' => e = .returned (.bool true) ∧ Below w.heap.size w w' := by
  unfold maxLen at hs
  obtain ⟨T, hT⟩ : ∃ T, T = s.size := ⟨_, rfl⟩
  have HT := hide hT
  by_cases hbig : (s.size : Int) > 67108864
  · clear hT
    go_enter Tryd.func3, Tryd.ntmps3
    go_wp2
    go_ret
    exact ⟨rfl, Below.refl _ _⟩
  have hN := sit_new G (s.size : Int) (by omega) (by omega)
  have e0 : newS (s.size : Int) = rmT T 0 0 := by
    simp only [newS, rmT]
    congr 1
    omega
  rw [e0] at hN
  have HN := hide hN
  have HTL : Hid (T ≤ 67108864) := hide (by omega)
  clear hN e0 G hT
  go_enter Tryd.func3, Tryd.ntmps3
  go_wp2_with fail
  refine (unhide HN).mono ?_
  rintro e w1 ⟨rfl, h1⟩
  have HW : Hid (Calls Tryd.prog 6 #[] w1 fun e w' => e = .returned (.bool true) ∧ Below w1.heap.size w1 w') := by
    obtain ⟨F1, _, g1, _⟩ := h1
    exact wakes_any w1 g1
  have H1 := hide h1
  clear h1
  go_wp2_with (go_at_call 6; refine (unhide HW).mono ?_; rintro e w2 ⟨rfl, hb2⟩; have H2 := hide ((unhide H1).below hb2); clear hb2)
  go_loopw [6] (fun i wr => ∃ k p : Nat, i = .int .i64 k ∧ k ≤ 20 ∧ p ≤ T ∧ Hid (Sit w E w.heap.size (rmT T p k) wr)) (fun i _ => 20 - (intOf i).toNat)
  case atStart => exact ⟨0, 0, rfl, by omega, Nat.zero_le _, H2⟩
  case round =>
    obtain ⟨k, p, rfl, hk, hp, HS⟩ := hrel
    by_cases hlt : (k : Int) < n
    · by_cases hl2 : k < 20
      · have hl3 : (k : Int) < 20 := by omega
        have hC := sit_create (unhide HS)
        rw [rm1 T p k hl2] at hC
        have HC := hide hC
        have HPP := hide hp
        clear hC hp
        have hkz : 0 ≤ (k : Int) := by omega
        go_wp2_with fail
        refine (unhide HC).mono ?_
        rintro e w3 ⟨rfl, h3⟩
        simp only [errV_zero]
        have ek : ((k + 1 : Nat) : Int) = (k : Int) + 1 := by omega
        rw [ek]
        have hwr := IntWalk.i64_in ((k : Int) + 1) (by omega)
        have hK1 : ∀ x : Int, (x == x) = true := fun x => by simp
        have hK2 : ∀ x : Int, (x != x) = false := fun x => by simp
        have hK3 : ∀ x : Int, decide (x = x) = true := fun x => by simp
        have HA : Hid (∀ W, Below w3.heap.size w3 W → W.heap[w3.heap.size]? = some (.cells #[.string s] 9 (0, 0)) → Calls Tryd.prog 8 #[.pointer (some ⟨w.heap.size, 0, none⟩), .int .i64 ((k : Int) + 1), .slice (some ⟨w3.heap.size, 0, none⟩) 1 1] W fun e w' => e = .returned .nilIface ∧ Hid (Sit w E w.heap.size (rmA T k s) w')) := fun W hb hh => by
          have q := sit_append (k := (k : Int) + 1) (L := [s]) h3 (by omega) (by omega) hb (strs_new hh (by simp)) (fun g off n c e => by injection e with e; injection e with e; injection e with e _ _; exact .inl (by omega))
          rw [← ek, rm2 T p k s (unhide HT).symm (unhide HPP), ek] at q
          exact q
        have HEK := hide ek
        have hg3 := h3.full.1
        have hg3b := h3.full.2
        clear h3 ek
        have tok1 : True := trivial
        have tok2 : True := trivial
        have heq := ne_err
        go_upto_region 10 with fail
        go_cut [58] from 21 to 80 (fun c wx => c = .bool false ∧ Hid (Sit w E w.heap.size (rmA T k s) wx))
        case first =>
         go_region_held3 (fun w' => w'.cell? ⟨0, 0, none⟩ = some (er E 7)) (first | exact hg5 | exact hg4 | exact cell?_alloc_old _ hg4 | exact hg3 | exact cell?_alloc_old _ hg3) (first
          | (go_at_call 8; have _t := tok1; refine (unhide HA _ (by (repeat (first | exact Below.refl _ _ | refine Below.drew ?_ | refine Below.alloc ?_ (by first | (simp; done) | (simp; omega)) _ | refine Below.setCell ?_ (by first | (simp; done) | (simp; omega)) _))) (by exact (MapKept.heap_alloc _ _).1)).mono ?_; rintro e w4 ⟨rfl, h4⟩; clear tok1; have hg4 := (unhide h4).full.1; have hg4b := (unhide h4).full.2; have HX : Hid (∀ W, Below w4.heap.size w4 W → W.heap[w4.heap.size]? = some (.cells #[.string ⟨#[120]⟩] 9 (0, 0)) → Calls Tryd.prog 8 #[.pointer (some ⟨w.heap.size, 0, none⟩), .int .i64 ((k : Int) + 1), .slice (some ⟨w4.heap.size, 0, none⟩) 1 1] W fun e w' => e = .returned (er E 7) ∧ Hid (Sit w E w.heap.size (rmA T k s) w')) := (fun W hb hh => by
              have q := sit_append (k := (k : Int) + 1) (L := [⟨#[120]⟩]) (unhide h4) (by omega) (by omega) hb (strs_new hh (by decide)) (fun g off n c e => by injection e with e; injection e with e; injection e with e _ _; exact .inl (by omega))
              rw [← unhide HEK, rm3 T k s (unhide HT).symm, unhide HEK] at q
              exact q))
          | (go_at_call 8; have _t := tok2; refine (unhide HX _ (by (repeat (first | exact Below.refl _ _ | refine Below.drew ?_ | refine Below.alloc ?_ (by first | (simp; done) | (simp; omega)) _ | refine Below.setCell ?_ (by first | (simp; done) | (simp; omega)) _))) (by exact (MapKept.heap_alloc _ _).1)).mono ?_; rintro e w5 ⟨rfl, h5⟩; clear tok2; have hg5 := (unhide h5).full.1))
         all_goals
          go_wp2_with fail
          go_meet
          exact ⟨rfl, h5⟩
        case rest =>
          obtain ⟨rfl, HD⟩ := hcut
          have HSL : Hid (Calls Tryd.prog 9 #[.pointer (some ⟨w.heap.size, 0, none⟩), .int .i64 ((k : Int) + 1)] wc fun e w' => e = .returned .nilIface ∧ Hid (Sit w E w.heap.size (rmS T k s) w')) := by
            have q := sit_seal (k := (k : Int) + 1) (unhide HD) (by omega) (by omega) (Below.refl _ _)
            rw [← unhide HEK, rm4 T k s, unhide HEK] at q
            exact q
          have HRV : Hid (∀ w', Sit w E w.heap.size (rmS T k s) w' → Calls Tryd.prog 10 #[.pointer (some ⟨w.heap.size, 0, none⟩), .int .i64 ((k : Int) + 1)] w' fun e w2 => e = .returned .nilIface ∧ Hid (Sit w E w.heap.size (rmT T T (k + 1)) w2)) := fun w' hh => by
            have q := sit_remove (k := (k : Int) + 1) hh (by omega) (by omega) (Below.refl _ _)
            rw [← unhide HEK, rm5 T k s, unhide HEK] at q
            exact q
          have hTs : (T : Int) = (s.size : Int) := by rw [unhide HT]
          clear heq hK1 hK2 hK3 HA tok1 tok2 hg3 hg3b
          go_wp2_with (first | (go_at_call 9; refine (unhide HSL).mono ?_; rintro e w6 ⟨rfl, h6⟩; have HR2 := hide (unhide HRV w6 (unhide h6))) | (go_at_call 10; refine (unhide HR2).mono ?_; rintro e w7 ⟨rfl, h7⟩; have HU := hide (sit_used (unhide h7) (Below.refl _ _)); have HP := hide (sit_peak (unhide h7) (Below.refl _ _)); simp only [rmT, tot] at HU HP) | (go_at_call 11; refine (unhide HU).mono ?_; rintro e w8 ⟨rfl, rfl⟩) | (go_at_call 12; refine (unhide HP).mono ?_; rintro e w9 ⟨rfl, rfl⟩))
          exact ⟨⟨k + 1, T, by go_num, by omega, Nat.le_refl _, h7⟩, by simp [intOf]; omega⟩
      · have hl3 : ¬ (k : Int) < 20 := by omega
        go_wp2
        go_ret
        exact ⟨rfl, (unhide HS).old⟩
    · go_wp2
      go_ret
      exact ⟨rfl, (unhide HS).old⟩
end Rs
end Go.Proofs.YtgmgnhkphlegpabDoor
