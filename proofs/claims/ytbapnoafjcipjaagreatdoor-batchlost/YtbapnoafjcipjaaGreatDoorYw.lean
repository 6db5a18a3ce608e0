/- Layer 9: BatchLost. -/
import Derived.Test.YtbapnoafjcipjaaGreatDoorGk
import Derived.Test.YtbapnoafjcipjaaGreatDoorYv
import Derived.Test.YtbapnoafjcipjaaGreatDoorYs
import Derived.Test.YtbapnoafjcipjaaGreatDoorFp
namespace Go.Proofs.YtbapnoafjcipjaaGreatDoor
open Go.RowKit
namespace Rs
open Sm (Tx ofS)
theorem neq_same9 (W : World) (a : Addr) : (binOp .neq 44 (.iface 168 (.pointer (some a))) (.iface 168 (.pointer (some a)))).run Tryz.prog W = .ok (.bool false) W := by
  obtain ⟨i, hi, hc⟩ := Option.map_eq_some_iff.1 (show (Tryz.prog.info? 168).map (·.comparable) = some true by kernel_rfl)
  obtain ⟨j, hj, _⟩ := Option.map_eq_some_iff.1 (show (Tryz.prog.info? 184).map (·.size) = some 1 by kernel_rfl)
  simp only [binOp]
  simp [Op.equal, Op.maxDepth, run_equalIn_iface_ptr_same W 9998 a Tryz.underlying44 Tryz.underlying168 hi hc hj]
theorem EnvZ.over {w : World} {E : Nat → Addr} {B C : Nat} (h : EnvZ w E B) (hC : B ≤ C) : EnvZ w E C := ⟨h.toEnvR.over hC, h.sa, h.apz, fun i hi => Nat.lt_of_lt_of_le (h.ltz i hi) hC⟩
theorem own_new9 {B : Nat} {W : World} {v : Value} {L : List Tx} (h : Um.OwnT B W v L) : ∀ a n c, v = .slice (some a) n c → B ≤ a.block := fun a n c e => by
  rcases h.2 with ⟨e1, _⟩ | ⟨g, cap, cur, e1, hb, _⟩
  · rw [e1] at e; cases e
  · rw [e1] at e
    injection e with e _ _
    injection e with e
    rw [← e]
    exact hb
theorem cd_any {c : Nat} (h : Cd c) : c = 0 ∨ c = 1 ∨ c = 2 ∨ c = 3 ∨ c = 5 ∨ c = 7 ∨ c = 8 ∨ c = 9 ∨ c = 10 ∨ c = 12 ∨ c = 13 := by unfold Cd at h; omega
set_option maxRecDepth 100000 in
set_option maxHeartbeats 8000000 in
theorem lost_law {w : World} {v : Value} {X : List Tx} {E : Nat → Addr} (V : EnvZ w E w.heap.size) (hT : Um.Txs w v X) (hn : X.length ≤ 9223372036854775807) (bl nn cp : Int) (hb1 : -9223372036854775808 ≤ bl) (hb2 : bl ≤ 9223372036854775807) (hn2 : nn ≤ 9223372036854775807) (hc1 : -9223372036854775808 ≤ cp) (hc2 : cp ≤ 9223372036854775807) :
    Calls Tryz.prog 4 #[.agg #[v, .int .i64 bl, .int .i64 nn, .int .i64 cp]] w fun e w' => e = .returned (.bool true) ∧ Below w.heap.size w w' := by
  have HV := hide V
  have HWK : Hid (∀ W, Below w.heap.size w W → Calls Tryz.prog 7 #[] W fun e w' => e = .returned (.bool true) ∧ Below W.heap.size W w') := fun W hW => wakes_any ((V.toEnvR.below hW).over hW.size)
  have HFI : Hid (∀ W, Below w.heap.size w W → Calls Tryz.prog 10 #[v] W fun e w' => ∃ u D z, e = .returned (.tuple #[u, .int .i64 (z : Nat)]) ∧ z ≤ 1048832 ∧ Fit D z ∧ Um.OwnT W.heap.size w' u D ∧ Below W.heap.size W w') := fun W hW => fit_any (by
    obtain ⟨ao, cap, e, h1, h2, h3⟩ := hT
    refine ⟨ao, cap, e, h1, h2, fun h0 => ?_⟩
    obtain ⟨g, off, e1, hg, hc⟩ := h3 h0
    exact ⟨g, off, e1, Nat.lt_of_lt_of_le hg hW.size, fun j x hx => (hW.cell (p := ⟨g, off + j, none⟩) hg).trans (hc j x hx)⟩) hn
  obtain ⟨ao, cap, rfl, hcap, hnn, hat⟩ := hT
  obtain ⟨q, hq⟩ : ∃ q : Nat, max 0 bl = (q : Int) := ⟨(max 0 bl).toNat, by omega⟩
  have hqb : q ≤ 9223372036854775807 := by omega
  have hr : (q : Int).tmod 20 = ((q % 20 : Nat) : Int) := by rw [Int.tmod_eq_emod_of_nonneg (by omega)]; omega
  obtain ⟨b, hbb⟩ : ∃ b : Nat, 1 + (q : Int) % 20 = (b : Int) := ⟨1 + q % 20, by omega⟩
  have hb3 : 1 ≤ b := by omega
  have hb4 : b ≤ 50 := by omega
  obtain ⟨xb, hxb⟩ : ∃ xb, w.heap.size = xb := ⟨_, rfl⟩
  clear hat hnn V
  go_enter Tryz.func4, Tryz.ntmps4
  go_wp2_with fail
  have hB0 : Below w.heap.size w (w.alloc (.cells #[.slice ao X.length cap, .int .i64 bl, .int .i64 nn, .int .i64 cp] 39)) := (Below.refl _ w).alloc (Nat.le_refl _) _
  have hx0 : ∀ k u, (#[.slice ao X.length cap, .int .i64 bl, .int .i64 nn, .int .i64 cp] : Array Value)[k]? = some u → (w.alloc (.cells #[.slice ao X.length cap, .int .i64 bl, .int .i64 nn, .int .i64 cp] 39)).cell? ⟨xb, k, none⟩ = some u := fun k u hu => by
    rw [← hxb, World.cell?_alloc_at _ _ _ _ rfl]
    exact hu
  have hxl : xb < (w.alloc (.cells #[.slice ao X.length cap, .int .i64 bl, .int .i64 nn, .int .i64 cp] 39)).heap.size := by rw [← hxb]; simp
  refine (unhide HWK _ hB0).mono ?_
  generalize w.alloc _ = w0 at *
  rintro e w1 ⟨rfl, h1⟩
  have HB1 : Hid (Below w.heap.size w w1) := hB0.trans (h1.mono hB0.size)
  have HX : Hid (∀ W, Below w1.heap.size w1 W → W.cell? ⟨xb, 0, none⟩ = some (.slice ao X.length cap) ∧ W.cell? ⟨xb, 1, none⟩ = some (.int .i64 bl) ∧ W.cell? ⟨xb, 2, none⟩ = some (.int .i64 nn) ∧ W.cell? ⟨xb, 3, none⟩ = some (.int .i64 cp)) := fun W hW => by
    have hk : ∀ k, W.cell? ⟨xb, k, none⟩ = w0.cell? ⟨xb, k, none⟩ := fun k => (hW.cell (p := ⟨xb, k, none⟩) (Nat.lt_of_lt_of_le hxl h1.size)).trans (h1.cell (p := ⟨xb, k, none⟩) hxl)
    exact ⟨(hk 0).trans (hx0 0 _ rfl), (hk 1).trans (hx0 1 _ rfl), (hk 2).trans (hx0 2 _ rfl), (hk 3).trans (hx0 3 _ rfl)⟩
  obtain ⟨sb, hsb⟩ : ∃ sb, w1.heap.size = sb := ⟨_, rfl⟩
  have HN1 : Hid (Calls Tryz.prog 5 #[.int .i64 cp] w1.drew fun e w2 => e = .returned (.pointer (some ⟨sb, 0, none⟩)) ∧ Hid (Sep w1 [stoT sb (newS cp)] (fun _ => w2.heap.size) w2 ∧ w2.heap.size = sb + 1) ∧ w2.cell? ⟨xb, 3, none⟩ = some (.int .i64 cp)) := by
    have hd : Below w1.heap.size w1 w1.drew := ⟨rfl, rfl, rfl, Nat.le_refl _, fun _ _ => rfl⟩
    refine (new_any cp w1.drew hc1 hc2).mono ?_
    rintro e w2 ⟨rfl, q1, q2, q3⟩
    have hb2 : Below w1.heap.size w1 w2 := hd.trans (q2.mono (Nat.le_refl _))
    have hs := ((Sep.nil w1 fun _ => 0).below hd).add (T := stoT w1.drew.heap.size (newS cp)) q1 (fun b hb => by rw [hb]; exact Nat.le_refl _) q2
    refine ⟨by rw [← hsb]; rfl, ⟨?_, by rw [← hsb]; exact q3⟩, (unhide HX _ hb2).2.2.2⟩
    rw [← hsb]
    exact hs
  have HN2 : Hid (∀ W, Sep w1 [stoT sb (newS cp)] (fun _ => W.heap.size) W ∧ W.heap.size = sb + 1 → Calls Tryz.prog 6 #[.int .i64 cp] W fun e w3 => e = .returned (.pointer (some ⟨sb + 1, 0, none⟩)) ∧ Hid (Sep w1 [stoT sb (newS cp), ddT (sb + 1) (newS cp)] (fun _ => w3.heap.size) w3)) := fun W ⟨h, hs⟩ => by
    refine (sep_dnew h cp hc1 hc2).mono ?_
    rintro e w3 ⟨rfl, q1, q2⟩
    rw [hs] at q1 ⊢
    exact ⟨rfl, q1⟩
  have hx1 := (unhide HX w1 (Below.refl _ _)).2.2.2
  have hxl1 : xb < w1.heap.size := Nat.lt_of_lt_of_le hxl h1.size
  clear hB0 hx0 hxl h1 HWK
  go_wp2
  apply wp_ones (S := fun W => Sep w1 [stoT sb (newS cp), ddT (sb + 1) (newS cp)] (fun _ => W.heap.size) W)
  · go_region_with (first
      | (go_at_call 5; refine (unhide HN1).mono ?_; rintro e w2 ⟨rfl, H2, k2⟩)
      | (go_at_call 6; refine (unhide HN2 _ (unhide H2)).mono ?_; rintro e w3 ⟨rfl, H3⟩))
    all_goals exact ones_intro (unhide H3)
  · intro w3 h3
    have HS3 := hide h3
    obtain ⟨k0, k1, k2, k3⟩ := unhide HX _ h3.old
    clear h3 HN1 HN2 hx1
    have HZ1 : Hid (EnvZ w1 E w1.heap.size) := ((unhide HV).below (unhide HB1)).over (unhide HB1).size
    obtain ⟨m0, hm0⟩ : ∃ m0, newS cp = m0 := ⟨_, rfl⟩
    obtain ⟨tb, htb⟩ : ∃ tb, sb + 1 = tb := ⟨_, rfl⟩
    rw [hm0, htb] at HS3
    rw [htb]
    have HFT : Hid (∀ W, Sep w1 [stoT sb m0, ddT tb m0] (fun _ => W.heap.size) W → Calls Tryz.prog 10 #[.slice ao X.length cap] W fun e w' => ∃ u D z, e = .returned (.tuple #[u, .int .i64 (z : Nat)]) ∧ z ≤ 1048832 ∧ Hid (Fit D z) ∧ Sep w1 [stoT sb m0, ddT tb m0, rowT u D] (fun _ => w'.heap.size) w') := fun W h => by
      refine (unhide HFI W ((unhide HB1).trans (h.old.mono (unhide HB1).size))).mono ?_
      rintro e w' ⟨u, D, z, rfl, hz, hF, hO, hb⟩
      exact ⟨u, D, z, rfl, hz, hF, sep_row h hO hb⟩
    clear HFI HV
    go_wp2_with (go_at_call 10; refine (unhide HFT _ (unhide HS3)).mono ?_; clear HFT; rintro e w4 ⟨u, D, z, rfl, hz, HF, h4⟩; have HS4 := hide h4; obtain ⟨k0, k1, k2, k3⟩ := unhide HX _ h4.old; clear h4)
    have hDl : D.length ≤ 524416 := by have := fz_len D; rw [(unhide HF).sum] at this; omega
    have hok0 : m0.Ok := by rw [← hm0]; exact newS_ok cp
    have hr0 : m0.runs = [] := by rw [← hm0]; rfl
    have hd0 : m0.made = 0 := by rw [← hm0]; rfl
    obtain ⟨m1, hm1⟩ : ∃ m1, m0.brk nn = m1 := ⟨_, rfl⟩
    have hr1 : m1.runs = [] := by rw [← hm1]; exact hr0
    have hd1 : m1.made = 0 := by rw [← hm1]; exact hd0
    have hfo : (For.mk b [] [] 0).Ok m1 := ⟨hb3, by show b ≤ 65536; omega, (fun x hx => by cases hx), Nat.zero_le _, (fun x hx => by cases hx), rfl⟩
    have hiv : Iv m1 ⟨b, [], [], 0⟩ := ⟨by unfold ns; rw [hr1]; rfl, fun x hx => by cases hx⟩
    obtain ⟨c1, mA, fA, hA⟩ : ∃ c1 mA fA, adds m1 ⟨b, [], [], 0⟩ D = (c1, mA, fA) := ⟨_, _, _, rfl⟩
    have HFN : Hid (∀ W, Sep w1 [stoT sb m0, ddT tb m0, rowT u D] (fun _ => W.heap.size) W → Calls Tryz.prog 11 #[.pointer (some ⟨sb, 0, none⟩), .int .i64 b] W fun e w' => ∃ fb, e = .returned (.tuple #[.pointer (some ⟨fb, 0, none⟩), .nilIface]) ∧ Sep w1 [sfT E sb fb m0 ⟨b, [], [], 0⟩, ddT tb m0, rowT u D] (fun _ => w'.heap.size) w') := fun W h => sep_fnew (E := E) h (i := 0) rfl b hb3 (by omega)
    have HGN : Hid (∀ W fb, Sep w1 [sfT E sb fb m0 ⟨b, [], [], 0⟩, ddT tb m0, rowT u D] (fun _ => W.heap.size) W → Calls Tryz.prog 12 #[.int .i64 b] W fun e w' => ∃ gb, e = .returned (.tuple #[.pointer (some ⟨gb, 0, none⟩), .int .i64 0]) ∧ Sep w1 [sfT E sb fb m0 ⟨b, [], [], 0⟩, dgT tb gb 0 m0 ⟨b, [], [], 0⟩, rowT u D] (fun _ => w'.heap.size) w') := fun W fb h => sep_gnew h (i := 1) rfl b hb3 (by omega)
    have HBR : Hid (∀ W fb gb, Sep w1 [sfT E sb fb m0 ⟨b, [], [], 0⟩, dgT tb gb 0 m0 ⟨b, [], [], 0⟩, rowT u D] (fun _ => W.heap.size) W → Calls Tryz.prog 13 #[.pointer (some ⟨sb, 0, none⟩), .int .i64 nn] W fun e w' => e = .returned (.tuple #[]) ∧ Sep w1 [sfT E sb fb m1 ⟨b, [], [], 0⟩, dgT tb gb 0 m0 ⟨b, [], [], 0⟩, rowT u D] (fun _ => w'.heap.size) w') := fun W fb gb h => by
      have q := sep_brk h (i := 0) rfl nn hn2
      rw [hm1] at q
      exact q
    have HDB : Hid (∀ W fb gb, Sep w1 [sfT E sb fb m1 ⟨b, [], [], 0⟩, dgT tb gb 0 m0 ⟨b, [], [], 0⟩, rowT u D] (fun _ => W.heap.size) W → Calls Tryz.prog 14 #[.pointer (some ⟨tb, 0, none⟩), .int .i64 nn] W fun e w' => e = .returned (.tuple #[]) ∧ Sep w1 [sfT E sb fb m1 ⟨b, [], [], 0⟩, dgT tb gb 0 m1 ⟨b, [], [], 0⟩, rowT u D] (fun _ => w'.heap.size) w') := fun W fb gb h => by
      have q := sep_dbrk h (i := 1) rfl nn hn2
      rw [hm1] at q
      exact q
    have HTW : Hid (∀ W fb gb, Sep w1 [sfT E sb fb m1 ⟨b, [], [], 0⟩, dgT tb gb 0 m1 ⟨b, [], [], 0⟩, rowT u D] (fun _ => W.heap.size) W → Calls Tryz.prog 16 #[u] W fun e w' => ∃ t, e = .returned t ∧ Hid (Calls Tryz.prog 15 #[.pointer (some ⟨fb, 0, none⟩), t] w' fun e w' => e = .returned (errV E c1) ∧ Sep w1 [sfT E sb fb mA fA, dgT tb gb 0 m1 ⟨b, [], [], 0⟩, rowT u D] (fun _ => w'.heap.size) w')) := fun W fb gb h => by
      refine (Um.twin_any u D W (sep_txs h (i := 2) rfl) (by omega)).mono ?_
      rintro e w' ⟨t, rfl, ho, hb⟩
      refine ⟨t, rfl, ?_⟩
      have q := sep_add (unhide HZ1).toEnv (h.below hb) (i := 0) rfl hfo (by show 0 < b; omega) ho.txs (fun a n c e => .inr (own_new9 ho a n c e)) (by omega) (no_long (unhide HF).short)
      rw [hA] at q
      exact q
    have HDA : Hid (∀ W fb gb, Sep w1 [sfT E sb fb mA fA, dgT tb gb 0 m1 ⟨b, [], [], 0⟩, rowT u D] (fun _ => W.heap.size) W → Calls Tryz.prog 17 #[.pointer (some ⟨tb, 0, none⟩), .pointer (some ⟨gb, 0, none⟩), u] W fun e w' => e = .returned (.int .i64 c1) ∧ Sep w1 [sfT E sb fb mA fA, dgT tb gb c1 mA fA, rowT u D] (fun _ => w'.heap.size) w') := fun W fb gb h => by
      have q := sep_dadd2 h (i := 1) rfl (j := 2) rfl (by decide) hfo (by show 0 < b; omega) (by omega) (unhide HF).short
      rw [hA] at q
      exact q
    have HCD : Hid (∀ W c, Cd c → Below w1.heap.size w1 W → Calls Tryz.prog 18 #[errV E c] W fun e w' => e = .returned (.int .i64 c) ∧ w' = W) := fun W c hc hW => code9 ((unhide HZ1).below hW) (cd_any hc)
    have hcd1 : Cd c1 := by have := Iv.cdA D m1 _ hiv; rw [hA] at this; exact this
    have HIV := hide hiv
    have HAA := hide hA
    have HCC := hide hcd1
    have hm1' := hm1
    clear hA hm1 hfo hcd1 hiv HS3
    go_wp2_with (first
      | (go_at_call 11; refine (unhide HFN _ (unhide HS4)).mono ?_; clear HFN; rintro e w5 ⟨fb, rfl, h5⟩; have HS5 := hide h5; obtain ⟨k0, k1, k2, k3⟩ := unhide HX _ h5.old; clear h5)
      | (go_at_call 12; refine (unhide HGN _ fb (unhide HS5)).mono ?_; clear HGN; rintro e w6 ⟨gb, rfl, h6⟩; have HS6 := hide h6; obtain ⟨k0, k1, k2, k3⟩ := unhide HX _ h6.old; clear h6)
      | (go_at_call 13; refine (unhide HBR _ fb gb (unhide HS6)).mono ?_; clear HBR; rintro e w7 ⟨rfl, h7⟩; have HS7 := hide h7; obtain ⟨k0, k1, k2, k3⟩ := unhide HX _ h7.old; clear h7)
      | (go_at_call 14; refine (unhide HDB _ fb gb (unhide HS7)).mono ?_; clear HDB; rintro e w8 ⟨rfl, h8⟩; have HS8 := hide h8; clear h8)
      | (go_at_call 16; refine (unhide HTW _ fb gb (unhide HS8)).mono ?_; clear HTW; rintro e w9 ⟨t, rfl, HAD⟩)
      | (go_at_call 15; refine (unhide HAD).mono ?_; clear HAD; rintro e w10 ⟨rfl, h10⟩; have HS10 := hide h10; clear h10)
      | (go_at_call 17; refine (unhide HDA _ fb gb (unhide HS10)).mono ?_; clear HDA; rintro e w11 ⟨rfl, h11⟩; have HS11 := hide h11; have HCX := hide (unhide HCD _ c1 (unhide HCC) h11.old); obtain ⟨k0, k1, k2, k3⟩ := unhide HX _ h11.old; clear h11)
      | (go_at_call 18; refine (unhide HCX).mono ?_; clear HCX; rintro e w12 ⟨rfl, rfl⟩))
    clear HS4 HS5 HS6 HS7 HS8 HS10
    have HOLD : Hid (∀ (L : List Thing) Dn W, Sep w1 L Dn W → Below w.heap.size w W) := fun L Dn W h => (unhide HB1).trans (h.old.mono (unhide HB1).size)
    have HSM : ∀ (W : World) (a : Addr), (binOp .eql 44 (.iface 168 (.pointer (some a))) (.iface 168 (.pointer (some a)))).run Tryz.prog W = .ok (.bool true) W := fun W a => eq_same (w := W) a
    have HSN : ∀ (W : World) (a : Addr), (binOp .neq 44 (.iface 168 (.pointer (some a))) (.iface 168 (.pointer (some a)))).run Tryz.prog W = .ok (.bool false) W := fun W a => neq_same9 W a
    have hok1 : mA.cap = m0.cap := by have := cap_adds D m1 ⟨b, [], [], 0⟩; rw [unhide HAA] at this; rw [this, ← hm1']; rfl
    have hmd1 : mA.made ≤ 524416 := by have := (Iv.adds D m1 _ (unhide HIV)).2.2; rw [unhide HAA] at this; simp only [hd1] at this; omega
    have hcp0 : 2 ≤ cp → 2 ≤ m0.cap := fun h => by rw [← hm0]; show 2 ≤ (min (max cp 0) 67108864).toNat; omega
    by_cases hc : c1 = 0
    · subst hc
      obtain ⟨c2, mF, fF, hFi⟩ : ∃ c2 mF fF, fins mA fA = (c2, mF, fF) := ⟨_, _, _, rfl⟩
      have hivA : Iv mA fA := by have := (Iv.adds D m1 _ (unhide HIV)).1; rw [unhide HAA] at this; exact this rfl
      obtain ⟨okA, hfA, _⟩ : fA.Ok mA ∧ fA.buf.length < fA.size ∧ fA.size = b := by have := adds_ok D m1 ⟨b, [], [], 0⟩ ⟨hb3, by show b ≤ 65536; omega, (fun x hx => by cases hx), Nat.zero_le _, (fun x hx => by cases hx), rfl⟩ (by show 0 < b; omega) (unhide HF).short; rw [unhide HAA] at this; exact this rfl
      have hcd2 : Cd c2 := by have := hivA.cdF; rw [hFi] at this; exact this
      have HDF : Hid (∀ W T0, Sep w1 [T0, dgT tb gb 0 mA fA, rowT u D] (fun _ => W.heap.size) W → Calls Tryz.prog 20 #[.pointer (some ⟨tb, 0, none⟩), .pointer (some ⟨gb, 0, none⟩)] W fun e w' => ∃ l, e = .returned (.tuple #[l, .int .i64 c2]) ∧ Hid (Calls Tryz.prog 18 #[errV E c2] w' fun e w2 => e = .returned (.int .i64 c2) ∧ w2 = w') ∧ Hid (Sep w1 [T0, anyT, rowT u D] (fun _ => w'.heap.size) w')) := fun W T0 h => by
        have q := sep_dfin h (i := 1) rfl okA hfA
        rw [hFi] at q
        refine q.mono ?_
        rintro e w' ⟨l, rfl, hs⟩
        exact ⟨l, rfl, unhide HCD w' c2 hcd2 hs.old, hs⟩
      by_cases hc : c2 = 0
      · subst hc
        have hns : (nums mF.runs).length = fF.made.length := by have := hivA.fins.1; rw [hFi] at this; have h := congrArg List.length (this rfl).ns; unfold ns at h; unfold nums; rw [List.length_map] at h ⊢; exact h
        obtain ⟨nF, hnF⟩ : ∃ nF, fF.made.length = nF := ⟨_, rfl⟩
        have HFD : Hid (Calls Tryz.prog 19 #[.pointer (some ⟨fb, 0, none⟩)] w12 fun e w' => ∃ a c, e = .returned (.tuple #[.slice a nF c, .nilIface]) ∧ Hid (Sep w1 [sdT sb fb mF (.slice a nF c) fF.made, dgT tb gb 0 mA fA, rowT u D] (fun _ => w'.heap.size) w')) := by
          have q := sep_done (unhide HZ1).toEnv (unhide HS11) (i := 0) rfl okA hfA hFi
          rw [hnF] at q
          exact q
        have HDP : Hid (∀ W a c, Sep w1 [sdT sb fb mF (.slice a nF c) fF.made, anyT, rowT u D] (fun _ => W.heap.size) W → Calls Tryz.prog 21 #[.pointer (some ⟨fb, 0, none⟩)] W fun e w' => e = .returned (.tuple #[]) ∧ Hid (Sep w1 [sdT sb fb mF (.slice a nF c) fF.made, anyT, rowT u D] (fun _ => w'.heap.size) w')) := fun W a c h => sep_drop h (i := 0) rfl
        have HLV : Hid (∀ W a c, Sep w1 [sdT sb fb mF (.slice a nF c) fF.made, anyT, rowT u D] (fun _ => W.heap.size) W → Calls Tryz.prog 22 #[.pointer (some ⟨sb, 0, none⟩)] W.drew fun e w' => ∃ a9 c9, e = .returned (.slice a9 nF c9) ∧ Hid (Sep w1 [sdT sb fb mF (.slice a nF c) fF.made, anyT, rowT u D] (fun _ => w'.heap.size) w') ∧ w'.cell? ⟨0, 0, none⟩ = some (er E 13)) := fun W a c h => by
          have hd : Below W.heap.size W W.drew := ⟨rfl, rfl, rfl, Nat.le_refl _, fun _ _ => rfl⟩
          have h' := (h.below hd).reset
          obtain ⟨⟨F, k1⟩, _⟩ := sep_sd h' (i := 0) rfl
          refine (live_any k1).mono ?_
          rintro e w' ⟨l, rfl, ho, hb⟩
          obtain ⟨a9, c9, rfl⟩ := own_slice ho
          have h2 := (h'.below hb).reset
          exact ⟨a9, c9, by rw [hns, hnF], h2, ((unhide HZ1).below h2.old).cl⟩
        have HAC : Hid (∀ W a c v, Sep w1 [sdT sb fb mF (.slice a nF c) fF.made, anyT, rowT u D] (fun _ => W.heap.size) W → Calls Tryz.prog 15 #[.pointer (some ⟨fb, 0, none⟩), v] W fun e w' => e = .returned (er E 13) ∧ w' = W) := fun W a c v h => stop_add (fcheck_closed ((unhide HZ1).toEnv.below h.old) (sep_sd h (i := 0) rfl).2)
        rw [errV_zero] at HDF
        unfold er at *
        clear HCD HS11 hFi okA hfA hivA
        go_wp2_with (first
          | (go_at_call 19; refine (unhide HFD).mono ?_; clear HFD; rintro e v1 ⟨a, c, rfl, HT1⟩)
          | (go_at_call 20; refine (unhide HDF _ _ (unhide HT1)).mono ?_; clear HDF; rintro e v2 ⟨l, rfl, HCX, HT⟩)
          | (go_at_call 18; refine (unhide HCX).mono ?_; clear HCX; rintro e v3 ⟨rfl, hw5⟩; have hw6 := hw5.symm; subst hw6; clear hw5)
          | (go_at_call 21; refine (unhide HDP _ a c (unhide HT)).mono ?_; clear HDP; rintro e v4 ⟨rfl, HT4⟩))
        have HLK := hide (unhide HLV _ a c (unhide HT4))
        have hcl : v4.cell? ⟨0, 0, none⟩ = some (.iface 168 (.pointer (some (E 13)))) := ((unhide HZ1).below (unhide HT4).old).cl
        clear HLV
        go_region_with (first
          | (go_at_call 22; refine (unhide HLK).mono ?_; rintro e v5 ⟨a9, c9, rfl, HT5, hcl5⟩; have HAK := hide (unhide HAC _ a c (.slice none 0 0) (unhide HT5)))
          | (go_at_call 15; refine (unhide HAK).mono ?_; rintro e v6 ⟨rfl, hw5⟩; have hw6 := hw5.symm; subst hw6; clear hw5))
        all_goals
          go_wp2
          go_ret
          exact ⟨by first | rfl | simp, unhide HOLD _ _ _ (unhide HT5)⟩
      · have hcn : c2 ≠ 0 := hc
        have h13 : c2 ≠ 13 := by unfold Cd at hcd2; omega
        have hrF : mF.runs = [] := by have := hivA.fins.2.1; rw [hFi] at this; exact ns_nil (this hc)
        have hdF : fF.dead = c2 := by have := fins_dead (m := mA) (f := fA); rw [hFi] at this; exact this hc
        have hcF : mF.cap = m0.cap := by have := cap_fins mA fA; rw [hFi] at this; exact this.trans hok1
        have hmdF : mF.made ≤ 524417 := by
          have q : mF.made ≤ mA.made + 1 := by have := hivA.fins.2.2; rw [hFi] at this; exact this
          omega
        have q5 : ((c2 : Int) == 0) = false := by simp; omega
        have HFD : Hid (Calls Tryz.prog 19 #[.pointer (some ⟨fb, 0, none⟩)] w12 fun e w' => e = .returned (.tuple #[.slice none 0 0, er E c2]) ∧ Hid (Sep w1 [sfT E sb fb mF fF, dgT tb gb 0 mA fA, rowT u D] (fun _ => w'.heap.size) w')) := sep_fail (unhide HZ1).toEnv (unhide HS11) (i := 0) rfl okA hfA hFi hc
        rw [errV_er hcn] at HDF
        have HLV : Hid (∀ W, Sep w1 [sfT E sb fb mF fF, anyT, rowT u D] (fun _ => W.heap.size) W → Calls Tryz.prog 22 #[.pointer (some ⟨sb, 0, none⟩)] W fun e w' => ∃ a k, e = .returned (.slice a 0 k) ∧ Hid (Sep w1 [sfT E sb fb mF fF, anyT, rowT u D] (fun _ => w'.heap.size) w')) := fun W h => by
          obtain ⟨F, k1⟩ := sep_sf h (i := 0) rfl
          refine (live_any k1).mono ?_
          rintro e w' ⟨l, rfl, ho, hb⟩
          obtain ⟨a, k, rfl⟩ := own_slice ho
          refine ⟨a, k, by rw [hrF]; rfl, (h.below hb).reset⟩
        have HUS : Hid (∀ W, Sep w1 [sfT E sb fb mF fF, anyT, rowT u D] (fun _ => W.heap.size) W → Calls Tryz.prog 23 #[.pointer (some ⟨sb, 0, none⟩)] W fun e w' => e = .returned (.int .i64 0) ∧ w' = W) := fun W h => by
          obtain ⟨F, k1⟩ := sep_sf h (i := 0) rfl
          have q := used_any k1
          rw [hrF] at q
          exact q
        have HDD : Hid (∀ W v, Sep w1 [sfT E sb fb mF fF, anyT, rowT u D] (fun _ => W.heap.size) W → Calls Tryz.prog 15 #[.pointer (some ⟨fb, 0, none⟩), v] W fun e w' => e = .returned (er E c2) ∧ w' = W) := fun W v h => by
          have q := sep_dead h (i := 0) rfl (by rw [hdF]; exact hcn) (by rw [hdF]; exact h13)
          rw [hdF] at q
          exact stop_add (fcheck_dead q)
        have HB0 : Hid (∀ W, Sep w1 [sfT E sb fb mF fF, anyT, rowT u D] (fun _ => W.heap.size) W → Calls Tryz.prog 13 #[.pointer (some ⟨sb, 0, none⟩), .int .i64 0] W fun e w' => e = .returned (.tuple #[]) ∧ Sep w1 [stoT sb (mF.brk 0), anyT, rowT u D] (fun _ => w'.heap.size) w') := fun W h => (sep_brk h (i := 0) rfl 0 (by omega)).mono fun e w' hh => ⟨hh.1, sep_loose hh.2 (i := 0) rfl⟩
        have HN0 : Hid (∀ W, Sep w1 [stoT sb (mF.brk 0), anyT, rowT u D] (fun _ => W.heap.size) W → Calls Tryz.prog 11 #[.pointer (some ⟨sb, 0, none⟩), .int .i64 1] W fun e w' => ∃ hb, e = .returned (.tuple #[.pointer (some ⟨hb, 0, none⟩), .nilIface]) ∧ Sep w1 [sfT E sb hb (mF.brk 0) ⟨1, [], [], 0⟩, anyT, rowT u D] (fun _ => w'.heap.size) w') := fun W h => sep_fnew (E := E) h (i := 0) rfl 1 (by omega) (by omega)
        have HAZ : Hid (2 ≤ cp → ∀ W hb, Sep w1 [sfT E sb hb (mF.brk 0) ⟨1, [], [], 0⟩, anyT, rowT u D] (fun _ => W.heap.size) W → Calls Tryz.prog 15 #[.pointer (some ⟨hb, 0, none⟩), .slice (some ⟨W.heap.size, 0, none⟩) 1 1] (W.alloc (.cells #[.string ⟨#[122]⟩] 9)) fun e w' => e = .returned .nilIface ∧ Hid (Calls Tryz.prog 22 #[.pointer (some ⟨sb, 0, none⟩)] w' fun e w' => ∃ a k, e = .returned (.slice a 1 k) ∧ Below w.heap.size w w')) := fun h2 W hb h => by
          obtain ⟨F9, k9⟩ := sep_sf h (i := 0) rfl
          obtain ⟨o1, o2⟩ := one_more (m := mF.brk 0) k9.ok rfl hrF (by show mF.made < 16777216; omega) (by show 2 ≤ mF.cap; rw [hcF]; exact hcp0 h2)
          have ok1 : (For.mk 1 [] [] 0).Ok (mF.brk 0) := ⟨Nat.le_refl _, by show 1 ≤ 65536; omega, (fun x hx => by cases hx), Nat.zero_le _, (fun x hx => by cases hx), rfl⟩
          have q := sep_add (unhide HZ1).toEnv (h.below ((Below.refl _ W).alloc (Nat.le_refl _) _)) (i := 0) rfl ok1 (by show 0 < 1; omega) (txs_lit1 W ⟨#[122]⟩) (fun a n c e => by injection e with e; injection e with e; subst e; exact .inr (Nat.le_refl _)) (by simp) (no_long fun x hx => by rw [List.mem_singleton.1 hx]; decide)
          rw [o1] at q
          refine q.mono ?_
          rintro e w' ⟨rfl, hs⟩
          refine ⟨rfl, ?_⟩
          obtain ⟨F, k1⟩ := sep_sf hs (i := 0) rfl
          refine (live_any k1).mono ?_
          rintro e w2 ⟨l, rfl, ho, hbb⟩
          obtain ⟨a, k, rfl⟩ := own_slice ho
          have hl : (nums (adds (mF.brk 0) ⟨1, [], [], 0⟩ [(⟨#[122]⟩ : Tx)]).2.1.runs).length = 1 := by unfold nums; rw [List.length_map]; exact o2
          have ho2 := unhide HOLD _ _ _ hs
          exact ⟨a, k, by rw [hl], ho2.trans (hbb.mono ho2.size)⟩
        unfold er at *
        clear HCD HS11 hFi okA hfA hivA
        by_cases hcp : cp < 2
        · clear HAZ
          go_wp2_with (first
            | (go_at_call 19; refine (unhide HFD).mono ?_; clear HFD; rintro e v1 ⟨rfl, HT1⟩)
            | (go_at_call 20; refine (unhide HDF _ _ (unhide HT1)).mono ?_; clear HDF; rintro e v2 ⟨l, rfl, HCX, HT⟩)
            | (go_at_call 18; refine (unhide HCX).mono ?_; clear HCX; rintro e v3 ⟨rfl, rfl⟩)
            | (go_at_call 22; refine (unhide HLV _ (unhide HT)).mono ?_; clear HLV; rintro e v4 ⟨a4, c4, rfl, HT4⟩; have HUU := hide (unhide HUS _ (unhide HT4)); have HDE := hide (unhide HDD _ (.slice none 0 0) (unhide HT4)); have HB9 := hide (unhide HB0 _ (unhide HT4)); clear HT HUS HDD HB0)
            | (go_at_call 23; refine (unhide HUU).mono ?_; clear HUU; rintro e v5 ⟨rfl, hw5⟩; have hw6 := hw5.symm; subst hw6; clear hw5)
            | (go_at_call 15; refine (unhide HDE).mono ?_; clear HDE; rintro e v6 ⟨rfl, hw5⟩; have hw6 := hw5.symm; subst hw6; clear hw5)
            | (go_at_call 13; refine (unhide HB9).mono ?_; clear HB9; rintro e v7 ⟨rfl, h7⟩; have HT7 := hide h7; clear h7)
            | (go_at_call 11; refine (unhide HN0 _ (unhide HT7)).mono ?_; clear HN0; rintro e v8 ⟨hb, rfl, h8⟩; have HT8 := hide h8; obtain ⟨k0, k1, k2, k3⟩ := unhide HX _ h8.old; clear h8)
          )
          go_ret
          exact ⟨by simp, unhide HOLD _ _ _ (unhide HT8)⟩
        · have hcp2 : 2 ≤ cp := by omega
          go_wp2_with (first
            | (go_at_call 19; refine (unhide HFD).mono ?_; clear HFD; rintro e v1 ⟨rfl, HT1⟩)
            | (go_at_call 20; refine (unhide HDF _ _ (unhide HT1)).mono ?_; clear HDF; rintro e v2 ⟨l, rfl, HCX, HT⟩)
            | (go_at_call 18; refine (unhide HCX).mono ?_; clear HCX; rintro e v3 ⟨rfl, rfl⟩)
            | (go_at_call 22; refine (unhide HLV _ (unhide HT)).mono ?_; clear HLV; rintro e v4 ⟨a4, c4, rfl, HT4⟩; have HUU := hide (unhide HUS _ (unhide HT4)); have HDE := hide (unhide HDD _ (.slice none 0 0) (unhide HT4)); have HB9 := hide (unhide HB0 _ (unhide HT4)); clear HT HUS HDD HB0)
            | (go_at_call 23; refine (unhide HUU).mono ?_; clear HUU; rintro e v5 ⟨rfl, hw5⟩; have hw6 := hw5.symm; subst hw6; clear hw5)
            | (go_at_call 15; refine (unhide HDE).mono ?_; clear HDE; rintro e v6 ⟨rfl, hw5⟩; have hw6 := hw5.symm; subst hw6; clear hw5)
            | (go_at_call 13; refine (unhide HB9).mono ?_; clear HB9; rintro e v7 ⟨rfl, h7⟩; have HT7 := hide h7; clear h7)
            | (go_at_call 11; refine (unhide HN0 _ (unhide HT7)).mono ?_; clear HN0; rintro e v8 ⟨hb, rfl, h8⟩; have HT8 := hide h8; obtain ⟨k0, k1, k2, k3⟩ := unhide HX _ h8.old; clear h8)
            | (go_at_call 15; refine (unhide HAZ (by omega) _ hb (unhide HT8)).mono ?_; clear HAZ; rintro e v9 ⟨rfl, HL9⟩)
            | (go_at_call 22; refine (unhide HL9).mono ?_; clear HL9; rintro e v10 ⟨a10, c10, rfl, h10⟩; have HE := hide h10; clear h10)
          )
          go_ret
          exact ⟨by simp, unhide HE⟩
    · have hcn : c1 ≠ 0 := hc
      have h13 : c1 ≠ 13 := by have := unhide HCC; unfold Cd at this; omega
      have hrF : mA.runs = [] := by have := (Iv.adds D m1 _ (unhide HIV)).2.1; rw [unhide HAA] at this; exact ns_nil (this hc)
      have hdF : fA.dead = c1 := by have := adds_dead D m1 ⟨b, [], [], 0⟩; rw [unhide HAA] at this; exact this hc
      have hcF : mA.cap = m0.cap := hok1
      have q5 : ((c1 : Int) == 0) = false := by simp; omega
      have HFD : Hid (Calls Tryz.prog 19 #[.pointer (some ⟨fb, 0, none⟩)] w12 fun e w' => e = .returned (.tuple #[.slice none 0 0, er E c1]) ∧ w' = w12) := by
        have q := sep_dead (unhide HS11) (i := 0) rfl (by rw [hdF]; exact hcn) (by rw [hdF]; exact h13)
        rw [hdF] at q
        exact stop_finish (fcheck_dead q)
      have HDF : Hid (Calls Tryz.prog 20 #[.pointer (some ⟨tb, 0, none⟩), .pointer (some ⟨gb, 0, none⟩)] w12 fun e w' => ∃ l, e = .returned (.tuple #[l, .int .i64 c1]) ∧ Hid (Calls Tryz.prog 18 #[er E c1] w' fun e w2 => e = .returned (.int .i64 c1) ∧ w2 = w') ∧ Hid (Sep w1 [sfT E sb fb mA fA, dgT tb gb c1 mA fA, rowT u D] (fun _ => w'.heap.size) w')) := by
        refine (sep_dfin_dead (unhide HS11) (i := 1) rfl hcn _).mono ?_
        rintro e w' ⟨l, rfl, hs⟩
        have q := unhide HCD w' c1 (unhide HCC) hs.old
        rw [errV_er hcn] at q
        exact ⟨l, rfl, q, hs⟩
      have HLV : Hid (∀ W, Sep w1 [sfT E sb fb mA fA, dgT tb gb c1 mA fA, rowT u D] (fun _ => W.heap.size) W → Calls Tryz.prog 22 #[.pointer (some ⟨sb, 0, none⟩)] W fun e w' => ∃ a k, e = .returned (.slice a 0 k) ∧ Hid (Sep w1 [sfT E sb fb mA fA, dgT tb gb c1 mA fA, rowT u D] (fun _ => w'.heap.size) w')) := fun W h => by
        obtain ⟨F, k1⟩ := sep_sf h (i := 0) rfl
        refine (live_any k1).mono ?_
        rintro e w' ⟨l, rfl, ho, hb⟩
        obtain ⟨a, k, rfl⟩ := own_slice ho
        refine ⟨a, k, by rw [hrF]; rfl, (h.below hb).reset⟩
      have HUS : Hid (∀ W, Sep w1 [sfT E sb fb mA fA, dgT tb gb c1 mA fA, rowT u D] (fun _ => W.heap.size) W → Calls Tryz.prog 23 #[.pointer (some ⟨sb, 0, none⟩)] W fun e w' => e = .returned (.int .i64 0) ∧ w' = W) := fun W h => by
        obtain ⟨F, k1⟩ := sep_sf h (i := 0) rfl
        have q := used_any k1
        rw [hrF] at q
        exact q
      have HDD : Hid (∀ W v, Sep w1 [sfT E sb fb mA fA, dgT tb gb c1 mA fA, rowT u D] (fun _ => W.heap.size) W → Calls Tryz.prog 15 #[.pointer (some ⟨fb, 0, none⟩), v] W fun e w' => e = .returned (er E c1) ∧ w' = W) := fun W v h => by
        have q := sep_dead h (i := 0) rfl (by rw [hdF]; exact hcn) (by rw [hdF]; exact h13)
        rw [hdF] at q
        exact stop_add (fcheck_dead q)
      have HB0 : Hid (∀ W, Sep w1 [sfT E sb fb mA fA, dgT tb gb c1 mA fA, rowT u D] (fun _ => W.heap.size) W → Calls Tryz.prog 13 #[.pointer (some ⟨sb, 0, none⟩), .int .i64 0] W fun e w' => e = .returned (.tuple #[]) ∧ Sep w1 [stoT sb (mA.brk 0), dgT tb gb c1 mA fA, rowT u D] (fun _ => w'.heap.size) w') := fun W h => (sep_brk h (i := 0) rfl 0 (by omega)).mono fun e w' hh => ⟨hh.1, sep_loose hh.2 (i := 0) rfl⟩
      have HN0 : Hid (∀ W, Sep w1 [stoT sb (mA.brk 0), dgT tb gb c1 mA fA, rowT u D] (fun _ => W.heap.size) W → Calls Tryz.prog 11 #[.pointer (some ⟨sb, 0, none⟩), .int .i64 1] W fun e w' => ∃ hb, e = .returned (.tuple #[.pointer (some ⟨hb, 0, none⟩), .nilIface]) ∧ Sep w1 [sfT E sb hb (mA.brk 0) ⟨1, [], [], 0⟩, dgT tb gb c1 mA fA, rowT u D] (fun _ => w'.heap.size) w') := fun W h => sep_fnew (E := E) h (i := 0) rfl 1 (by omega) (by omega)
      have HAZ : Hid (2 ≤ cp → ∀ W hb, Sep w1 [sfT E sb hb (mA.brk 0) ⟨1, [], [], 0⟩, dgT tb gb c1 mA fA, rowT u D] (fun _ => W.heap.size) W → Calls Tryz.prog 15 #[.pointer (some ⟨hb, 0, none⟩), .slice (some ⟨W.heap.size, 0, none⟩) 1 1] (W.alloc (.cells #[.string ⟨#[122]⟩] 9)) fun e w' => e = .returned .nilIface ∧ Hid (Calls Tryz.prog 22 #[.pointer (some ⟨sb, 0, none⟩)] w' fun e w' => ∃ a k, e = .returned (.slice a 1 k) ∧ Below w.heap.size w w')) := fun h2 W hb h => by
        obtain ⟨F9, k9⟩ := sep_sf h (i := 0) rfl
        obtain ⟨o1, o2⟩ := one_more (m := mA.brk 0) k9.ok rfl hrF (by show mA.made < 16777216; omega) (by show 2 ≤ mA.cap; rw [hcF]; exact hcp0 h2)
        have ok1 : (For.mk 1 [] [] 0).Ok (mA.brk 0) := ⟨Nat.le_refl _, by show 1 ≤ 65536; omega, (fun x hx => by cases hx), Nat.zero_le _, (fun x hx => by cases hx), rfl⟩
        have q := sep_add (unhide HZ1).toEnv (h.below ((Below.refl _ W).alloc (Nat.le_refl _) _)) (i := 0) rfl ok1 (by show 0 < 1; omega) (txs_lit1 W ⟨#[122]⟩) (fun a n c e => by injection e with e; injection e with e; subst e; exact .inr (Nat.le_refl _)) (by simp) (no_long fun x hx => by rw [List.mem_singleton.1 hx]; decide)
        rw [o1] at q
        refine q.mono ?_
        rintro e w' ⟨rfl, hs⟩
        refine ⟨rfl, ?_⟩
        obtain ⟨F, k1⟩ := sep_sf hs (i := 0) rfl
        refine (live_any k1).mono ?_
        rintro e w2 ⟨l, rfl, ho, hbb⟩
        obtain ⟨a, k, rfl⟩ := own_slice ho
        have hl : (nums (adds (mA.brk 0) ⟨1, [], [], 0⟩ [(⟨#[122]⟩ : Tx)]).2.1.runs).length = 1 := by unfold nums; rw [List.length_map]; exact o2
        have ho2 := unhide HOLD _ _ _ hs
        exact ⟨a, k, by rw [hl], ho2.trans (hbb.mono ho2.size)⟩
      unfold er at *
      clear HCD HS11
      by_cases hcp : cp < 2
      · clear HAZ
        go_wp2_with (first
          | (go_at_call 19; refine (unhide HFD).mono ?_; clear HFD; rintro e v1 ⟨rfl, hw5⟩; have hw6 := hw5.symm; subst hw6; clear hw5)
          | (go_at_call 20; refine (unhide HDF).mono ?_; clear HDF; rintro e v2 ⟨l, rfl, HCX, HT⟩)
          | (go_at_call 18; refine (unhide HCX).mono ?_; clear HCX; rintro e v3 ⟨rfl, rfl⟩)
          | (go_at_call 22; refine (unhide HLV _ (unhide HT)).mono ?_; clear HLV; rintro e v4 ⟨a4, c4, rfl, HT4⟩; have HUU := hide (unhide HUS _ (unhide HT4)); have HDE := hide (unhide HDD _ (.slice none 0 0) (unhide HT4)); have HB9 := hide (unhide HB0 _ (unhide HT4)); clear HT HUS HDD HB0)
          | (go_at_call 23; refine (unhide HUU).mono ?_; clear HUU; rintro e v5 ⟨rfl, hw5⟩; have hw6 := hw5.symm; subst hw6; clear hw5)
          | (go_at_call 15; refine (unhide HDE).mono ?_; clear HDE; rintro e v6 ⟨rfl, hw5⟩; have hw6 := hw5.symm; subst hw6; clear hw5)
          | (go_at_call 13; refine (unhide HB9).mono ?_; clear HB9; rintro e v7 ⟨rfl, h7⟩; have HT7 := hide h7; clear h7)
          | (go_at_call 11; refine (unhide HN0 _ (unhide HT7)).mono ?_; clear HN0; rintro e v8 ⟨hb, rfl, h8⟩; have HT8 := hide h8; obtain ⟨k0, k1, k2, k3⟩ := unhide HX _ h8.old; clear h8)
        )
        go_ret
        exact ⟨by simp, unhide HOLD _ _ _ (unhide HT8)⟩
      · have hcp2 : 2 ≤ cp := by omega
        go_wp2_with (first
          | (go_at_call 19; refine (unhide HFD).mono ?_; clear HFD; rintro e v1 ⟨rfl, hw5⟩; have hw6 := hw5.symm; subst hw6; clear hw5)
          | (go_at_call 20; refine (unhide HDF).mono ?_; clear HDF; rintro e v2 ⟨l, rfl, HCX, HT⟩)
          | (go_at_call 18; refine (unhide HCX).mono ?_; clear HCX; rintro e v3 ⟨rfl, rfl⟩)
          | (go_at_call 22; refine (unhide HLV _ (unhide HT)).mono ?_; clear HLV; rintro e v4 ⟨a4, c4, rfl, HT4⟩; have HUU := hide (unhide HUS _ (unhide HT4)); have HDE := hide (unhide HDD _ (.slice none 0 0) (unhide HT4)); have HB9 := hide (unhide HB0 _ (unhide HT4)); clear HT HUS HDD HB0)
          | (go_at_call 23; refine (unhide HUU).mono ?_; clear HUU; rintro e v5 ⟨rfl, hw5⟩; have hw6 := hw5.symm; subst hw6; clear hw5)
          | (go_at_call 15; refine (unhide HDE).mono ?_; clear HDE; rintro e v6 ⟨rfl, hw5⟩; have hw6 := hw5.symm; subst hw6; clear hw5)
          | (go_at_call 13; refine (unhide HB9).mono ?_; clear HB9; rintro e v7 ⟨rfl, h7⟩; have HT7 := hide h7; clear h7)
          | (go_at_call 11; refine (unhide HN0 _ (unhide HT7)).mono ?_; clear HN0; rintro e v8 ⟨hb, rfl, h8⟩; have HT8 := hide h8; obtain ⟨k0, k1, k2, k3⟩ := unhide HX _ h8.old; clear h8)
          | (go_at_call 15; refine (unhide HAZ (by omega) _ hb (unhide HT8)).mono ?_; clear HAZ; rintro e v9 ⟨rfl, HL9⟩)
          | (go_at_call 22; refine (unhide HL9).mono ?_; clear HL9; rintro e v10 ⟨a10, c10, rfl, h10⟩; have HE := hide h10; clear h10)
        )
        go_ret
        exact ⟨by simp, unhide HE⟩
end Rs
end Go.Proofs.YtbapnoafjcipjaaGreatDoor
