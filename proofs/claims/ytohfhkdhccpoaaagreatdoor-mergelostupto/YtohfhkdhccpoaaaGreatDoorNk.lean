/- Layer 10: the law MergeLost. -/
import Derived.Laws.Cover1
import Derived.Test.YtohfhkdhccpoaaaGreatDoorNj
namespace Go.Proofs.YtohfhkdhccpoaaaGreatDoor
open Go.RowKit Go.Shelf
namespace Rs
open Sm (Tx ofS)
theorem settingL (k : Nat) (x : Int) (h2 : x ≤ 9223372036854775807) : ∃ q : Nat, max 0 x = (q : Int) ∧ q ≤ 9223372036854775807 ∧ (q : Int).tmod k = ((q % k : Nat) : Int) := by
  refine ⟨(max 0 x).toNat, by omega, by omega, ?_⟩
  rw [Int.tmod_eq_emod_of_nonneg (by omega)]
  rfl
theorem own_new11 {B : Nat} {W : World} {v : Value} {L : List Tx} (h : Um.OwnT B W v L) : ∀ a n c, v = .slice (some a) n c → B ≤ a.block ∧ a.block < W.heap.size := fun a n c e => by
  rcases h.2 with ⟨e1, _⟩ | ⟨g, cap, cur, e1, hb, hg, _⟩
  · rw [e1] at e; cases e
  · rw [e1] at e
    injection e with e _ _
    injection e with e
    rw [← e]
    exact ⟨hb, (Array.getElem?_eq_some_iff.1 hg).1⟩
theorem crt_new (cp : Int) : ∃ mA, crt (newS cp) = ((1, 0), mA) ∧ Ls (newS cp) mA 1 [] false ∧ mA.Ok := by
  refine ⟨(newS cp).tick.newRun, rfl, ⟨rfl, fun x hx => by cases hx⟩, ?_⟩
  exact newRun_ok (tick_okx (newS_ok cp)) (show 0 < 16777216 by decide)
theorem sep_live11 {w wr : World} {L : List Thing} {D : Nat → Nat} {i sb : Nat} {m : Sto} {r : Run} {A : List Run} (h : Sep w L D wr) (hi : L[i]? = some (stoT sb m)) (hm : m.runs = A ++ [r]) :
    Calls Tryz.prog 20 #[.pointer (some ⟨sb, 0, none⟩)] wr fun e w' => ∃ g c, e = .returned (.slice (some ⟨g, 0, none⟩) (A.length + 1) c) ∧ w'.cell? ⟨g, A.length, none⟩ = some (.int .i64 (r.num : Nat)) ∧ Sep w L D w' := by
  obtain ⟨F, k1, k2, k3, -⟩ := h.call (Below.refl _ _) hi
  have k1' : At wr sb m F := k1
  refine (live_any k1').mono ?_
  rw [hm]
  rintro e w' ⟨v, rfl, ho, hb⟩
  have e1 : (nums (A ++ [r])).length = A.length + 1 := by simp [nums]
  rw [e1] at ho
  rcases ho.2 with ⟨_, e⟩ | ⟨g, c, cur, e, _⟩
  · omega
  · subst e
    refine ⟨g, c, rfl, ?_, h.below hb⟩
    rw [World.ownsRow.cellAt ho A.length (by omega)]
    simp [nums]
set_option maxRecDepth 100000 in
set_option maxHeartbeats 8000000 in
theorem lost10 {w : World} {v : Value} {X : List Tx} {E : Nat → Addr} (V : EnvZ w E w.heap.size) (hT : Um.Txs w v X) (hn : X.length ≤ 1048576) (bl fl nn cp : Int) (hb2 : bl ≤ 9223372036854775807) (hf2 : fl ≤ 9223372036854775807) (hn2 : nn ≤ 9223372036854775807) (hc1 : -9223372036854775808 ≤ cp) (hc2 : cp ≤ 9223372036854775807) :
    Calls Tryz.prog 6 #[.agg #[v, .int .i64 bl, .int .i64 fl, .int .i64 nn, .int .i64 cp]] w fun e w' => e = .returned (.bool true) ∧ Below w.heap.size w w' := by
  have HV := hide V
  have HWK : Hid (∀ W, Below w.heap.size w W → Calls Tryz.prog 11 #[] W fun e w' => e = .returned (.bool true) ∧ Below W.heap.size W w') := fun W hW => wakes_any ((V.below hW).over hW.size)
  have hT0 := hT
  obtain ⟨ao, cap, rfl, -, -, hat⟩ := hT
  obtain ⟨q, hq, hqb, hr⟩ := settingL 20 bl hb2
  obtain ⟨b, hbb⟩ : ∃ b : Nat, 1 + (q : Int) % 20 = (b : Int) := ⟨1 + q % 20, by omega⟩
  have hb3 : 1 ≤ b := by omega
  have hb4 : b ≤ 20 := by omega
  obtain ⟨p, hp, hpb, hs⟩ := settingL 6 fl hf2
  obtain ⟨fan, hff⟩ : ∃ fan : Nat, 2 + (p : Int) % 6 = (fan : Int) := ⟨2 + p % 6, by omega⟩
  have hf3 : 2 ≤ fan := by omega
  have hf4 : fan ≤ 7 := by omega
  obtain ⟨xb, hxb⟩ : ∃ xb, w.heap.size = xb := ⟨_, rfl⟩
  clear V
  go_enter Tryz.func6, Tryz.ntmps6
  go_wp2_with fail
  have hB0 : Below w.heap.size w (w.alloc (.cells #[.slice ao X.length cap, .int .i64 bl, .int .i64 fl, .int .i64 nn, .int .i64 cp] 54)) := (Below.refl _ w).alloc (Nat.le_refl _) _
  have hx0 : ∀ k u, (#[.slice ao X.length cap, .int .i64 bl, .int .i64 fl, .int .i64 nn, .int .i64 cp] : Array Value)[k]? = some u → (w.alloc (.cells #[.slice ao X.length cap, .int .i64 bl, .int .i64 fl, .int .i64 nn, .int .i64 cp] 54)).cell? ⟨xb, k, none⟩ = some u := fun k u hu => by
    rw [← hxb, World.cell?_alloc_at _ _ _ _ rfl]
    exact hu
  have hxl : xb < (w.alloc (.cells #[.slice ao X.length cap, .int .i64 bl, .int .i64 fl, .int .i64 nn, .int .i64 cp] 54)).heap.size := by rw [← hxb]; simp
  refine (unhide HWK _ hB0).mono ?_
  generalize w.alloc _ = w0 at *
  rintro e w1 ⟨rfl, h1⟩
  have bw1 : Below w.heap.size w w1 := hB0.trans (h1.mono hB0.size)
  have HB1 := hide bw1
  have HX : Hid (∀ W, Below w1.heap.size w1 W → W.cell? ⟨xb, 0, none⟩ = some (.slice ao X.length cap) ∧ W.cell? ⟨xb, 1, none⟩ = some (.int .i64 bl) ∧ W.cell? ⟨xb, 2, none⟩ = some (.int .i64 fl) ∧ W.cell? ⟨xb, 3, none⟩ = some (.int .i64 nn) ∧ W.cell? ⟨xb, 4, none⟩ = some (.int .i64 cp)) := fun W hW => by
    have hk : ∀ k, W.cell? ⟨xb, k, none⟩ = w0.cell? ⟨xb, k, none⟩ := fun k => (hW.cell (p := ⟨xb, k, none⟩) (Nat.lt_of_lt_of_le hxl h1.size)).trans (h1.cell (p := ⟨xb, k, none⟩) hxl)
    exact ⟨(hk 0).trans (hx0 0 _ rfl), (hk 1).trans (hx0 1 _ rfl), (hk 2).trans (hx0 2 _ rfl), (hk 3).trans (hx0 3 _ rfl), (hk 4).trans (hx0 4 _ rfl)⟩
  obtain ⟨sb, hsb⟩ : ∃ sb, w1.heap.size = sb := ⟨_, rfl⟩
  have HN1 : Hid (Calls Tryz.prog 9 #[.int .i64 cp] w1.drew fun e w2 => e = .returned (.pointer (some ⟨sb, 0, none⟩)) ∧ Hid (Sep w1 [stoT sb (newS cp)] (fun _ => w2.heap.size) w2 ∧ w2.heap.size = sb + 1) ∧ w2.cell? ⟨xb, 4, none⟩ = some (.int .i64 cp)) := by
    have hd : Below w1.heap.size w1 w1.drew := ⟨rfl, rfl, rfl, Nat.le_refl _, fun _ _ => rfl⟩
    refine (new_any cp w1.drew hc1 hc2).mono ?_
    rintro e w2 ⟨rfl, q1, q2, q3⟩
    have hb2 : Below w1.heap.size w1 w2 := hd.trans (q2.mono (Nat.le_refl _))
    have hs := ((Sep.nil w1 fun _ => 0).below hd).add (T := stoT w1.drew.heap.size (newS cp)) q1 (fun b hb => by rw [hb]; exact Nat.le_refl _) q2
    refine ⟨by rw [← hsb]; rfl, ⟨?_, by rw [← hsb]; exact q3⟩, (unhide HX _ hb2).2.2.2.2⟩
    rw [← hsb]
    exact hs
  have HN2 : Hid (∀ W, Sep w1 [stoT sb (newS cp)] (fun _ => W.heap.size) W ∧ W.heap.size = sb + 1 → Calls Tryz.prog 10 #[.int .i64 cp] W fun e w3 => e = .returned (.pointer (some ⟨sb + 1, 0, none⟩)) ∧ Hid (Sep w1 [stoT sb (newS cp), ddT (sb + 1) (newS cp)] (fun _ => w3.heap.size) w3)) := fun W ⟨h, hs⟩ => by
    refine (sep_dnew h cp hc1 hc2).mono ?_
    rintro e w3 ⟨rfl, q1, q2⟩
    rw [hs] at q1 ⊢
    exact ⟨rfl, q1⟩
  have hx1 := (unhide HX w1 (Below.refl _ _)).2.2.2.2
  have hxl1 : xb < w1.heap.size := Nat.lt_of_lt_of_le hxl h1.size
  have HTX : Hid (∀ W, Below w1.heap.size w1 W → Um.Txs W (.slice ao X.length cap) X) := fun W hW => hT0.below (bw1.trans (hW.mono bw1.size))
  have HTB : Hid (∀ a n c, (Value.slice ao X.length cap) = .slice (some a) n c → a.block < w1.heap.size ∨ X = []) := fun a n c e => by
    by_cases hX : X = []
    · exact .inr hX
    · obtain ⟨g, off, e1, hg, _⟩ := hat (List.length_pos_iff.2 hX)
      injection e with e _ _
      rw [e1] at e
      injection e with e
      rw [← e]
      exact .inl (Nat.lt_of_lt_of_le hg bw1.size)
  clear hB0 hx0 hxl h1 HWK hat hT0 bw1
  go_wp2
  apply wp_ones (S := fun W => Sep w1 [stoT sb (newS cp), ddT (sb + 1) (newS cp)] (fun _ => W.heap.size) W)
  · go_region_with (first
      | (go_at_call 9; refine (unhide HN1).mono ?_; rintro e w2 ⟨rfl, H2, k2⟩)
      | (go_at_call 10; refine (unhide HN2 _ (unhide H2)).mono ?_; rintro e w3 ⟨rfl, H3⟩))
    all_goals exact ones_intro (unhide H3)
  · intro w3 h3
    have HS3 := hide h3
    obtain ⟨k0, k1, k2, k3, k4⟩ := unhide HX _ h3.old
    clear h3 HN1 HN2 hx1
    have HZ1 : Hid (EnvZ w1 E w1.heap.size) := ((unhide HV).below (unhide HB1)).over (unhide HB1).size
    obtain ⟨m0, hm0⟩ : ∃ m0, newS cp = m0 := ⟨_, rfl⟩
    obtain ⟨tb, htb⟩ : ∃ tb, sb + 1 = tb := ⟨_, rfl⟩
    rw [hm0, htb] at HS3
    rw [htb]
    obtain ⟨mA, hcr, hls, hokA⟩ := crt_new cp
    rw [hm0] at hcr hls
    have hr0 : m0.runs = [] := by rw [← hm0]; rfl
    have HLY : Hid (∀ o : Obj, Calls Tryz.prog 23 #[.pointer (some ⟨sb, 0, none⟩), .pointer (some ⟨tb, 0, none⟩), .agg #[.int .i64 1, .int .i64 0, .int .i64 0, .slice none 0 0, .slice (some ⟨w3.heap.size, 0, none⟩) 1 1]] ((w3.alloc (.cells #[.string ⟨#[111, 108, 100]⟩] 9)).alloc o) fun e w' => e = .returned (.bool true) ∧ ∃ mC, Sep w1 [stoT sb mC, ddT tb mC] (fun _ => w'.heap.size) w' ∧ mC.runs.length = 1 ∧ mC.Ok) := fun o => by
      have b4 : Below w3.heap.size w3 ((w3.alloc (.cells #[.string ⟨#[111, 108, 100]⟩] 9)).alloc o) := (bel_al3 w3 _).trans ((bel_al3 _ o).mono (by rw [World.size_alloc]; omega))
      refine (lays10 (unhide HZ1) ((unhide HS3).below b4).reset ⟨_, 1, rfl, by simp, (fun e => by cases e), fun _ => ⟨w3.heap.size, 0, rfl, by simp; omega, fun j x hj => ?_⟩⟩ hcr hls hokA).mono ?_
      · have hj1 := (List.getElem?_eq_some_iff.1 hj).1
        simp at hj1
        subst hj1
        simp at hj
        subst hj
        rw [Nat.add_zero, (bel_al3 (w3.alloc (.cells #[.string ⟨#[111, 108, 100]⟩] 9)) o).cell (p := ⟨w3.heap.size, 0, none⟩) (by simp), World.cell?_alloc_at _ _ _ _ rfl]
        rfl
      · rintro e w' ⟨rfl, mC, t, s, h1, h2, h3⟩
        refine ⟨rfl, mC, h1, ?_, h3⟩
        rw [h2.runs, hr0]
        rfl
    clear hcr hls hokA hr0
    go_wp2_with fail
    refine (unhide HLY _).mono ?_
    rintro e w5 ⟨rfl, mC, h5, hl5, ok5⟩
    have HS5 := hide h5
    obtain ⟨x0, x1, x2, x3, x4⟩ := unhide HX _ h5.old
    have HOK : Hid (mC.brk nn).Ok := brk_ok ok5 hn2
    obtain ⟨c, m3, n, hsrt, hcb, hc0, hcn⟩ := srt_ex (unhide HOK) b fan hf3 X
    have HSR := hide hsrt
    have hbr : (mC.brk nn).runs = mC.runs := rfl
    rw [hbr] at hc0 hcn
    obtain ⟨T5, hT5⟩ : ∃ T5, tot mC.runs = T5 := ⟨_, rfl⟩
    have HLV : Hid (Calls Tryz.prog 20 #[.pointer (some ⟨sb, 0, none⟩)] w5 fun e w' => ∃ a c, e = .returned (.slice a 1 c) ∧ Sep w1 [stoT sb mC, ddT tb mC] (fun _ => w'.heap.size) w') := by
      have q := sep_live10 (i := 0) h5 rfl
      rw [hl5] at q
      exact q.mono fun e w' ⟨a, c, hh, h2⟩ => ⟨a, c, hh, h2.reset⟩
    have HUS : Hid (∀ W, Sep w1 [stoT sb mC, ddT tb mC] (fun _ => W.heap.size) W → Calls Tryz.prog 21 #[.pointer (some ⟨sb, 0, none⟩)] W fun e w' => e = .returned (.int .i64 (T5 : Nat)) ∧ w' = W) := fun W h => by
      have q := sep_used10 (i := 0) h rfl
      rw [hT5] at q
      exact q
    have HBR : Hid (∀ W, Sep w1 [stoT sb mC, ddT tb mC] (fun _ => W.heap.size) W → Calls Tryz.prog 24 #[.pointer (some ⟨sb, 0, none⟩), .int .i64 nn] W fun e w' => e = .returned (.tuple #[]) ∧ Sep w1 [stoT sb (mC.brk nn), ddT tb mC] (fun _ => w'.heap.size) w') := fun W h => sep_break (i := 0) h rfl nn hn2
    have HDB : Hid (∀ W, Sep w1 [stoT sb (mC.brk nn), ddT tb mC] (fun _ => W.heap.size) W → Calls Tryz.prog 25 #[.pointer (some ⟨tb, 0, none⟩), .int .i64 nn] W fun e w' => e = .returned (.tuple #[]) ∧ Sep w1 [stoT sb (mC.brk nn), ddT tb (mC.brk nn)] (fun _ => w'.heap.size) w') := fun W h => sep_dbreak (i := 1) h rfl nn hn2
    have HTW : Hid (∀ W, Sep w1 [stoT sb (mC.brk nn), ddT tb (mC.brk nn)] (fun _ => W.heap.size) W → Calls Tryz.prog 16 #[.slice ao X.length cap] W fun e w' => ∃ t, e = .returned t ∧ Hid (Calls Tryz.prog 15 #[.pointer (some ⟨sb, 0, none⟩), .int .i64 b, .int .i64 fan, t] w' fun e w'' => e = .returned (.tuple #[.int .i64 (n : Nat), errV E c]) ∧ Sep w1 [stoT sb m3, ddT tb (mC.brk nn)] (fun _ => w''.heap.size) w'')) := fun W h => by
      refine (Um.twin_any _ X W (unhide HTX W h.old) (by omega)).mono ?_
      rintro e w' ⟨t, rfl, ho, hb⟩
      refine ⟨t, rfl, sep_sortany (i := 0) (unhide HZ1) (h.below hb) rfl ho.txs (fun a n c e => ?_) (by omega) hb3 (by omega) hf3 (by omega) hsrt⟩
      obtain ⟨o1, o2⟩ := own_new11 ho a n c e
      exact ⟨.inr o1, o2⟩
    have HDS : Hid (∀ W, Sep w1 [stoT sb m3, ddT tb (mC.brk nn)] (fun _ => W.heap.size) W → Calls Tryz.prog 26 #[.pointer (some ⟨tb, 0, none⟩), .int .i64 b, .int .i64 fan, .slice ao X.length cap] W fun e w' => e = .returned (.tuple #[.int .i64 (n : Nat), .int .i64 c]) ∧ Sep w1 [stoT sb m3, ddT tb m3] (fun _ => w'.heap.size) w') := fun W h => by
      refine sep_dsort (i := 1) h rfl (unhide HTX W h.old) (fun h0 a n c e => ?_) hn hb3 (by omega) hf3 (by omega) hsrt
      rcases unhide HTB a n c e with z | z
      · exact ⟨.inl z, Nat.lt_of_lt_of_le z h.old.size⟩
      · rw [z] at h0; simp at h0
    have HCD : Hid (∀ W, Below w1.heap.size w1 W → Calls Tryz.prog 27 #[errV E c] W fun e w' => e = .returned (.int .i64 (c : Nat)) ∧ w' = W) := fun W hW => code10 ((unhide HZ1).below hW) (by rcases hcb with z | z; exact cb_any z; omega)
    have HL3 : Hid (c = 0 → ∀ W, Sep w1 [stoT sb m3, ddT tb m3] (fun _ => W.heap.size) W → Calls Tryz.prog 20 #[.pointer (some ⟨sb, 0, none⟩)] W fun e w' => ∃ g d, e = .returned (.slice (some ⟨g, 0, none⟩) 2 d) ∧ w'.cell? ⟨g, 1, none⟩ = some (.int .i64 (n : Nat)) ∧ Below w1.heap.size w1 w') := fun h0 W h => by
      obtain ⟨r, e1, e2⟩ := hc0 h0
      have q := sep_live11 (i := 0) h rfl e1
      rw [hl5, e2] at q
      exact q.mono fun e w' ⟨g, d, a1, a2, a3⟩ => ⟨g, d, a1, a2, a3.old⟩
    have HL4 : Hid (c ≠ 0 → n = 0 ∧ ∀ W, Sep w1 [stoT sb m3, ddT tb m3] (fun _ => W.heap.size) W → Calls Tryz.prog 20 #[.pointer (some ⟨sb, 0, none⟩)] W fun e w' => ∃ a d, e = .returned (.slice a 1 d) ∧ Hid (Calls Tryz.prog 21 #[.pointer (some ⟨sb, 0, none⟩)] w' fun e w'' => e = .returned (.int .i64 (T5 : Nat)) ∧ w'' = w') ∧ Below w1.heap.size w1 w') := fun h0 => by
      obtain ⟨e1, e2⟩ := hcn h0
      refine ⟨e2, fun W h => ?_⟩
      have q := sep_live10 (i := 0) h rfl
      rw [e1, hl5] at q
      refine q.mono fun e w' ⟨a, d, a1, a2⟩ => ⟨a, d, a1, ?_, a2.old⟩
      have u := sep_used10 (i := 0) a2.reset rfl
      rw [e1, hT5] at u
      exact u
    have hcc : c ≤ 10 := by unfold Cb at hcb; omega
    clear hsrt h5 HLY hbr k0 k1 k2 k3 k4 hc0 hcn hcb hl5 ok5 hT5
    go_wp2_with fail
    refine (unhide HLV).mono ?_
    rintro e w6 ⟨a6, c6, rfl, h6⟩
    have HU6 := hide (unhide HUS w6 h6)
    have HB6 := hide (unhide HBR w6 h6)
    obtain ⟨-, -, -, y3, -⟩ := unhide HX _ h6.old
    clear h6 HLV HUS HBR x0 x1 x2 x3 x4
    go_wp2_with fail
    refine (unhide HU6).mono ?_
    rintro e w6' ⟨rfl, hw⟩
    have hw' := hw.symm
    subst hw'
    clear hw HU6
    go_wp2_with fail
    refine (unhide HB6).mono ?_
    rintro e w7 ⟨rfl, h7⟩
    have HB7 := hide (unhide HDB w7 h7)
    obtain ⟨-, -, -, z3, -⟩ := unhide HX _ h7.old
    clear h7 HB6 HDB y3
    go_wp2_with fail
    refine (unhide HB7).mono ?_
    rintro e w8 ⟨rfl, h8⟩
    have HS8 := hide h8
    obtain ⟨x0, x1, x2, -, -⟩ := unhide HX _ h8.old
    clear h8 HB7 z3
    go_wp2
    go_quiet (fail)
    have bV : Below w8.heap.size w8 (w8.drewN nq) := ⟨rfl, rfl, rfl, Nat.le_refl _, fun _ _ => rfl⟩
    have hSV := ((unhide HS8).below bV).reset
    clear bV HS8 x0 x1 x2
    generalize w8.drewN nq = V at *
    obtain ⟨x0, -⟩ := unhide HX _ hSV.old
    have HT8 := hide (unhide HTW V hSV)
    clear hSV HTW
    go_wp2_with fail
    refine (unhide HT8).mono ?_
    rintro e w9 ⟨t, rfl, HSo⟩
    clear HT8 x0
    go_wp2_with fail
    refine (unhide HSo).mono ?_
    rintro e w10 ⟨rfl, s10⟩
    obtain ⟨x0, -⟩ := unhide HX _ s10.old
    have HD10 := hide (unhide HDS w10 s10)
    clear s10 HSo HDS
    go_wp2_with fail
    refine (unhide HD10).mono ?_
    rintro e w11 ⟨rfl, s11⟩
    have HK := hide (unhide HCD w11 s11.old)
    have HS11 := hide s11
    clear s11 HD10 HCD x0 HX HTX HTB HSR HOK
    by_cases hc : c = 0
    · subst hc
      rw [errV_zero] at HK ⊢
      have HLL := hide (unhide HL3 rfl w11 (unhide HS11))
      clear HL3 HL4 HS11
      go_wp2_with fail
      refine (unhide HK).mono ?_
      rintro e w11' ⟨rfl, hw⟩
      have hw' := hw.symm
      subst hw'
      clear hw HK
      go_wp2_with fail
      refine (unhide HLL).mono ?_
      rintro e w12 ⟨g, d, rfl, y1, b12⟩
      have HB12 := hide b12
      clear b12 HLL
      go_wp2
      go_ret
      exact ⟨by simp, (unhide HB1).trans ((unhide HB12).mono (unhide HB1).size)⟩
    · obtain ⟨hn0, hll⟩ := unhide HL4 hc
      subst hn0
      have HLL := hide (hll w11 (unhide HS11))
      rw [errV_pos E hc] at HK ⊢
      unfold er at HK ⊢
      clear HL3 HL4 HS11 hll
      go_wp2_with fail
      refine (unhide HK).mono ?_
      rintro e w11' ⟨rfl, hw⟩
      have hw' := hw.symm
      subst hw'
      clear hw HK
      go_wp2_with fail
      refine (unhide HLL).mono ?_
      rintro e w12 ⟨a, d, rfl, HU12, b12⟩
      have HB12 := hide b12
      clear b12 HLL
      go_wp2_with fail
      refine (unhide HU12).mono ?_
      rintro e w12' ⟨rfl, hw⟩
      have hw' := hw.symm
      subst hw'
      clear hw HU12
      go_wp2
      go_ret
      exact ⟨by simp, (unhide HB1).trans ((unhide HB12).mono (unhide HB1).size)⟩
end Rs
end Go.Proofs.YtohfhkdhccpoaaaGreatDoor
