/- Layer 10: the law MergeRefuses. -/
import Derived.Laws.Cover1
import Derived.Test.YtohfhkdhccpoaaaGreatDoorMr0
namespace Go.Proofs.YtohfhkdhccpoaaaGreatDoor
open Go.RowKit Go.Shelf
namespace Rs
open Sm (Tx ofS)
/-- the run 1 with a and b, the open run 2 -/
structure R2 (m : Sto) : Prop where
  one : look m.runs 1 = some ⟨1, [1, 97, 1, 98], true⟩
  two : look m.runs 2 = some ⟨2, [], false⟩
  ok : m.Ok
theorem R2.rea1 {m : Sto} (h : R2 m) : (rea m 1 0 0).2 = 0 := by unfold rea; rw [h.one]; rfl
theorem R2.rea2 {m : Sto} (h : R2 m) : (rea m 2 0 0).2 = 5 := by unfold rea; rw [h.two]; rfl
theorem R2.chk1 {m : Sto} (h : R2 m) : chk m [] [1, 1] = 12 := by
  rw [chk_go h.rea1 (by simp), chk_same h.rea1 (by simp)]
theorem R2.chk2 {m : Sto} (h : R2 m) : chk m [] [1, 2] = 5 := by
  rw [chk_go h.rea1 (by simp), chk_no (by rw [h.rea2]; decide), h.rea2]
theorem R2.chk3 {m : Sto} (h : R2 m) {k : Int} (hk : k < 0 ∨ (m.made : Int) < k) : chk m [] [1, k, 1] = 3 := by
  have e : (rea m k 0 0).2 = 3 := by
    have hl : look m.runs k = none := by
      unfold look
      refine List.find?_eq_none.2 fun r hr => ?_
      have := h.ok.nums r hr
      simp
      omega
    unfold rea
    rw [hl]
  rw [chk_go h.rea1 (by simp), chk_no (by rw [e]; decide), e]
theorem R2.more {m m' : Sto} {n : Nat} {X : List Tx} (h : R2 m) (hs : Sorted m m' n X) : R2 m' :=
  ⟨by rw [hs.runs]; exact look_more h.one, by rw [hs.runs]; exact look_more h.two, hs.ok⟩
abbrev ba : List Tx := [⟨#[98]⟩, ⟨#[97]⟩]
abbrev cc : List Tx := [⟨#[99]⟩]
theorem txs_ba (W : World) : Um.Txs (W.alloc (.cells #[.string ⟨#[98]⟩, .string ⟨#[97]⟩] 9)) (.slice (some ⟨W.heap.size, 0, none⟩) 2 2) ba := by
  refine ⟨_, 2, rfl, by simp, (fun h => by cases h), fun _ => ⟨W.heap.size, 0, rfl, by simp, fun j z hz => ?_⟩⟩
  rw [Nat.zero_add, World.cell?_alloc_at _ _ _ _ rfl]
  have hj := (List.getElem?_eq_some_iff.1 hz).1
  simp at hj
  match j, hj with
  | 0, _ => simp at hz; subst hz; rfl
  | 1, _ => simp at hz; subst hz; rfl
theorem txs_c (W : World) : Um.Txs (W.alloc (.cells #[.string ⟨#[99]⟩] 9)) (.slice (some ⟨W.heap.size, 0, none⟩) 1 1) cc := by
  refine ⟨_, 1, rfl, by simp, (fun h => by cases h), fun _ => ⟨W.heap.size, 0, rfl, by simp, fun j z hz => ?_⟩⟩
  rw [Nat.zero_add, World.cell?_alloc_at _ _ _ _ rfl]
  have hj := (List.getElem?_eq_some_iff.1 hz).1
  simp at hj
  match j, hj with
  | 0, _ => simp at hz; subst hz; rfl
theorem bel_al (W : World) (o : Obj) : Below W.heap.size W (W.alloc o) := (Below.refl _ W).alloc (Nat.le_refl _) o
theorem lit_new {W : World} {B : Nat} (n : Nat) (o : Obj) : ∀ a k c, (Value.slice (some ⟨W.heap.size, 0, none⟩) n n) = .slice (some a) k c → (a.block < B ∨ W.heap.size ≤ a.block) ∧ a.block < (W.alloc o).heap.size := fun a k c e => by
  injection e with e _ _
  injection e with e
  rw [← e]
  exact ⟨.inr (Nat.le_refl _), by simp⟩
/-- the first sort -/
theorem first10 {w wr : World} {E : Nat → Addr} {sb : Nat} (V : EnvZ w E w.heap.size) (h : Sep w [stoT sb (newS 50)] (fun _ => wr.heap.size) wr) :
    Calls Tryz.prog 15 #[.pointer (some ⟨sb, 0, none⟩), .int .i64 2, .int .i64 2, .slice (some ⟨wr.heap.size, 0, none⟩) 2 2] (wr.alloc (.cells #[.string ⟨#[98]⟩, .string ⟨#[97]⟩] 9)) fun e w' => e = .returned (.tuple #[.int .i64 1, .nilIface]) ∧ ∃ m, Sep w [stoT sb m] (fun _ => w'.heap.size) w' ∧ m.runs = [⟨1, [1, 97, 1, 98], true⟩] ∧ m.made = 1 ∧ m.ahead = 0 ∧ m.cap = 50 ∧ m.Ok := by
  refine (sep_sort (i := 0) (fan := 2) (b := 2) V (h.below (bel_al wr _)) rfl (txs_ba wr) (lit_new 2 _) (by decide) (by decide) (by decide) (by decide) (by decide) rfl (by decide) (by decide)).mono ?_
  rintro e w' ⟨m', n, rfl, hs, -, h5, r⟩
  have e5 := h5 (by simp) (by decide)
  have hm1 : m'.made = 1 := e5
  have hn : n = 1 := by rw [hs.hi]; exact hm1
  subst hn
  refine ⟨rfl, m', r, ?_, hm1, hs.ahead, hs.cap, hs.ok⟩
  rw [hs.runs, ofS_ba, frs_ab]
  rfl
/-- the second -/
theorem second10 {w wr : World} {E : Nat → Addr} {sb : Nat} {m : Sto} (V : EnvZ w E w.heap.size) (h : Sep w [stoT sb m] (fun _ => wr.heap.size) wr) (h2 : R2 m) (ha : m.ahead = 0) (hc : m.cap = 50) (ht : tot m.runs = 4) (hm : m.made = 2) (bl fan : Int) :
    Calls Tryz.prog 15 #[.pointer (some ⟨sb, 0, none⟩), .int .i64 bl, .int .i64 fan, .slice (some ⟨wr.heap.size, 0, none⟩) 1 1] (wr.alloc (.cells #[.string ⟨#[99]⟩] 9)) fun e w' => ∃ (n : Int) (c : Nat) (m' : Sto), e = .returned (.tuple #[.int .i64 n, errV E c]) ∧ Sep w [stoT sb m'] (fun _ => w'.heap.size) w' ∧ R2 m' ∧ (if (bl < 1 ∨ 65536 < bl) ∨ (fan < 2 ∨ 64 < fan) then c = 2 ∧ m'.runs.length = m.runs.length else c = 0) := by
  have hA := h.below (bel_al wr (.cells #[.string ⟨#[99]⟩] 9))
  have hV := (V.below hA.old)
  by_cases hb : bl < 1 ∨ 65536 < bl
  · refine (sort_buf hV bl fan _ hb).mono ?_
    rintro e w' ⟨rfl, b⟩
    refine ⟨0, 2, m, rfl, (hA.below b).reset, h2, ?_⟩
    rw [if_pos (.inl hb)]
    exact ⟨rfl, rfl⟩
  · obtain ⟨b, rfl⟩ : ∃ b : Nat, bl = b := ⟨bl.toNat, by omega⟩
    by_cases hf : fan < 2 ∨ 64 < fan
    · refine (sort_fan hV hA.old.size b (by omega) (by omega) fan _ hf).mono ?_
      rintro e w' ⟨rfl, b'⟩
      refine ⟨0, 2, m, rfl, (hA.below b').reset, h2, ?_⟩
      rw [if_pos (.inr hf)]
      exact ⟨rfl, rfl⟩
    · obtain ⟨f, rfl⟩ : ∃ f : Nat, fan = f := ⟨fan.toNat, by omega⟩
      have e1 : fz cc = 3 := by decide
      refine (sep_sort (i := 0) (fan := f) (b := b) V hA rfl (txs_c wr) (lit_new 1 _) (by decide) (by omega) (by omega) (by omega) (by omega) ha (by rw [ht, hc, e1]; decide) (by rw [hm]; decide)).mono ?_
      rintro e w' ⟨m', n, rfl, hs, -, -, r⟩
      refine ⟨n, 0, m', rfl, r, h2.more hs, ?_⟩
      rw [if_neg (by omega)]
theorem crt10 {m : Sto} (h : m.runs = [⟨1, [1, 97, 1, 98], true⟩]) (hm : m.made = 1) (ha : m.ahead = 0) (hc : m.cap = 50) (ok : m.Ok) : ∃ m2, crt m = ((2, 0), m2) ∧ R2 m2 ∧ m2.ahead = 0 ∧ m2.cap = 50 ∧ tot m2.runs = 4 ∧ m2.made = 2 ∧ m2.runs.length = 2 := by
  have e : crt m = ((2, 0), m.tick.newRun) := by
    unfold crt
    rw [if_neg (by omega), if_neg (by omega), hm]
    rfl
  have hr : m.tick.newRun.runs = [⟨1, [1, 97, 1, 98], true⟩, ⟨2, [], false⟩] := by
    show m.runs ++ [⟨m.made + 1, [], false⟩] = _
    rw [h, hm]
    rfl
  have okt : m.tick.Ok := ⟨ok.cap, ok.made, ok.used, ok.peak, ok.peakle, by show m.ahead - 1 ≤ _; omega, ok.sorted, ok.nums⟩
  have ok2 : m.tick.newRun.Ok := newRun_ok okt (by show m.made < _; omega)
  refine ⟨_, e, ⟨by rw [hr]; rfl, by rw [hr]; rfl, ok2⟩, ?_, hc, by rw [hr]; rfl, ?_, by rw [hr]; rfl⟩
  · show m.ahead - 1 = 0
    omega
  · show m.made + 1 = 2
    omega
/-- a run that is named twice -/
theorem twice10 {w wr : World} {E : Nat → Addr} {sb : Nat} {m : Sto} (V : EnvZ w E w.heap.size) (h : Sep w [stoT sb m] (fun _ => wr.heap.size) wr) (fan : Int) (l : List Int) (c : Nat) (hc : c ≠ 0) (hm : chk m [] l = c) (hk : ∀ k ∈ l, -9223372036854775808 ≤ k ∧ k ≤ 9223372036854775807) (hz : l.length ≤ 140737488351232) :
    Calls Tryz.prog 28 #[.pointer (some ⟨sb, 0, none⟩), .int .i64 fan, .slice (some ⟨wr.heap.size, 0, none⟩) l.length l.length] (wr.alloc (.cells (l.map (Value.int .i64)).toArray 3)) fun e w' => e = .returned (.tuple #[.int .i64 0, errV E (if fan < 2 ∨ 64 < fan then 2 else c)]) ∧ Sep w [stoT sb m] (fun _ => w'.heap.size) w' := by
  have hA := h.below (bel_al wr (.cells (l.map (Value.int .i64)).toArray 3))
  by_cases hf : fan < 2 ∨ 64 < fan
  · rw [if_pos hf]
    refine (merge_fan (V.below hA.old) fan _ hf).mono ?_
    rintro e w' ⟨rfl, b⟩
    exact ⟨rfl, (hA.below b).reset⟩
  · rw [if_neg hf]
    obtain ⟨f, rfl⟩ : ∃ f : Nat, fan = f := ⟨fan.toNat, by omega⟩
    refine (sep_chk (i := 0) V hA rfl (nums_new wr l) hk hz (by omega) (by omega) hm hc).mono ?_
    rintro e w' ⟨rfl, r⟩
    exact ⟨rfl, r.reset⟩
set_option maxRecDepth 100000 in
set_option maxHeartbeats 4000000 in
theorem refuses10 {w : World} {E : Nat → Addr} (V : EnvZ w E w.heap.size) (fan bl run : Int) (h1 : -9223372036854775808 ≤ fan) (h2 : fan ≤ 9223372036854775807) (h3 : -9223372036854775808 ≤ bl) (h4 : bl ≤ 9223372036854775807) (h5 : -9223372036854775808 ≤ run) (h6 : run ≤ 9223372036854775807) :
    Calls Tryz.prog 8 #[.int .i64 fan, .int .i64 bl, .int .i64 run] w fun e w' => e = .returned (.bool true) ∧ Below w.heap.size w w' := by
  have HM0 : Hid (∀ W v, Below w.heap.size w W → Calls Tryz.prog 28 #[.pointer none, .int .i64 fan, v] W fun e w' => e = .returned (.tuple #[.int .i64 0, errV E 1]) ∧ Below W.heap.size W w') := fun W v hW => merge_nil (V.below hW) fan v
  have HS0 : Hid (∀ W v, Below w.heap.size w W → Calls Tryz.prog 15 #[.pointer none, .int .i64 bl, .int .i64 fan, v] W fun e w' => e = .returned (.tuple #[.int .i64 0, errV E 1]) ∧ Below W.heap.size W w') := fun W v hW => sort_nil10 (V.below hW) bl fan v
  have HC : Hid (∀ W, Below w.heap.size w W → W.cell? ⟨0, 0, none⟩ = some (er E 1) ∧ W.cell? ⟨1, 0, none⟩ = some (er E 2) ∧ W.cell? ⟨2, 0, none⟩ = some (er E 12) ∧ W.cell? ⟨3, 0, none⟩ = some (er E 5) ∧ W.cell? ⟨4, 0, none⟩ = some (er E 3)) := fun W hW => ⟨(V.below hW).g.nil, (V.below hW).li, (V.below hW).sa, (V.below hW).op, (V.below hW).g.noRun⟩
  have hp : ∀ c, c ≠ 0 → errV E c = .iface 234 (.pointer (some (E c))) := fun c hc => by rw [errV_pos E hc]
  have n1 : ∀ (W : World) (a : Addr), (binOp .neq 38 (.iface 234 (.pointer (some a))) (.iface 234 (.pointer (some a)))).run Tryz.prog W = .ok (.bool false) W := neq_same10
  have n2 : ∀ (W : World) (a : Addr), (binOp .eql 38 (.iface 234 (.pointer (some a))) (.iface 234 (.pointer (some a)))).run Tryz.prog W = .ok (.bool true) W := fun W a => eq_same a
  have n3 : ∀ (W : World) (u : TypeId) (x : Value), (binOp .eql 38 .nilIface (.iface u x)).run Tryz.prog W = .ok (.bool false) W := eq_nil_er
  have HV := hide V
  unfold er at HC
  rw [hp 1 (by decide)] at HM0 HS0
  clear V
  go_enter Tryz.func8, Tryz.ntmps8
  go_wp2_with fail
  refine (unhide HM0 _ _ (bel_al w _)).mono ?_
  have b0 := bel_al w (.cells #[.int .i64 run] 3)
  generalize w.alloc _ = w0 at *
  rintro e w1 ⟨rfl, b1⟩
  have b1w : Below w.heap.size w w1 := b0.trans (b1.mono b0.size)
  obtain ⟨c1, -⟩ := unhide HC w1 b1w
  have HS1 := hide (unhide HS0 w1 (.slice none 0 0) b1w)
  have HB1 := hide b1w
  clear b0 b1 b1w HM0 HS0
  go_wp2_with (go_at_call 15; refine (unhide HS1).mono ?_; rintro e w2 ⟨rfl, b2⟩; have b2w := (unhide HB1).trans (b2.mono (unhide HB1).size); obtain ⟨k1, -⟩ := unhide HC w2 b2w; have HB2 := hide b2w; clear b2 b2w HS1 c1)
  have b2w := unhide HB2
  have V2 : EnvZ w2 E w2.heap.size := ((unhide HV).below b2w).over b2w.size
  obtain ⟨sb, hsb⟩ : ∃ sb, w2.heap.size = sb := ⟨_, rfl⟩
  have HC2 : Hid (∀ W, Below w2.heap.size w2 W → W.cell? ⟨1, 0, none⟩ = some (.iface 234 (.pointer (some (E 2)))) ∧ W.cell? ⟨2, 0, none⟩ = some (.iface 234 (.pointer (some (E 12)))) ∧ W.cell? ⟨3, 0, none⟩ = some (.iface 234 (.pointer (some (E 5)))) ∧ W.cell? ⟨4, 0, none⟩ = some (.iface 234 (.pointer (some (E 3))))) := fun W hW => (unhide HC W (b2w.trans (hW.mono b2w.size))).2
  have HN1 : Hid (Calls Tryz.prog 9 #[.int .i64 50] w2 fun e w3 => e = .returned (.pointer (some ⟨sb, 0, none⟩)) ∧ Sep w2 [stoT sb (newS 50)] (fun _ => w3.heap.size) w3) := by
    have q := sep_new (Sep.nil w2 (fun _ => w2.heap.size)) 50 (by decide) (by decide)
    rw [hsb] at q
    exact q
  have HF1 : Hid (∀ w3, Sep w2 [stoT sb (newS 50)] (fun _ => w3.heap.size) w3 → Calls Tryz.prog 15 #[.pointer (some ⟨sb, 0, none⟩), .int .i64 2, .int .i64 2, .slice (some ⟨w3.heap.size, 0, none⟩) 2 2] (w3.alloc (.cells #[.string ⟨#[98]⟩, .string ⟨#[97]⟩] 9)) fun e w' => e = .returned (.tuple #[.int .i64 1, .nilIface]) ∧ ∃ m, Sep w2 [stoT sb m] (fun _ => w'.heap.size) w' ∧ m.runs = [⟨1, [1, 97, 1, 98], true⟩] ∧ m.made = 1 ∧ m.ahead = 0 ∧ m.cap = 50 ∧ m.Ok) := fun w3 h => first10 V2 h
  have HV2 := hide V2
  clear b2w V2 HB1 HC HV k1
  go_wp2_with fail
  refine (unhide HN1).mono ?_
  rintro e w3 ⟨rfl, s3⟩
  have HF2 := hide (unhide HF1 w3 s3)
  clear s3 HN1 HF1
  go_wp2_with fail
  refine (unhide HF2).mono ?_
  rintro e w4 ⟨rfl, m1, s4, r1, r2, r3, r4, r5⟩
  obtain ⟨m2, c2, r2', a2, p2, t2, d2, l2⟩ := crt10 r1 r2 r3 r4 r5
  have HCR : Hid (Calls Tryz.prog 29 #[.pointer (some ⟨sb, 0, none⟩)] w4 fun e w' => e = .returned (.tuple #[.int .i64 2, .nilIface]) ∧ Sep w2 [stoT sb m2] (fun _ => w'.heap.size) w') := by
    have q := sep_create (i := 0) (unhide HV2) s4 rfl
    rw [c2] at q
    exact q
  obtain ⟨c1, hc1⟩ : ∃ c1, (if fan < 2 ∨ 64 < fan then 2 else 12) = c1 := ⟨_, rfl⟩
  have HTW : Hid (∀ w5, Sep w2 [stoT sb m2] (fun _ => w5.heap.size) w5 → Calls Tryz.prog 28 #[.pointer (some ⟨sb, 0, none⟩), .int .i64 fan, .slice (some ⟨w5.heap.size, 0, none⟩) 2 2] (w5.alloc (.cells #[.int .i64 1, .int .i64 1] 3)) fun e w' => e = .returned (.tuple #[.int .i64 0, errV E c1]) ∧ Sep w2 [stoT sb m2] (fun _ => w'.heap.size) w') := fun w5 h => by
    rw [← hc1]
    exact twice10 (unhide HV2) h fan [1, 1] 12 (by decide) r2'.chk1 (by simp) (by simp)
  have HSC : Hid (∀ w6, Sep w2 [stoT sb m2] (fun _ => w6.heap.size) w6 → Calls Tryz.prog 15 #[.pointer (some ⟨sb, 0, none⟩), .int .i64 bl, .int .i64 fan, .slice (some ⟨w6.heap.size, 0, none⟩) 1 1] (w6.alloc (.cells #[.string ⟨#[99]⟩] 9)) fun e w' => ∃ (n : Int) (c : Nat) (m' : Sto), e = .returned (.tuple #[.int .i64 n, errV E c]) ∧ Sep w2 [stoT sb m'] (fun _ => w'.heap.size) w' ∧ R2 m' ∧ (if (bl < 1 ∨ 65536 < bl) ∨ (fan < 2 ∨ 64 < fan) then c = 2 ∧ m'.runs.length = 2 else c = 0)) := fun w6 h => by
    have q := second10 (unhide HV2) h r2' a2 p2 t2 d2 bl fan
    rw [l2] at q
    exact q
  clear s4 r1 r2 r3 r4 r5 c2 r2' a2 p2 t2 d2 l2 HF2
  go_wp2_with fail
  refine (unhide HCR).mono ?_
  rintro e w5 ⟨rfl, s5⟩
  have HT5 := hide (unhide HTW w5 s5)
  clear s5 HCR HTW
  go_wp2_with fail
  refine (unhide HT5).mono ?_
  rintro e w6 ⟨rfl, s6⟩
  have HS6 := hide (unhide HSC w6 s6)
  clear s6 HT5 HSC
  go_wp2_with fail
  refine (unhide HS6).mono ?_
  rintro e w7 ⟨n3, c3, m3, rfl, s7, q3, hcnd⟩
  have HS7 := hide s7
  have HQ3 := hide q3
  obtain ⟨g2, g12, -⟩ := unhide HC2 w7 s7.old
  have HTX : Hid (∀ W, Sep w2 [stoT sb m3] (fun _ => W.heap.size) W → Calls Tryz.prog 18 #[.pointer (some ⟨sb, 0, none⟩), .int .i64 1] W fun e w' => e = .returned (.string ⟨#[1, 97, 1, 98]⟩) ∧ Sep w2 [stoT sb m3] (fun _ => w'.heap.size) w') := fun W h => (sep_text10 (i := 0) (n := 1) (unhide HV2) h rfl (by decide) (unhide HQ3).one).mono fun e w' hh => ⟨hh.1, hh.2.reset⟩
  clear s7 q3 HS6
  by_cases hfan : fan < 2 ∨ 64 < fan
  · rw [if_pos (.inr hfan)] at hcnd
    obtain ⟨rfl, hlen⟩ := hcnd
    rw [if_pos hfan] at hc1
    subst hc1
    rw [hp 2 (by decide)]
    have HLV : Hid (Calls Tryz.prog 20 #[.pointer (some ⟨sb, 0, none⟩)] w7 fun e w' => ∃ a c, e = .returned (.slice a 2 c) ∧ Sep w2 [stoT sb m3] (fun _ => w'.heap.size) w') := by
      have q := sep_live10 (i := 0) (unhide HS7) rfl
      rw [hlen] at q
      exact q.mono fun e w' ⟨a, c, hh, h2⟩ => ⟨a, c, hh, h2.reset⟩
    have hex : fan < 2 ∨ (¬ fan < 2 ∧ 64 < fan) := by omega
    clear hlen hfan
    rcases hex with e1 | ⟨e1, e2⟩
    all_goals
      go_wp2_with fail
      refine (unhide HLV).mono ?_
      rintro e w8 ⟨a8, c8, rfl, s8⟩
      have HT8 := hide (unhide HTX w8 s8)
      clear s8 HLV
      go_wp2_with fail
      refine (unhide HT8).mono ?_
      rintro e w9 ⟨rfl, s9⟩
      have HB9 := hide s9.old
      clear s9 HT8
      go_wp2
      go_ret
      exact ⟨by simp, (unhide HB2).trans ((unhide HB9).mono (unhide HB2).size)⟩
  · rw [if_neg hfan] at hc1
    subst hc1
    rw [hp 12 (by decide)]
    have f1 : ¬ fan < 2 := by omega
    have f2 : ¬ 64 < fan := by omega
    have HM5 : Hid (∀ W, Sep w2 [stoT sb m3] (fun _ => W.heap.size) W → Calls Tryz.prog 28 #[.pointer (some ⟨sb, 0, none⟩), .int .i64 fan, .slice (some ⟨W.heap.size, 0, none⟩) 2 2] (W.alloc (.cells #[.int .i64 1, .int .i64 2] 3)) fun e w' => e = .returned (.tuple #[.int .i64 0, .iface 234 (.pointer (some (E 5)))]) ∧ Sep w2 [stoT sb m3] (fun _ => w'.heap.size) w') := fun W h => by
      have q := twice10 (unhide HV2) h fan [1, 2] 5 (by decide) (unhide HQ3).chk2 (by simp) (by simp)
      rw [if_neg hfan, hp 5 (by decide)] at q
      exact q
    have HM3 : Hid (run < 0 ∨ (m3.made : Int) < run → ∀ W, Sep w2 [stoT sb m3] (fun _ => W.heap.size) W → Calls Tryz.prog 28 #[.pointer (some ⟨sb, 0, none⟩), .int .i64 fan, .slice (some ⟨W.heap.size, 0, none⟩) 3 3] (W.alloc (.cells #[.int .i64 1, .int .i64 run, .int .i64 1] 3)) fun e w' => e = .returned (.tuple #[.int .i64 0, .iface 234 (.pointer (some (E 3)))]) ∧ Sep w2 [stoT sb m3] (fun _ => w'.heap.size) w') := fun hr W h => by
      have q := twice10 (unhide HV2) h fan [1, run, 1] 3 (by decide) ((unhide HQ3).chk3 hr) (by simp; omega) (by simp)
      rw [if_neg hfan, hp 3 (by decide)] at q
      exact q
    have HMA : Hid (∀ W, Sep w2 [stoT sb m3] (fun _ => W.heap.size) W → Calls Tryz.prog 30 #[.pointer (some ⟨sb, 0, none⟩)] W fun e w' => e = .returned (.int .i64 m3.made) ∧ w' = W) := fun W h => sep_made (i := 0) h rfl
    have hex : (bl < 1 ∧ c3 = 2) ∨ ((¬ bl < 1 ∧ 65536 < bl) ∧ c3 = 2) ∨ ((¬ bl < 1 ∧ ¬ 65536 < bl) ∧ c3 = 0) := by
      by_cases hb : bl < 1 ∨ 65536 < bl
      · rw [if_pos (.inl hb)] at hcnd
        have := hcnd.1
        omega
      · rw [if_neg (by omega)] at hcnd
        omega
    have HM7 := hide (unhide HM5 w7 (unhide HS7))
    clear hcnd hfan HM5 HS7
    rcases hex with ⟨e1, rfl⟩ | ⟨⟨e1, e2⟩, rfl⟩ | ⟨⟨e1, e2⟩, rfl⟩
    case' inl => rw [hp 2 (by decide)]
    case' inr.inl => rw [hp 2 (by decide)]
    case' inr.inr => rw [errV_zero]
    all_goals
      go_wp2_with fail
      refine (unhide HM7).mono ?_
      rintro e w8 ⟨rfl, s8⟩
      obtain ⟨-, -, g5, -⟩ := unhide HC2 w8 s8.old
      have HT8 := hide (unhide HTX w8 s8)
      clear s8 HM7 g2 g12
      go_wp2_with fail
      refine (unhide HT8).mono ?_
      rintro e w9 ⟨rfl, s9⟩
      have HS9 := hide s9
      have HB9 := hide s9.old
      clear s9 HT8 g5
      by_cases hr0 : run < 0
      · have HM9 := hide (unhide HM3 (.inl hr0) w9 (unhide HS9))
        go_wp2_with fail
        refine (unhide HM9).mono ?_
        rintro e w10 ⟨rfl, s10⟩
        obtain ⟨-, -, -, g3⟩ := unhide HC2 w10 s10.old
        have HT10 := hide (unhide HTX w10 s10)
        clear s10 HM9
        go_wp2_with fail
        refine (unhide HT10).mono ?_
        rintro e w11 ⟨rfl, s11⟩
        have HB11 := hide s11.old
        clear s11 HT10
        go_wp2
        go_ret
        exact ⟨by simp, (unhide HB2).trans ((unhide HB11).mono (unhide HB2).size)⟩
      · have HA9 := hide (unhide HMA w9 (unhide HS9))
        by_cases hr1 : (m3.made : Int) < run
        · have HM9 := hide (unhide HM3 (.inr hr1) w9 (unhide HS9))
          go_wp2_with (go_at_call 30; refine (unhide HA9).mono ?_; rintro e w9' ⟨rfl, hw⟩; have hw' := hw.symm; subst hw'; clear hw)
          refine (unhide HM9).mono ?_
          rintro e w10 ⟨rfl, s10⟩
          obtain ⟨-, -, -, g3⟩ := unhide HC2 w10 s10.old
          have HT10 := hide (unhide HTX w10 s10)
          clear s10 HM9
          go_wp2_with fail
          refine (unhide HT10).mono ?_
          rintro e w11 ⟨rfl, s11⟩
          have HB11 := hide s11.old
          clear s11 HT10
          go_wp2
          go_ret
          exact ⟨by simp, (unhide HB2).trans ((unhide HB11).mono (unhide HB2).size)⟩
        · go_wp2_with (go_at_call 30; refine (unhide HA9).mono ?_; rintro e w9' ⟨rfl, hw⟩; have hw' := hw.symm; subst hw'; clear hw)
          go_ret
          exact ⟨by simp, (unhide HB2).trans ((unhide HB9).mono (unhide HB2).size)⟩
end Rs
end Go.Proofs.YtohfhkdhccpoaaaGreatDoor
