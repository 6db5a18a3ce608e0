/- Layer 5: RunsBreaks. -/
import Derived.Test.YtgmgnhkphlegpaaDoorPlA
import Derived.Test.YtgmgnhkphlegpaaDoorTw
import Derived.Test.YtgmgnhkphlegpaaDoorRk
namespace Go.Proofs.YtgmgnhkphlegpaaDoor
open Go.RowKit
namespace Rs
theorem two_new {w w1 : World} {E : Nat → Addr} {s1 : Nat} {m1 : Sto} (h : Sit w E s1 m1 w1) (c : Int) (h1 : -9223372036854775808 ≤ c) (h2 : c ≤ 9223372036854775807) :
    Calls Tryd.prog 9 #[.int .i64 c] w1 fun e w' => e = .returned (.pointer (some ⟨w1.heap.size, 0, none⟩)) ∧ Two w w'.heap.size s1 m1 w1.heap.size (newS c) w' := by
  obtain ⟨F, k1, k2, k3, k4⟩ := h
  refine (new_any c w1 h1 h2).mono ?_
  rintro e w' ⟨rfl, h3, h4, h5⟩
  refine ⟨rfl, F, _, at_below k1 h4, h3, fun b hb e => ?_, k3, fun b hb => ?_, h3.lt, k4.trans (h4.mono k4.size)⟩
  · have := k1.lt b hb
    omega
  · have := k4.size
    omega
theorem two_wakes {w wr : World} {E : Nat → Addr} {D s1 s2 : Nat} {m1 m2 : Sto} (V : Env w E w.heap.size) (h : Two w D s1 m1 s2 m2 wr) :
    Calls Tryd.prog 11 #[] wr fun e w' => e = .returned (.bool true) ∧ Two w w'.heap.size s1 m1 s2 m2 w' := by
  refine (wakes_any wr (V.below h.old).g).mono ?_
  rintro e w' ⟨rfl, hb⟩
  exact ⟨rfl, (h.below hb).swap.swap⟩
theorem two_break {w wr : World} {D s1 s2 : Nat} {m1 m2 : Sto} (h : Two w D s1 m1 s2 m2 wr) (n : Int) (hn : n ≤ 9223372036854775807) :
    Calls Tryd.prog 21 #[.pointer (some ⟨s1, 0, none⟩), .int .i64 n] wr fun e w' => e = .returned (.tuple #[]) ∧ Two w w'.heap.size s1 (m1.brk n) s2 m2 w' := by
  obtain ⟨F, G, h1, h2, h3, h4, h5, h6, h7⟩ := h
  refine (break_any h1 n hn).mono ?_
  rintro e w' ⟨rfl, r⟩
  exact ⟨rfl, (Two.res1 h2 h3 h4 h5 h6 h7 r).swap.swap⟩
theorem IntsN.mono {w : World} {v : Value} {K : List Int} {B B2 : Nat} (h : IntsN B w v K) (hB : B2 ≤ B) : IntsN B2 w v K := by
  refine ⟨h.1, fun h0 => ?_⟩
  obtain ⟨g, off, c, e, hg⟩ := h.2 h0
  exact ⟨g, off, c, e, Nat.le_trans hB hg⟩
theorem IntsN.slice {w : World} {v : Value} {K : List Int} {B : Nat} (h : IntsN B w v K) : ∃ a c, v = .slice a K.length c := by
  obtain ⟨⟨a, c, e, _⟩, _⟩ := h
  exact ⟨a, c, e⟩
theorem alloc2_heap (w : World) (o1 o2 : Obj) : ((w.alloc o1).alloc o2).heap[w.heap.size]? = some o1 ∧ ((w.alloc o1).alloc o2).heap[w.heap.size + 1]? = some o2 := by
  refine ⟨?_, ?_⟩
  · rw [Below.heap_alloc _ _ _ (by simp)]
    exact (MapKept.heap_alloc w o1).1
  · have := (MapKept.heap_alloc (w.alloc o1) o2).1
    simpa using this
theorem Ints.kept {w w' : World} {v : Value} {K : List Int} (h : Ints w v K) (hb : ∀ b, b < w.heap.size → w'.heap[b]? = w.heap[b]?) (hs : w.heap.size ≤ w'.heap.size) : Ints w' v K := by
  obtain ⟨ao, cap, e, hl, h2⟩ := h
  refine ⟨ao, cap, e, hl, fun h0 => ?_⟩
  obtain ⟨g, off, e1, hg, hc⟩ := h2 h0
  exact ⟨g, off, e1, Nat.lt_of_lt_of_le hg hs, fun j x hx => (World.cell?_of_block (a := ⟨g, off + j, none⟩) (hb g hg)).trans (hc j x hx)⟩
/-- both answers' lists, behind the second call -/
theorem two_lists {w3 W2 w5 W : World} {u v : Value} {K : List Int} {D B1 : Nat} (h1 : IntsN B1 w3 u K) (hD : D ≤ B1) (hb : Below w3.heap.size w3 W2) (hs : W2.heap.size = w3.heap.size + 2) (hk : ∀ b, D ≤ b → b < W2.heap.size → w5.heap[b]? = W2.heap[b]?) (hs5 : W2.heap.size ≤ w5.heap.size) (h2 : IntsN W2.heap.size w5 v K) (c : Chg (fun b => w3.heap.size ≤ b ∧ b < w3.heap.size + 2) w5 W) : Ints W u K ∧ Ints W v K := by
  refine ⟨?_, ?_⟩
  · refine (h1.keep (w' := W) (fun b x y => ?_) (by have := c.size; omega)).1
    rw [c.block b (by omega) (fun e => by omega), hk b (by omega) (by omega), hb.block b y]
  · exact (h2.keep (fun b x y => c.block b y fun e => by omega) c.size).1
theorem two_live1 {w wr W : World} {D s1 s2 : Nat} {m1 m2 : Sto} (h : Two w D s1 m1 s2 m2 wr) (hb : Below wr.heap.size wr W) :
    Calls Tryd.prog 18 #[.pointer (some ⟨s1, 0, none⟩)] W fun e w' => ∃ v, e = .returned v ∧ Ints w' v (nums m1.runs) ∧ Below W.heap.size W w' := by
  obtain ⟨F, G, h1, _⟩ := h.below hb
  refine (live_any h1).mono ?_
  rintro e w' ⟨v, rfl, ho, hbb⟩
  exact ⟨v, rfl, ints_own ho (by have := h1.ok.len; have := h1.ok.made; simp only [nums, List.length_map]; omega), hbb⟩
theorem two_live2 {w wr W : World} {D s1 s2 : Nat} {m1 m2 : Sto} (h : Two w D s1 m1 s2 m2 wr) (hb : Below wr.heap.size wr W) :
    Calls Tryd.prog 18 #[.pointer (some ⟨s2, 0, none⟩)] W fun e w' => ∃ v, e = .returned v ∧ Ints w' v (nums m2.runs) ∧ Below W.heap.size W w' := two_live1 h.swap hb
theorem two_used1 {w wr W : World} {D s1 s2 : Nat} {m1 m2 : Sto} (h : Two w D s1 m1 s2 m2 wr) (hb : Below wr.heap.size wr W) :
    Calls Tryd.prog 19 #[.pointer (some ⟨s1, 0, none⟩)] W fun e w' => e = .returned (.int .i64 (tot m1.runs)) ∧ w' = W := by
  obtain ⟨F, G, h1, _⟩ := h.below hb
  exact used_any h1
theorem two_used2 {w wr W : World} {D s1 s2 : Nat} {m1 m2 : Sto} (h : Two w D s1 m1 s2 m2 wr) (hb : Below wr.heap.size wr W) :
    Calls Tryd.prog 19 #[.pointer (some ⟨s2, 0, none⟩)] W fun e w' => e = .returned (.int .i64 (tot m2.runs)) ∧ w' = W := two_used1 h.swap hb
set_option maxRecDepth 100000 in
set_option maxHeartbeats 2000000 in
theorem breaks_law {w : World} {v : Value} {c n : Int} {os : List (Op5 × Value)} {E : Nat → Addr} (V : Env w E w.heap.size) (hs : Script w v os) (hc1 : -9223372036854775808 ≤ c) (hc2 : c ≤ 9223372036854775807) (hn1 : -9223372036854775808 ≤ n) (hn2 : n ≤ 9223372036854775807) :
    Calls Tryd.prog 8 #[.int .i64 c, .int .i64 n, v] w fun e w' => e = .returned (.bool true) ∧ Below w.heap.size w w' := by
  have HSN := hide (sit_new V.g c hc1 hc2)
  have HTN : Hid (∀ {w1 : World}, Sit w E w.heap.size (newS c) w1 → Calls Tryd.prog 9 #[.int .i64 c] w1 fun e w' => e = .returned (.pointer (some ⟨w1.heap.size, 0, none⟩)) ∧ Two w w'.heap.size w.heap.size (newS c) w1.heap.size (newS c) w') := fun h => two_new h c hc1 hc2
  have HSC := hide hs
  obtain ⟨ao, cap, rfl, hn, hok, hat⟩ := hs
  have HAT := hide hat
  have HOK := hide hok
  have HV := hide V
  obtain ⟨N, hN⟩ : ∃ N, N = os.length := ⟨_, rfl⟩
  have HN := hide hN
  rw [← hN] at hn ⊢
  clear hat hok hN V
  go_enter Tryd.func8, Tryd.ntmps8
  go_wp2_with (first | (go_at_call 9; refine (unhide HSN).mono ?_; clear HSN; rintro e w1 ⟨rfl, hb1⟩; have HS1 := hide hb1; clear hb1) | (go_at_call 9; refine (unhide HTN HS1).mono ?_; clear HTN; rintro e w2 ⟨rfl, hb2⟩; have HT := hide hb2; clear hb2) | (go_at_call 11; refine (two_wakes (unhide HV) (unhide HT)).mono ?_; clear HT; rintro e w3 ⟨rfl, hb3⟩; have HT := hide hb3; clear hb3) | (go_at_call 21; refine (two_break (unhide HT) n hn2).mono ?_; clear HT; rintro e w4 ⟨rfl, hb4⟩; have HT := hide hb4; clear hb4))
  go_loopw [9, 33] (fun s9 i wr => ∃ (k st : Nat) (m : Sto), k ≤ N ∧ st ≤ k ∧ i = .int .i64 k ∧ s9 = .int .i64 st ∧ Hid (m.ahead = 0) ∧ Hid ((st : Int) < n ∨ n ≤ 0) ∧ Hid (Two w wr.heap.size w.heap.size (m.wa (n - st).toNat) w1.heap.size m wr)) (fun _ i _ => N - (intOf i).toNat)
  case atStart =>
    refine ⟨0, 0, newS c, Nat.zero_le _, Nat.le_refl _, rfl, rfl, rfl, hide (by omega), ?_⟩
    have e : (newS c).wa (n - ((0 : Nat) : Int)).toNat = (newS c).brk n := by simp [Sto.wa, Sto.brk]
    rw [e]
    exact HT
  case round =>
    obtain ⟨k, st, m, hk, hst, rfl, rfl, HA, HSN2, HB⟩ := hrel
    clear HT
    by_cases hlt : k < N
    · have hltz : (k : Int) < (N : Int) := by omega
      have hk0 : 0 ≤ (k : Int) := by omega
      obtain ⟨p, hp⟩ : ∃ p, os[k]? = some p := ⟨_, List.getElem?_eq_getElem (by rw [← unhide HN]; exact hlt)⟩
      obtain ⟨g, off, rfl, hg, hc⟩ := unhide HAT (by rw [← unhide HN]; omega)
      have q := hc k p hp
      have hin := unhide HOK p (List.mem_of_getElem? hp)
      have l : ∀ o, wr.cell? ⟨g, o, none⟩ = w.cell? ⟨g, o, none⟩ := fun o => (unhide HB).old.cell (p := ⟨g, o, none⟩) hg
      have d0 := (l _).trans q.c0
      have d1 := (l _).trans q.c1
      have d2 := (l _).trans q.c2
      have d3 := (l _).trans q.c3
      have d4 := (l _).trans q.c4
      have HP1 : Hid (∀ W, Below wr.heap.size wr W → Calls Tryd.prog 12 #[.pointer (some ⟨w.heap.size, 0, none⟩), opV p.1 p.2] W fun e w' => ∃ lv, e = .returned (ansV (ply (m.wa (n - st).toNat) p.1).1 lv) ∧ Two w wr.heap.size w.heap.size (ply (m.wa (n - st).toNat) p.1).2 w1.heap.size m w' ∧ IntsN W.heap.size w' lv (ply (m.wa (n - st).toNat) p.1).1.l ∧ W.heap.size ≤ w'.heap.size ∧ ∀ b, wr.heap.size ≤ b → b < W.heap.size → w'.heap[b]? = W.heap[b]?) := fun W hb => two_play1 (unhide HV) (unhide HB) hb hin
      have HP2 : Hid (∀ {D s1 : Nat} {m1 : Sto} (w3 W : World), Two w D s1 m1 w1.heap.size m w3 → Below w3.heap.size w3 W → Calls Tryd.prog 12 #[.pointer (some ⟨w1.heap.size, 0, none⟩), opV p.1 p.2] W fun e w' => ∃ lv, e = .returned (ansV (ply m p.1).1 lv) ∧ (∀ W5, Chg (fun b => w3.heap.size ≤ b ∧ b < W.heap.size) w' W5 → Two w w'.heap.size s1 m1 w1.heap.size (ply m p.1).2 W5) ∧ IntsN W.heap.size w' lv (ply m p.1).1.l ∧ W.heap.size ≤ w'.heap.size ∧ ∀ b, D ≤ b → b < W.heap.size → w'.heap[b]? = W.heap[b]?) := fun w3 W h3 hb => two_play2 (unhide HV) h3 hb hin
      have HTW : Hid ((m.ahead = 0 → (n - st).toNat ≠ 1 → 1 ≤ p.1.kd → p.1.kd ≤ 3 → (ply m p.1).2.ahead = 0 ∧ ply (m.wa (n - st).toNat) p.1 = ((ply m p.1).1, (ply m p.1).2.wa ((n - st).toNat - 1))) ∧ (m.ahead = 0 → (p.1.kd < 1 ∨ 3 < p.1.kd) → p.1.kd ≠ 11 → (ply m p.1).2.ahead = 0 ∧ ply (m.wa (n - st).toNat) p.1 = ((ply m p.1).1, (ply m p.1).2.wa (n - st).toNat))) := ⟨fun h0 h1 h2 h3 => ply_step h0 h1 h2 h3, fun h0 h1 h2 => ply_stay h0 _ h1 h2⟩
      obtain ⟨pa, pc, epv, -, -⟩ := hin.st
      unfold opV ansV at HP1 HP2
      rw [epv] at HP1 HP2 d4
      generalize hkd : p.1.kd = kd at *
      generalize p.1.L.length = PL at *
      clear q hc l hin epv
      by_cases h11 : kd = 11
      · subst h11
        go_wp2
        refine ⟨⟨k + 1, st, m, by omega, by omega, by go_num, rfl, HA, HSN2, ?_⟩, by simp [intOf]; omega⟩
        exact (Two.below (unhide HB) (by (repeat (first | exact Below.refl _ _ | refine Below.drew ?_ | refine Below.alloc ?_ (by first | (simp; done) | (simp; omega)) _ | refine Below.setCell ?_ (by first | (simp; done) | (simp; omega)) _)))).swap.swap
      by_cases hr : 1 ≤ kd ∧ kd ≤ 3
      · obtain ⟨hr1, hr2⟩ := hr
        by_cases hb1 : (st : Int) + 1 = n
        · have HNE : (n - st).toNat = 1 := by omega
          rw [HNE, ply_break (by omega) (by omega)] at HP1
          have HSM : Hid (∀ {W : World} {u : Value}, Ints W u [] → Calls Tryd.prog 13 #[.agg #[.int .i64 0, .int .i64 9, .string (strB []), u], .agg #[.int .i64 0, .int .i64 9, .string (strB []), .slice none 0 0]] W fun e w' => e = .returned (.bool true) ∧ Below W.heap.size W w') := fun h1 => same_eq 0 9 (strB []) h1 (ints_nil _)
          clear HTW hkd hp HP2
          go_wp2_with (first | (go_at_call 12; refine (unhide HP1 _ (by (repeat (first | exact Below.refl _ _ | refine Below.drew ?_ | refine Below.alloc ?_ (by first | (simp; done) | (simp; omega)) _ | refine Below.setCell ?_ (by first | (simp; done) | (simp; omega)) _)))).mono ?_; clear HP1; rintro e w3 ⟨lv, rfl, ht3, hi3, hs3, hk3⟩; obtain ⟨la, lc, rfl⟩ := hi3.slice; obtain ⟨hcc, hff⟩ := cells_of hk3; have hz3 : wr.heap.size < w3.heap.size := (by simp at hs3; omega); have HT3 := hide ht3; have HI3 : Hid (∀ W, Ints W (.slice la ([] : List Int).length lc) []) := (fun W => (IntsN.nil (B := 0) hi3.1).1); clear ht3 hi3 hs3 hk3) | (go_at_call 13; refine (unhide HSM (unhide HI3 _)).mono ?_; rintro e w6 ⟨rfl, hb6⟩; have HB6 : Hid (Below w3.heap.size w3 w6) := (Below.trans (by (repeat (first | exact Below.refl _ _ | refine Below.drew ?_ | refine Below.alloc ?_ (by first | (simp; done) | (simp; omega)) _ | refine Below.setCell ?_ (by first | (simp; done) | (simp; omega)) _))) (hb6.mono (by first | (simp; done) | (simp; omega)))); clear hb6) | (go_at_call 18; refine (two_live1 (unhide HT3) (unhide HB6)).mono ?_; rintro e w7 ⟨v1, rfl, hi7, hb7⟩; have HI7 := hide hi7; have HB7 : Hid (Below w3.heap.size w3 w7) := ((unhide HB6).trans (hb7.mono (unhide HB6).size)); clear hi7 hb7 HB6) | (go_at_call 18; refine (two_live2 (unhide HT3) (unhide HB7)).mono ?_; rintro e w8 ⟨v2, rfl, hi8, hb8⟩; have HI8 : Hid (Ints w8 v1 (nums m.runs) ∧ Ints w8 v2 (nums m.runs)) := ⟨(unhide HI7).below hb8, hi8⟩; have HB8 : Hid (Below w3.heap.size w3 w8) := ((unhide HB7).trans (hb8.mono (unhide HB7).size)); clear hi8 hb8 HB7 HI7) | (go_at_call 17; refine (list_eq (unhide HI8).1 (unhide HI8).2).mono ?_; rintro e w9 ⟨rfl, hb9⟩; have HB9 : Hid (Below w3.heap.size w3 w9) := ((unhide HB8).trans (hb9.mono (unhide HB8).size)); clear hb9) | (go_at_call 19; refine (two_used1 (unhide HT3) (unhide HB9)).mono ?_; rintro e w10 ⟨rfl, rfl⟩; have HBB := HB9; clear HB9) | (go_at_call 19; refine (two_used2 (unhide HT3) (unhide HBB)).mono ?_; rintro e w11 ⟨rfl, rfl⟩))
          go_ret
          refine ⟨by simp [Sto.wa], ?_⟩
          have h3 := (unhide HT3).old
          exact h3.trans ((unhide HBB).mono h3.size)
        · have HNE : (n - st).toNat ≠ 1 := by have := unhide HSN2; omega
          obtain ⟨hra, hrp⟩ := (unhide HTW).1 (unhide HA) HNE hr1 hr2
          rw [hrp] at HP1
          have HRA := hide hra
          clear hrp hra HTW hkd hp
          generalize ply m p.1 = R at *
          obtain ⟨⟨rn, rc, rt, K⟩, rm⟩ := R
          dsimp only at HP1 HP2 HRA
          have HSM : Hid (∀ {W : World} {u v : Value}, Ints W u K → Ints W v K → Calls Tryd.prog 13 #[.agg #[.int .i64 rn, .int .i64 rc, .string (strB rt), u], .agg #[.int .i64 rn, .int .i64 rc, .string (strB rt), v]] W fun e w' => e = .returned (.bool true) ∧ Below W.heap.size W w') := fun h1 h2 => same_eq rn rc (strB rt) h1 h2
          go_wp2_with (first | (go_at_call 12; refine (unhide HP1 _ (by (repeat (first | exact Below.refl _ _ | refine Below.drew ?_ | refine Below.alloc ?_ (by first | (simp; done) | (simp; omega)) _ | refine Below.setCell ?_ (by first | (simp; done) | (simp; omega)) _)))).mono ?_; clear HP1; rintro e w3 ⟨lv, rfl, ht3, hi3, hs3, hk3⟩; obtain ⟨la, lc, rfl⟩ := hi3.slice; obtain ⟨hcc, hff⟩ := cells_of hk3; have hz3 : wr.heap.size < w3.heap.size := (by simp at hs3; omega); have HT3 := hide ht3; have HI3 := hide (IntsN.mono (B2 := wr.heap.size) hi3 (by simp)); clear ht3 hi3 hs3 hk3) | (go_at_call 12; refine (unhide HP2 _ _ HT3 (by (repeat (first | exact Below.refl _ _ | refine Below.drew ?_ | refine Below.alloc ?_ (by first | (simp; done) | (simp; omega)) _ | refine Below.setCell ?_ (by first | (simp; done) | (simp; omega)) _)))).mono ?_; clear HP2; rintro e w5 ⟨lv2, rfl, ht5, hi5, hs5, hk5⟩; obtain ⟨la2, lc2, rfl⟩ := hi5.slice; obtain ⟨p0, p1, p2, p3, pf⟩ := ans_cells ((hk5 w3.heap.size (by omega) (by simp; try omega)).trans (alloc2_heap _ _ _).1); obtain ⟨q0, q1, q2, q3, qf⟩ := ans_cells ((hk5 (w3.heap.size + 1) (by omega) (by simp; try omega)).trans (alloc2_heap _ _ _).2); have hz5 : w3.heap.size + 1 < w5.heap.size := (by simp at hs5; omega); have HT6 : Hid (∀ W, Chg (fun b => w3.heap.size ≤ b ∧ b < w3.heap.size + 2) w5 W → Two w w5.heap.size w.heap.size _ w1.heap.size rm W) := (fun W c => ht5 W (c.mono (fun b hb => ⟨hb.1, by simp; omega⟩))); have HL5 : Hid (∀ W, Chg (fun b => w3.heap.size ≤ b ∧ b < w3.heap.size + 2) w5 W → Ints W (.slice la K.length lc) K ∧ Ints W (.slice la2 K.length lc2) K) := (fun W c => two_lists (unhide HI3) (Nat.le_refl _) (by (repeat (first | exact Below.refl _ _ | refine Below.drew ?_ | refine Below.alloc ?_ (by first | (simp; done) | (simp; omega)) _ | refine Below.setCell ?_ (by first | (simp; done) | (simp; omega)) _))) (by simp) hk5 hs5 hi5 c); clear ht5 hi5 hs5 hk5) | (go_at_call 13; refine (unhide HSM (unhide HL5 _ (by (repeat (first | refine Chg.setCell ?_ (.inl (by constructor <;> (simp; try omega))) _ | refine Chg.alloc ?_ _ | refine Chg.drew ?_ | exact Chg.refl _ _)))).1 (unhide HL5 _ (by (repeat (first | refine Chg.setCell ?_ (.inl (by constructor <;> (simp; try omega))) _ | refine Chg.alloc ?_ _ | refine Chg.drew ?_ | exact Chg.refl _ _)))).2).mono ?_; rintro e w6 ⟨rfl, hb6⟩; have HB6 := hide hb6; clear hb6))
          refine ⟨⟨k + 1, st + 1, rm, by omega, by omega, by go_num, by go_num, HRA, hide (by have := unhide HSN2; omega), ?_⟩, by simp [intOf]; omega⟩
          have e1 : (n - ((st + 1 : Nat) : Int)).toNat = (n - st).toNat - 1 := by omega
          rw [e1]
          exact ((unhide HT6 _ (by (repeat (first | refine Chg.setCell ?_ (.inl (by constructor <;> (simp; try omega))) _ | refine Chg.alloc ?_ _ | refine Chg.drew ?_ | exact Chg.refl _ _)))).below (unhide HB6)).swap.swap
      · by_cases h1 : kd < 1
        · clear hr
          obtain ⟨hra, hrp⟩ := (unhide HTW).2 (unhide HA) (by omega) h11
          rw [hrp] at HP1
          have HRA := hide hra
          clear hrp hra HTW hkd hp
          generalize ply m p.1 = R at *
          obtain ⟨⟨rn, rc, rt, K⟩, rm⟩ := R
          dsimp only at HP1 HP2 HRA
          have HSM : Hid (∀ {W : World} {u v : Value}, Ints W u K → Ints W v K → Calls Tryd.prog 13 #[.agg #[.int .i64 rn, .int .i64 rc, .string (strB rt), u], .agg #[.int .i64 rn, .int .i64 rc, .string (strB rt), v]] W fun e w' => e = .returned (.bool true) ∧ Below W.heap.size W w') := fun h1 h2 => same_eq rn rc (strB rt) h1 h2
          go_wp2_with (first | (go_at_call 12; refine (unhide HP1 _ (by (repeat (first | exact Below.refl _ _ | refine Below.drew ?_ | refine Below.alloc ?_ (by first | (simp; done) | (simp; omega)) _ | refine Below.setCell ?_ (by first | (simp; done) | (simp; omega)) _)))).mono ?_; clear HP1; rintro e w3 ⟨lv, rfl, ht3, hi3, hs3, hk3⟩; obtain ⟨la, lc, rfl⟩ := hi3.slice; obtain ⟨hcc, hff⟩ := cells_of hk3; have hz3 : wr.heap.size < w3.heap.size := (by simp at hs3; omega); have HT3 := hide ht3; have HI3 := hide (IntsN.mono (B2 := wr.heap.size) hi3 (by simp)); clear ht3 hi3 hs3 hk3) | (go_at_call 12; refine (unhide HP2 _ _ HT3 (by (repeat (first | exact Below.refl _ _ | refine Below.drew ?_ | refine Below.alloc ?_ (by first | (simp; done) | (simp; omega)) _ | refine Below.setCell ?_ (by first | (simp; done) | (simp; omega)) _)))).mono ?_; clear HP2; rintro e w5 ⟨lv2, rfl, ht5, hi5, hs5, hk5⟩; obtain ⟨la2, lc2, rfl⟩ := hi5.slice; obtain ⟨p0, p1, p2, p3, pf⟩ := ans_cells ((hk5 w3.heap.size (by omega) (by simp; try omega)).trans (alloc2_heap _ _ _).1); obtain ⟨q0, q1, q2, q3, qf⟩ := ans_cells ((hk5 (w3.heap.size + 1) (by omega) (by simp; try omega)).trans (alloc2_heap _ _ _).2); have hz5 : w3.heap.size + 1 < w5.heap.size := (by simp at hs5; omega); have HT6 : Hid (∀ W, Chg (fun b => w3.heap.size ≤ b ∧ b < w3.heap.size + 2) w5 W → Two w w5.heap.size w.heap.size _ w1.heap.size rm W) := (fun W c => ht5 W (c.mono (fun b hb => ⟨hb.1, by simp; omega⟩))); have HL5 : Hid (∀ W, Chg (fun b => w3.heap.size ≤ b ∧ b < w3.heap.size + 2) w5 W → Ints W (.slice la K.length lc) K ∧ Ints W (.slice la2 K.length lc2) K) := (fun W c => two_lists (unhide HI3) (Nat.le_refl _) (by (repeat (first | exact Below.refl _ _ | refine Below.drew ?_ | refine Below.alloc ?_ (by first | (simp; done) | (simp; omega)) _ | refine Below.setCell ?_ (by first | (simp; done) | (simp; omega)) _))) (by simp) hk5 hs5 hi5 c); clear ht5 hi5 hs5 hk5) | (go_at_call 13; refine (unhide HSM (unhide HL5 _ (by (repeat (first | refine Chg.setCell ?_ (.inl (by constructor <;> (simp; try omega))) _ | refine Chg.alloc ?_ _ | refine Chg.drew ?_ | exact Chg.refl _ _)))).1 (unhide HL5 _ (by (repeat (first | refine Chg.setCell ?_ (.inl (by constructor <;> (simp; try omega))) _ | refine Chg.alloc ?_ _ | refine Chg.drew ?_ | exact Chg.refl _ _)))).2).mono ?_; rintro e w6 ⟨rfl, hb6⟩; have HB6 := hide hb6; clear hb6))
          refine ⟨⟨k + 1, st, rm, by omega, by omega, by go_num, rfl, HRA, HSN2, ?_⟩, by simp [intOf]; omega⟩
          exact ((unhide HT6 _ (by (repeat (first | refine Chg.setCell ?_ (.inl (by constructor <;> (simp; try omega))) _ | refine Chg.alloc ?_ _ | refine Chg.drew ?_ | exact Chg.refl _ _)))).below (unhide HB6)).swap.swap
        · have h2 : ¬ kd ≤ 3 := fun h2 => hr ⟨by omega, h2⟩
          clear hr
          obtain ⟨hra, hrp⟩ := (unhide HTW).2 (unhide HA) (by omega) h11
          rw [hrp] at HP1
          have HRA := hide hra
          clear hrp hra HTW hkd hp
          generalize ply m p.1 = R at *
          obtain ⟨⟨rn, rc, rt, K⟩, rm⟩ := R
          dsimp only at HP1 HP2 HRA
          have HSM : Hid (∀ {W : World} {u v : Value}, Ints W u K → Ints W v K → Calls Tryd.prog 13 #[.agg #[.int .i64 rn, .int .i64 rc, .string (strB rt), u], .agg #[.int .i64 rn, .int .i64 rc, .string (strB rt), v]] W fun e w' => e = .returned (.bool true) ∧ Below W.heap.size W w') := fun h1 h2 => same_eq rn rc (strB rt) h1 h2
          go_wp2_with (first | (go_at_call 12; refine (unhide HP1 _ (by (repeat (first | exact Below.refl _ _ | refine Below.drew ?_ | refine Below.alloc ?_ (by first | (simp; done) | (simp; omega)) _ | refine Below.setCell ?_ (by first | (simp; done) | (simp; omega)) _)))).mono ?_; clear HP1; rintro e w3 ⟨lv, rfl, ht3, hi3, hs3, hk3⟩; obtain ⟨la, lc, rfl⟩ := hi3.slice; obtain ⟨hcc, hff⟩ := cells_of hk3; have hz3 : wr.heap.size < w3.heap.size := (by simp at hs3; omega); have HT3 := hide ht3; have HI3 := hide (IntsN.mono (B2 := wr.heap.size) hi3 (by simp)); clear ht3 hi3 hs3 hk3) | (go_at_call 12; refine (unhide HP2 _ _ HT3 (by (repeat (first | exact Below.refl _ _ | refine Below.drew ?_ | refine Below.alloc ?_ (by first | (simp; done) | (simp; omega)) _ | refine Below.setCell ?_ (by first | (simp; done) | (simp; omega)) _)))).mono ?_; clear HP2; rintro e w5 ⟨lv2, rfl, ht5, hi5, hs5, hk5⟩; obtain ⟨la2, lc2, rfl⟩ := hi5.slice; obtain ⟨p0, p1, p2, p3, pf⟩ := ans_cells ((hk5 w3.heap.size (by omega) (by simp; try omega)).trans (alloc2_heap _ _ _).1); obtain ⟨q0, q1, q2, q3, qf⟩ := ans_cells ((hk5 (w3.heap.size + 1) (by omega) (by simp; try omega)).trans (alloc2_heap _ _ _).2); have hz5 : w3.heap.size + 1 < w5.heap.size := (by simp at hs5; omega); have HT6 : Hid (∀ W, Chg (fun b => w3.heap.size ≤ b ∧ b < w3.heap.size + 2) w5 W → Two w w5.heap.size w.heap.size _ w1.heap.size rm W) := (fun W c => ht5 W (c.mono (fun b hb => ⟨hb.1, by simp; omega⟩))); have HL5 : Hid (∀ W, Chg (fun b => w3.heap.size ≤ b ∧ b < w3.heap.size + 2) w5 W → Ints W (.slice la K.length lc) K ∧ Ints W (.slice la2 K.length lc2) K) := (fun W c => two_lists (unhide HI3) (Nat.le_refl _) (by (repeat (first | exact Below.refl _ _ | refine Below.drew ?_ | refine Below.alloc ?_ (by first | (simp; done) | (simp; omega)) _ | refine Below.setCell ?_ (by first | (simp; done) | (simp; omega)) _))) (by simp) hk5 hs5 hi5 c); clear ht5 hi5 hs5 hk5) | (go_at_call 13; refine (unhide HSM (unhide HL5 _ (by (repeat (first | refine Chg.setCell ?_ (.inl (by constructor <;> (simp; try omega))) _ | refine Chg.alloc ?_ _ | refine Chg.drew ?_ | exact Chg.refl _ _)))).1 (unhide HL5 _ (by (repeat (first | refine Chg.setCell ?_ (.inl (by constructor <;> (simp; try omega))) _ | refine Chg.alloc ?_ _ | refine Chg.drew ?_ | exact Chg.refl _ _)))).2).mono ?_; rintro e w6 ⟨rfl, hb6⟩; have HB6 := hide hb6; clear hb6))
          refine ⟨⟨k + 1, st, rm, by omega, by omega, by go_num, rfl, HRA, HSN2, ?_⟩, by simp [intOf]; omega⟩
          exact ((unhide HT6 _ (by (repeat (first | refine Chg.setCell ?_ (.inl (by constructor <;> (simp; try omega))) _ | refine Chg.alloc ?_ _ | refine Chg.drew ?_ | exact Chg.refl _ _)))).below (unhide HB6)).swap.swap
    · have hltz : ¬ (k : Int) < (N : Int) := by omega
      go_wp2
      go_ret
      exact ⟨rfl, (unhide HB).old⟩
end Rs
end Go.Proofs.YtgmgnhkphlegpaaDoor
