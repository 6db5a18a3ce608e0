/- Layer 9: write: a batch becomes a run. -/
import Derived.Test.YtigffjbefbndnaaDoorFf
import Derived.Deep.RegionLaw
namespace Go.Proofs.YtigffjbefbndnaaDoor
open Go.RowKit
namespace Rs
open Sm (Tx ofS)
theorem crt_le (m : Sto) : (crt m).1.2 ≤ 9 := by
  unfold crt
  split
  · simp
  · split <;> simp
theorem app_le9 (m : Sto) (k : Int) (L : List ByteArray) : (app m k L).1 ≤ 9 := by
  unfold app
  split
  · exact Nat.le_refl _
  · split
    · simp
    · split
      · simp
      · split <;> simp
theorem sel_le9 (m : Sto) (k : Int) : (sel m k).1 ≤ 9 := by
  unfold sel
  split
  · exact Nat.le_refl _
  · split
    · simp
    · split <;> simp
theorem puts_le9 : ∀ (n : Nat) (k : Int) (bs : Nat) (m : Sto) (T : List UInt8), T.length ≤ n → 1 ≤ bs → (wputs k bs m T).1 ≤ 9 := by
  intro n
  induction n with
  | zero =>
    intro k bs m T hT h1
    rw [wputs_stop (by omega)]
    simp
  | succ n ih =>
    intro k bs m T hT h1
    by_cases hl : T.length < bs
    · rw [wputs_stop hl]; simp
    · by_cases h0 : (app m k [strB (T.take bs)]).1 = 0
      · rw [wputs_go h1 hl h0]
        exact ih k bs _ _ (by rw [List.length_drop]; omega) h1
      · rw [wputs_no h1 hl h0]
        exact app_le9 _ _ _
theorem clo_le9 (k : Int) (m : Sto) (buf : List UInt8) : (wclo k m buf).1 ≤ 9 := by
  unfold wclo
  split
  · exact sel_le9 _ _
  · split
    · exact sel_le9 _ _
    · exact app_le9 _ _ _
theorem fwr_a {m m2 : Sto} {f : For} {c : Nat} (h : crt m = ((0, c), m2)) (hc : c ≠ 0) : fwr m f = (c, remAll m2 f.made, f.die c) := by
  have e : bat m (ofS f.buf) = (c, m2, 0) := by unfold bat; rw [h, if_pos hc]
  unfold fwr
  rw [e, if_neg hc]
theorem bat_b {m m1 : Sto} {n : Nat} {L : List Tx} (h : crt m = (((n : Int), 0), m1)) (hn : n = m.made + 1) : bat m L = batN n m1 L := by
  unfold bat
  rw [h, if_neg (by simp), ← hn]
theorem fwr_b {m m1 m2 : Sto} {f : For} {n c : Nat} (h : crt m = (((n : Int), 0), m1)) (hn : n = m.made + 1) (hp : (wputs n 512 m1 (Um.frs (Um.rl (ofS f.buf)))).1 = c) (hp2 : (wputs n 512 m1 (Um.frs (Um.rl (ofS f.buf)))).2.1 = m2) (hc : c ≠ 0) : fwr m f = (c, remAll (rem m2 n).2 f.made, f.die c) := by
  have e : bat m (ofS f.buf) = (c, (rem m2 n).2, 0) := by
    rw [bat_b h hn]
    unfold batN
    rw [hp, hp2, if_pos hc]
  unfold fwr
  rw [e, if_neg hc]
theorem fwr_c {m m1 m2 m3 : Sto} {f : For} {n c : Nat} {rest : List UInt8} (h : crt m = (((n : Int), 0), m1)) (hn : n = m.made + 1) (hp : wputs n 512 m1 (Um.frs (Um.rl (ofS f.buf))) = (0, m2, rest)) (hq : wclo n m2 rest = (c, m3)) (hc : c ≠ 0) : fwr m f = (c, remAll (rem m3 n).2 f.made, f.die c) := by
  have e : bat m (ofS f.buf) = (c, (rem m3 n).2, 0) := by
    rw [bat_b h hn]
    unfold batN
    rw [hp, if_neg (by simp), hq, if_pos hc]
  unfold fwr
  rw [e, if_neg hc]
theorem fwr_d {m m1 m2 m3 : Sto} {f : For} {n : Nat} {rest : List UInt8} (h : crt m = (((n : Int), 0), m1)) (hn : n = m.made + 1) (hp : wputs n 512 m1 (Um.frs (Um.rl (ofS f.buf))) = (0, m2, rest)) (hq : wclo n m2 rest = (0, m3)) : fwr m f = (0, m3, f.wrote n) := by
  have e : bat m (ofS f.buf) = (0, m3, n) := by
    rw [bat_b h hn]
    unfold batN
    rw [hp, if_neg (by simp), hq, if_neg (by simp)]
  unfold fwr
  rw [e, if_pos rfl]
theorem txs_lit1 (W : World) (x : Tx) : Um.Txs (W.alloc (.cells #[.string x] 9)) (.slice (some ⟨W.heap.size, 0, none⟩) 1 1) [x] := by
  refine ⟨_, 1, rfl, by simp, (fun h => by cases h), fun _ => ⟨W.heap.size, 0, rfl, by simp, fun j z hz => ?_⟩⟩
  rw [Nat.zero_add, World.cell?_alloc_at _ _ _ _ rfl]
  have hj := (List.getElem?_eq_some_iff.1 hz).1
  simp at hj
  subst hj
  simp at hz; subst hz; rfl
theorem rl_take {L : List Tx} {k : Nat} {x : Tx} (h : L[k]? = some x) : Um.frs (Um.rl (L.take (k + 1))) = Um.frs (Um.rl (L.take k)) ++ Um.frs (Um.rl [x]) := by
  have hk := (List.getElem?_eq_some_iff.1 h).1
  rw [List.take_succ_eq_append_getElem hk, (List.getElem?_eq_some_iff.1 h).2, Um.rl, List.map_append, Um.frs_app]
  rfl
theorem rl_split (L : List Tx) (k : Nat) : Um.frs (Um.rl L) = Um.frs (Um.rl (L.take k)) ++ Um.frs (Um.rl (L.drop k)) := by
  conv => lhs; rw [← List.take_append_drop k L, Um.rl, List.map_append, Um.frs_app]
  rfl
/-- the end of a region that has one -/
def One (A : Act) (W : World) (e : Exit) (a : Act) (w : World) : Prop := e = .normal ∧ a = A ∧ w = W
theorem one_intro {A : Act} {W : World} : NoPanic (One A W) .normal A W := ⟨rfl, rfl, rfl⟩
theorem wp_one {P : Program} {c : Code} {Q : Exit → Act → World → Prop} {a A : Act} {w W : World} (h : c.wp P (NoPanic (One A W)) a w) (hQ : Q .normal A W) : c.wp P Q a w :=
  Code.wp_mono (fun e a w hh => by
    have h2 := NoPanic.imp e a w hh
    obtain ⟨rfl, rfl, rfl⟩ := h2
    exact hQ) h
theorem gen_d {P : Program} {f : Func} {R : Ending → World → Prop} {e : Exit} {a : Act} {W : World} (h : ∀ V, V = W → bodyPostD P f R e a V) : bodyPostD P f R e a W := h W rfl
theorem results_err {fn : Func} (h : fn.results = #[.cell 2 30]) {tmps : Array Value} {w : World} {a : Addr} {v : Value} (hp : tmps.getD 2 undef = .pointer (some a)) (hc : w.cell? a = some v) : (results fn tmps).run Tryd.prog w = .ok v w := by
  have hp2 : tmps[2]?.getD undef = .pointer (some a) := by simpa using hp
  simp [results, h, hp2, go_sem, hc]
theorem crt_num {m m1 : Sto} {n : Int} (h : crt m = ((n, 0), m1)) : n = ((m.made + 1 : Nat) : Int) ∧ m.made + 1 ≤ 16777216 := by
  unfold crt at h
  split at h
  · injection h with h _; injection h with _ h; cases h
  · split at h
    · injection h with h _; injection h with _ h; cases h
    · injection h with h _; injection h with h _; exact ⟨h.symm, by omega⟩
set_option maxRecDepth 100000 in
set_option maxHeartbeats 4000000 in
theorem write_any {w : World} {E : Nat → Addr} {B : Nat} {F G : Nat → Prop} {sb fb : Nat} {m : Sto} {f : For} {bv mv : Value} (K : Bg w E B F G) (h : At w sb m F) (hf : FIn w sb fb f G bv mv) (hd : ∀ b, F b → ¬ G b) (ok : f.Ok m) (hne : 0 < f.buf.length) (hbl : f.buf.length ≤ 65536) :
    Calls Tryd.prog 24 #[.pointer (some ⟨fb, 0, none⟩)] w fun e w' => e = .returned (errV E (fwr m f).1) ∧ FRes F G w E sb fb (fwr m f).2.1 (fwr m f).2.2 w' := by
  have hmf : ∀ (fn : Fn) (first cap : Array Value) (w : World), (Instr.makeFunc fn first cap).run Tryd.prog w = .ok (.func fn first cap) w := fun _ _ _ _ => rfl
  have HML : Hid (f.made.length ≤ 16777216) := Nat.le_trans ok.made h.ok.made
  have HMN : Hid (∀ n ∈ f.made, n ≤ 16777216) := fun n hn => Nat.le_trans (ok.nums n hn) h.ok.made
  have HLV := hide ok.live
  obtain ⟨eb, heb⟩ : ∃ eb, eb = w.heap.size := ⟨_, rfl⟩
  have HB0 := hide (Bw.start h hf hd heb)
  have HK := hide K
  obtain ⟨g, N, cap, hbv⟩ : ∃ g N cap, bv = .slice (some ⟨g, 0, none⟩) N cap := by
    rcases hf.row.2 with ⟨_, e⟩ | ⟨g, cap, cur, e, _⟩
    · omega
    · exact ⟨g, _, cap, e⟩
  subst hbv
  obtain ⟨L, hL⟩ : ∃ L, ofS f.buf = L := ⟨_, rfl⟩
  have HSH : Hid (∀ x ∈ L, x.size ≤ 255) := fun x hx => ok.short x (Sm.ofS_mem.1 (hL ▸ hx))
  have HSO : Hid (∀ {W : World} {F' : Nat → Prop}, Bw w W F G sb fb eb f f.buf (.slice (some ⟨g, 0, none⟩) N cap) mv .nilIface (.pointer none) m F' → Calls Tryd.prog 36 #[.slice (some ⟨g, 0, none⟩) N cap] W fun e w' => e = .returned (.tuple #[]) ∧ Bw w w' F G sb fb eb f (srt f.buf) (.slice (some ⟨g, 0, none⟩) N cap) mv .nilIface (.pointer none) m F') := fun {W F'} hW => by
    refine (sort_tx hW.row (by omega)).mono ?_
    rintro e w' ⟨rfl, h2, h3⟩
    exact ⟨rfl, hW.sorted h2 (srt_len _) h3 hW.apart.2.2⟩
  have HCO : Hid (∀ {W : World} {F' : Nat → Prop}, Bw w W F G sb fb eb f (srt f.buf) (.slice (some ⟨g, 0, none⟩) N cap) mv .nilIface (.pointer none) m F' → Calls Tryd.prog 37 #[.slice (some ⟨g, 0, none⟩) N cap] W fun e w' => e = .returned (.slice (some ⟨g, 0, none⟩) L.length cap) ∧ ∃ T, Bw w w' F G sb fb eb f (L ++ T) (.slice (some ⟨g, 0, none⟩) N cap) mv .nilIface (.pointer none) m F') := fun {W F'} hW => by
    refine (compact_tx hW.row (by rw [srt_len]; omega)).mono ?_
    rintro e w' ⟨v', rfl, -, h3, T, h4, h5, h6⟩
    obtain ⟨a, c, e1, e2⟩ := h6 (by rw [srt_len]; exact hne)
    injection e1 with e1 _ e3
    subst e1 e3
    rw [compact_srt, hL] at h4 h5 e2
    exact ⟨by rw [e2], T, hW.sorted h5 (by rw [h4, srt_len]) h3 hW.apart.2.2⟩
  have hLL : L.length ≤ 65536 := by rw [← hL]; have := Sm.ofS_len f.buf; omega
  have HL := hide hL
  have HDN : Hid (∀ {W : World} {A2 : List Tx} {b2 m2 wv : Value} {mm : Sto} {F2 : Nat → Prop} {f2 : For}, Bw w W F G sb fb eb f2 A2 b2 m2 .nilIface wv mm F2 → W.cell? ⟨eb + 1, 0, none⟩ = some .nilIface) := fun hW => hW.cells.2.1
  obtain ⟨c0, m1, hcr⟩ : ∃ c0 m1, crt m = (c0, m1) := ⟨_, _, rfl⟩
  obtain ⟨q0, q1⟩ := made_crt m
  rw [hcr] at q0 q1
  obtain ⟨n0, c⟩ := c0
  have hc9 : c ≤ 9 := by have := crt_le m; rw [hcr] at this; exact this
  have hfsz : N ≤ 65536 := by
    rcases hf.row.2 with ⟨_, e⟩ | ⟨g, cap, cur, e, _⟩
    · omega
    · injection e with _ e _; omega
  obtain ⟨cF, mF, fF, hfw⟩ : ∃ cF mF fF, fwr m f = (cF, mF, fF) := ⟨_, _, _, rfl⟩
  rw [hfw]
  show Calls _ _ _ _ fun e w' => e = .returned (errV E cF) ∧ FRes F G w E sb fb mF fF w'
  have hmade := ok.made
  obtain ⟨x0, x1, x2, x3, x4, xf⟩ := fcells (unhide HB0).sto
  have HEB := hide heb
  by_cases hc : c = 0
  · subst hc
    obtain ⟨en, hn6⟩ := crt_num hcr
    obtain ⟨n, hn⟩ : ∃ n, n = m.made + 1 := ⟨_, rfl⟩
    rw [← hn] at en hn6
    subst en
    have HFB : Hid (∀ {c m2}, (wputs n 512 m1 (Um.frs (Um.rl L))).1 = c → (wputs n 512 m1 (Um.frs (Um.rl L))).2.1 = m2 → c ≠ 0 → cF = c ∧ mF = remAll (rem m2 n).2 f.made ∧ fF = f.die c) := fun {c m2} e1 e2 e3 => by
      have q := fwr_b (f := f) (c := c) (m2 := m2) hcr hn (by rw [hL]; exact e1) (by rw [hL]; exact e2) e3
      rw [hfw] at q
      simpa using q
    have HFC : Hid (∀ {m2 rest c m3}, wputs n 512 m1 (Um.frs (Um.rl L)) = (0, m2, rest) → wclo n m2 rest = (c, m3) → c ≠ 0 → cF = c ∧ mF = remAll (rem m3 n).2 f.made ∧ fF = f.die c) := fun {m2 rest c m3} e1 e2 e3 => by
      have q := fwr_c (f := f) hcr hn (by rw [hL]; exact e1) e2 e3
      rw [hfw] at q
      simpa using q
    have HFD : Hid (∀ {m2 rest m3}, wputs n 512 m1 (Um.frs (Um.rl L)) = (0, m2, rest) → wclo n m2 rest = (0, m3) → cF = 0 ∧ mF = m3 ∧ fF = f.wrote n) := fun {m2 rest m3} e1 e2 => by
      have q := fwr_d (f := f) hcr hn (by rw [hL]; exact e1) e2
      rw [hfw] at q
      simpa using q
    have HOP : Hid (∀ {W : World} {T : List Tx} {F' : Nat → Prop}, Bw w W F G sb fb eb f (L ++ T) (.slice (some ⟨g, 0, none⟩) N cap) mv .nilIface (.pointer none) m F' → Calls Tryd.prog 38 #[.pointer (some ⟨sb, 0, none⟩), .int .i64 512] W fun e w' => ∃ wb, e = .returned (.tuple #[.pointer (some ⟨wb, 0, none⟩), .nilIface]) ∧ (∃ F2, Bw w w' F G sb fb eb f (L ++ T) (.slice (some ⟨g, 0, none⟩) N cap) mv .nilIface (.pointer none) m1 F2) ∧ Bx w ((w'.setCell ⟨eb + 2, 0, none⟩ (.pointer (some ⟨wb, 0, none⟩))).setCell ⟨eb + 1, 0, none⟩ .nilIface) E F G sb fb eb wb f (L ++ T) (.slice (some ⟨g, 0, none⟩) N cap) mv .nilIface m1 ⟨n, 512, [], 0⟩) := fun hW => bw_open_go (unhide HK) hW hcr
    have HPU : Hid (∀ {W : World} {T : List Tx} {wb : Nat} {mk m' : Sto} {rk rest : List UInt8} {c k : Nat} {x : Tx}, L[k]? = some x → Bx w W E F G sb fb eb wb f (L ++ T) (.slice (some ⟨g, 0, none⟩) N cap) mv .nilIface mk ⟨n, 512, rk, 0⟩ → wputs n 512 mk (rk ++ Um.frs (Um.rl [x])) = (c, m', rest) → Calls Tryd.prog 39 #[.pointer (some ⟨wb, 0, none⟩), .slice (some ⟨W.heap.size, 0, none⟩) 1 1] (W.alloc (.cells #[.string x] 9)) fun e w' => e = .returned (errV E c) ∧ Bx w w' E F G sb fb eb wb f (L ++ T) (.slice (some ⟨g, 0, none⟩) N cap) mv .nilIface m' (putX ⟨n, 512, rk, 0⟩ c rest)) := fun {W T wb mk m' rk rest c k x} hx hW hP =>
      bx_put (unhide HK) (hW.below ((Below.refl _ W).alloc (Nat.le_refl _) _)) rfl hn6 (txs_lit1 W x) (unhide HSH x (List.mem_of_getElem? hx)) (hide hP)
    have HDX : Hid (∀ {W : World} {T : List Tx} {wb : Nat} {mm : Sto} {x : Wri} {c : Nat} (u : FrameMode), x.run = n → c ≠ 0 → c ≤ 9 → Bx w W E F G sb fb eb wb f (L ++ T) (.slice (some ⟨g, 0, none⟩) N cap) mv (er E c) mm x → CallsD Tryd.prog 33 #[.pointer (some ⟨eb + 1, 0, none⟩), .pointer (some ⟨eb + 2, 0, none⟩), .pointer (some ⟨eb, 0, none⟩)] u W fun e u' w' => u' = u ∧ (e = .returned (.tuple #[]) ∧ w'.cell? ⟨eb + 1, 0, none⟩ = some (er E c) ∧ FRes F G w E sb fb (remAll (rem mm n).2 f.made) (f.die c) w')) := fun {W T wb mm x c} u hr hc hc9 hW => by
      obtain ⟨F', hB⟩ := hW.bw
      have q := bx_drop (unhide HK) hW (by rw [hr]; exact hn6)
      rw [hr] at q
      exact clos_err (unhide HK).V (unhide HK).hF (unhide HK).hG (unhide HK).hB hB q (unhide HMN) (unhide HML) hc (by omega) u
    have HCG : Hid (∀ {W : World} {T : List Tx} {wb : Nat} {mk m3 : Sto} {rk : List UInt8}, Bx w W E F G sb fb eb wb f (L ++ T) (.slice (some ⟨g, 0, none⟩) N cap) mv .nilIface mk ⟨n, 512, rk, 0⟩ → wclo n mk rk = (0, m3) → Calls Tryd.prog 40 #[.pointer (some ⟨wb, 0, none⟩)] W fun e w' => e = .returned (.tuple #[.int .i64 n, .nilIface]) ∧ ∃ F2, Bw w w' F G sb fb eb f (L ++ T) (.slice (some ⟨g, 0, none⟩) N cap) mv .nilIface (.pointer (some ⟨wb, 0, none⟩)) m3 F2) := fun hW hP => bx_close_go (unhide HK) hW rfl hn6 hP
    have HCF : Hid (∀ {W : World} {T : List Tx} {wb : Nat} {mk m3 : Sto} {rk : List UInt8} {c : Nat}, Bx w W E F G sb fb eb wb f (L ++ T) (.slice (some ⟨g, 0, none⟩) N cap) mv .nilIface mk ⟨n, 512, rk, 0⟩ → wclo n mk rk = (c, m3) → c ≠ 0 → Calls Tryd.prog 40 #[.pointer (some ⟨wb, 0, none⟩)] W fun e w' => e = .returned (.tuple #[.int .i64 0, er E c]) ∧ Bx w w' E F G sb fb eb wb f (L ++ T) (.slice (some ⟨g, 0, none⟩) N cap) mv .nilIface m3 ⟨n, 512, [], c⟩) := fun hW hP hc => bx_close_fail (unhide HK) hW rfl hn6 hP hc
    clear h hf hd ok K hcr q0 q1 hfw hL heb hn
    go_enter_defers Tryd.func24, Tryd.ntmps24
    go_wp2_with fail
    refine (unhide HSO (unhide HB0)).mono ?_
    rintro e w1 ⟨rfl, h1⟩
    rw [show w.heap.size + 1 + 1 = eb + 2 by rw [unhide HEB], ← unhide HEB]
    have HB1 := hide h1
    obtain ⟨d0, d1, d2, d3, d4⟩ := h1.cells
    obtain ⟨f0, f1, f2, f3, f4, ff⟩ := fcells h1.sto
    clear h1 HB0 HSO x0 x1 x2 x3 x4 xf
    go_wp2_with (first
      | (go_at_call 37; refine (unhide HCO (unhide HB1)).mono ?_; rintro e w2 ⟨rfl, T, h2⟩; have HB2 := hide h2; obtain ⟨y0, y1, y2, y3, y4⟩ := h2.cells; obtain ⟨b0, b1, b2, b3, b4, bf⟩ := fcells h2.sto; clear h2)
      | (go_at_call 38; refine (unhide HOP (unhide HB2)).mono ?_; rintro e w3 ⟨wb, rfl, h3, h3x⟩; have HX3 := hide h3x; obtain ⟨F3, h3⟩ := h3; obtain ⟨u0, u1, u2, u3, u4⟩ := h3.cells; have ul := h3.lt3; clear h3 h3x))
    clear HOP HCO HB1 HB2 d0 d1 d2 d3 d4 f0 f1 f2 f3 f4 ff y0 y1 y2 y3 y4 b0 b1 b2 b3 b4 bf
    have HS : Hid (∃ mk rk, wputs n 512 m1 (Um.frs (Um.rl (L.take 0))) = (0, mk, rk) ∧ Bx w ((w3.setCell ⟨eb + 2, 0, none⟩ (.pointer (some ⟨wb, 0, none⟩))).setCell ⟨eb + 1, 0, none⟩ .nilIface) E F G sb fb eb wb f (L ++ T) (.slice (some ⟨g, 0, none⟩) N cap) mv .nilIface mk ⟨n, 512, rk, 0⟩) :=
      ⟨m1, [], by rw [List.take_zero]; exact wputs_stop (by simp [Um.rl, Um.frs]), unhide HX3⟩
    generalize hM : L.length = M at *
    have HM := hide hM
    clear hM HX3
    go_loopw [32] (fun s32 wr => ∃ k : Nat, s32 = .int .i64 k ∧ k ≤ M ∧ Hid (∃ mk rk, wputs n 512 m1 (Um.frs (Um.rl (L.take k))) = (0, mk, rk) ∧ Bx w wr E F G sb fb eb wb f (L ++ T) (.slice (some ⟨g, 0, none⟩) N cap) mv .nilIface mk ⟨n, 512, rk, 0⟩)) (fun s32 _ => M - (intOf s32).toNat)
    case atStart => exact ⟨0, rfl, Nat.zero_le _, HS⟩
    case round =>
      clear HS u0 u1 u2 u3 u4 ul
      obtain ⟨k, rfl, hk, HR⟩ := hrel
      obtain ⟨mk, rk, hP, hX⟩ := unhide HR
      have HP := hide hP
      have HX := hide hX
      obtain ⟨F4, h4⟩ := hX.bw
      obtain ⟨u0, u1, u2, u3, u4⟩ := h4.cells
      have ul := h4.lt3
      by_cases hlt : k < M
      · have hltz : (k : Int) < (M : Int) := by omega
        have hk0 : 0 ≤ (k : Int) := by omega
        obtain ⟨x, hx⟩ : ∃ x, L[k]? = some x := ⟨_, List.getElem?_eq_getElem (by rw [unhide HM]; exact hlt)⟩
        have hcx : wr.cell? ⟨g, k, none⟩ = some (.string x) := by
          have hlen := h4.row.1
          obtain ⟨_, _, es⟩ := h4.row.slice
          have hN2 : (L ++ T).length = N := by injection es with _ es _; exact es.symm
          exact own_cell h4.row hN2 (by rw [List.getElem?_append_left (by rw [unhide HM]; exact hlt)]; exact hx)
        obtain ⟨c, m', rest, hq⟩ : ∃ c m' rest, wputs n 512 mk (rk ++ Um.frs (Um.rl [x])) = (c, m', rest) := ⟨_, _, _, rfl⟩
        have HPK := hide (unhide HPU hx hX hq)
        have hnext : wputs n 512 m1 (Um.frs (Um.rl (L.take (k + 1)))) = (c, m', rest) := by
          rw [rl_take hx]
          have q := (wputs_cat _ n 512 m1 (Um.frs (Um.rl (L.take k))) (Um.frs (Um.rl [x])) (Nat.le_refl _) (by decide)).1 (by rw [hP])
          rw [q, hP]
          exact hq
        have hc9' : c ≤ 9 := by have := puts_le9 _ n 512 mk (rk ++ Um.frs (Um.rl [x])) (Nat.le_refl _) (by decide); rw [hq] at this; exact this
        have HNX := hide hnext
        clear hP hX h4 hx hq hnext HR
        by_cases hc : c = 0
        · subst hc
          rw [errV_zero] at HPK
          have e0 : putX ⟨n, 512, rk, 0⟩ 0 rest = ⟨n, 512, rest, 0⟩ := rfl
          rw [e0] at HPK
          clear e0
          go_wp2_with (go_at_call 39; refine (unhide HPK).mono ?_; rintro e w5 ⟨rfl, h5⟩; have HX5 := hide (h5.setE .nilIface); obtain ⟨F5, h5⟩ := h5.bw; obtain ⟨v0, v1, v2, v3, v4⟩ := h5.cells; have vl := h5.lt3; clear h5)
          go_roundw
          case rel => exact ⟨k + 1, by go_num, by omega, ⟨m', rest, unhide HNX, unhide HX5⟩⟩
          case measure => simp [intOf]; omega
        · have e0 : putX ⟨n, 512, rk, 0⟩ c rest = ⟨n, 512, [], c⟩ := putX_no hc
          rw [e0, errV_er hc] at HPK
          have hfin : cF = c ∧ mF = remAll (rem m' n).2 f.made ∧ fF = f.die c := by
            have q := (wputs_cat _ n 512 m1 (Um.frs (Um.rl (L.take (k + 1)))) (Um.frs (Um.rl (L.drop (k + 1)))) (Nat.le_refl _) (by decide)).2 (by rw [unhide HNX]; exact hc)
            rw [← rl_split, unhide HNX] at q
            exact unhide HFB q.1 q.2 hc
          have HFN := hide hfin
          have HC0 := hide hc
          have HC9 := hide hc9'
          clear hfin hc hc9' e0
          unfold er at *
          go_wp2_with (go_at_call 39; refine (unhide HPK).mono ?_; rintro e w5 ⟨rfl, h5⟩; have HX5 := hide ((h5.setE (.iface 128 (.pointer (some (E c))))).setE (.iface 128 (.pointer (some (E c))))); obtain ⟨F5, h5⟩ := h5.bw; obtain ⟨v0, v1, v2, v3, v4⟩ := h5.cells; have vl := h5.lt3; clear h5)
          refine leaves_cons (f := 33) (args := #[.pointer (some ⟨eb + 1, 0, none⟩), .pointer (some ⟨eb + 2, 0, none⟩), .pointer (some ⟨eb, 0, none⟩)]) (by simp) (by simp [go_sem]) ?_
          refine (unhide HDX .returning rfl (unhide HC0) (unhide HC9) (unhide HX5)).mono ?_
          rintro e u' w'' ⟨rfl, rfl, hce, hfr⟩
          obtain ⟨rfl, rfl, rfl⟩ := unhide HFN
          exact ⟨_, results_err rfl rfl hce, by rw [errV_er (unhide HC0)], hfr⟩
      · obtain rfl : k = M := by omega
        have hltz : ¬ (k : Int) < (k : Int) := by omega
        have hP2 : wputs n 512 m1 (Um.frs (Um.rl L)) = (0, mk, rk) := by rw [← unhide HM, List.take_length] at hP; exact hP
        obtain ⟨c, m3, hq⟩ : ∃ c m3, wclo n mk rk = (c, m3) := ⟨_, _, rfl⟩
        have hc9' : c ≤ 9 := by have := clo_le9 n mk rk; rw [hq] at this; exact this
        by_cases hc : c = 0
        · subst hc
          have HFN := hide (unhide HFD hP2 hq)
          have HCL := hide (unhide HCG hX hq)
          clear hP hX h4 hq hP2 HR hc9'
          go_wp2_with (go_at_call 40; refine (unhide HCL).mono ?_; rintro e w5 ⟨rfl, F5, h5⟩; have HX5 := hide (h5.setE .nilIface); obtain ⟨v0, v1, v2, v3, v4⟩ := h5.cells; have vl := h5.lt3; clear h5)
          refine gen_world ?_
          intro V hV
          have h6 : Bw w V F G sb fb eb f (L ++ T) (.slice (some ⟨g, 0, none⟩) N cap) mv .nilIface (.pointer (some ⟨wb, 0, none⟩)) m3 F5 := by rw [hV]; exact unhide HX5
          clear hV v0 v1 v2 v3 v4 vl HX5
          obtain ⟨g5, c5, W5, hap, hown5, hc5, hv5⟩ := push_num (W := V.drew) n h6.drew.int (by have := unhide HML; omega) 35
          obtain ⟨p1, p2, p3, p4, p5⟩ := h6.drew.pushed hown5 hc5 (fun k hk => by injection hk with hk; subst hk; exact hv5)
          obtain ⟨r0, r1, r2, r3, r4⟩ := h6.cells
          obtain ⟨s0, s1, s2, s3, s4, sf⟩ := fcells h6.sto
          have HAP := hide hap
          have HP5 := hide p5
          have l6 := h6.lt3
          have lf := h6.lfb.2
          have lfV : fb < V.heap.size := by omega
          have leV : eb < V.heap.size := by omega
          have leV1 : eb + 1 < V.heap.size := by omega
          clear hap hown5 hc5 hv5 p5 h6
          apply wp_one
          · go_region_law (refine step_app (by rfl) _ _ _ (by rfl) _ _ _ _ (by rfl) (by rfl) (by exact unhide HAP) ?_)
            all_goals exact one_intro
          · clear p1 p2 p3 p4 r0 r1 r2 r3 r4 s0 s1 s2 s3 s4 sf HAP
            have HP6 := unhide HP5
            generalize World.setCell _ _ _ = V6 at HP6 ⊢
            obtain ⟨W7, hcl, A2, h7⟩ := HP6.cleared hne
            obtain ⟨r0, r1, r2, r3, r4⟩ := HP6.cells
            obtain ⟨s0, s1, s2, s3, s4, sf⟩ := fcells HP6.sto
            obtain ⟨t0, t1, t2, t3, t4⟩ := h7.cells
            obtain ⟨y0, y1, y2, y3, y4, yf⟩ := fcells h7.sto
            have l7 := h7.lt3
            have lf7 := h7.lfb.2
            have HF8 := hide ((h7.cut).setE .nilIface).drew
            clear HP6 h7
            go_wp2
            apply wp_one
            · go_region
              all_goals exact one_intro
            · go_wp2
              refine gen_d ?_
              intro V9 hV9
              have h9 := unhide HF8
              rw [← hV9] at h9
              refine leaves_cons (f := 33) (args := #[.pointer (some ⟨eb + 1, 0, none⟩), .pointer (some ⟨eb + 2, 0, none⟩), .pointer (some ⟨eb, 0, none⟩)]) (by simp) (by simp [go_sem]) ?_
              refine (clos_nil .returning h9.cells.2.1).mono ?_
              rintro e u' w'' ⟨rfl, rfl, rfl⟩
              obtain ⟨rfl, rfl, rfl⟩ := unhide HFN
              exact ⟨_, results_err rfl rfl h9.cells.2.1, rfl, h9.fin (unhide HLV)⟩
        · have HFN := hide (unhide HFC hP2 hq hc)
          have HCL := hide (unhide HCF hX hq hc)
          have HC0 := hide hc
          have HC9 := hide hc9'
          clear hP hX h4 hq hP2 HR hc9' hc
          unfold er at *
          go_wp2_with (go_at_call 40; refine (unhide HCL).mono ?_; rintro e w5 ⟨rfl, h5⟩; have HX5 := hide ((h5.setE (.iface 128 (.pointer (some (E c))))).setE (.iface 128 (.pointer (some (E c))))); obtain ⟨F5, h5⟩ := h5.bw; obtain ⟨v0, v1, v2, v3, v4⟩ := h5.cells; have vl := h5.lt3; clear h5)
          refine leaves_cons (f := 33) (args := #[.pointer (some ⟨eb + 1, 0, none⟩), .pointer (some ⟨eb + 2, 0, none⟩), .pointer (some ⟨eb, 0, none⟩)]) (by simp) (by simp [go_sem]) ?_
          refine (unhide HDX .returning rfl (unhide HC0) (unhide HC9) (unhide HX5)).mono ?_
          rintro e u' w'' ⟨rfl, rfl, hce, hfr⟩
          obtain ⟨rfl, rfl, rfl⟩ := unhide HFN
          exact ⟨_, results_err rfl rfl hce, by rw [errV_er (unhide HC0)], hfr⟩
  · have en : n0 = 0 := (q1 hc).2
    subst en
    have hfw2 := fwr_a (f := f) hcr hc
    rw [hfw] at hfw2
    injection hfw2 with k1 k2
    injection k2 with k2 k3
    subst k1 k2 k3
    have HOP : Hid (∀ {W : World} {T : List Tx} {F' : Nat → Prop}, Bw w W F G sb fb eb f (L ++ T) (.slice (some ⟨g, 0, none⟩) N cap) mv .nilIface (.pointer none) m F' → Calls Tryd.prog 38 #[.pointer (some ⟨sb, 0, none⟩), .int .i64 512] W fun e w' => e = .returned (.tuple #[.pointer none, er E cF]) ∧ ∃ F2, Bw w w' F G sb fb eb f (L ++ T) (.slice (some ⟨g, 0, none⟩) N cap) mv .nilIface (.pointer none) m1 F2) := fun hW => bw_open_fail (unhide HK) hW hcr hc
    have HDO : Hid (∀ {W : World} {T : List Tx} {F' : Nat → Prop} (u : FrameMode), Bw w W F G sb fb eb f (L ++ T) (.slice (some ⟨g, 0, none⟩) N cap) mv (er E cF) (.pointer none) m1 F' → CallsD Tryd.prog 33 #[.pointer (some ⟨eb + 1, 0, none⟩), .pointer (some ⟨eb + 2, 0, none⟩), .pointer (some ⟨eb, 0, none⟩)] u W fun e u' w' => u' = u ∧ (e = .returned (.tuple #[]) ∧ w'.cell? ⟨eb + 1, 0, none⟩ = some (er E cF) ∧ FRes F G w E sb fb (remAll m1 f.made) (f.die cF) w')) := fun u hW =>
      clos_err (unhide HK).V (unhide HK).hF (unhide HK).hG (unhide HK).hB hW (bw_drop hW) (unhide HMN) (unhide HML) hc (by omega) u
    rw [errV_er hc]
    unfold er at *
    clear h hf hd ok K hcr q0 q1 hfw hL heb
    go_enter_defers Tryd.func24, Tryd.ntmps24
    go_wp2_with fail
    refine (unhide HSO (unhide HB0)).mono ?_
    rintro e w1 ⟨rfl, h1⟩
    rw [show w.heap.size + 1 + 1 = eb + 2 by rw [unhide HEB], ← unhide HEB]
    have HB1 := hide h1
    obtain ⟨d0, d1, d2, d3, d4⟩ := h1.cells
    obtain ⟨f0, f1, f2, f3, f4, ff⟩ := fcells h1.sto
    clear h1 HB0 HSO x0 x1 x2 x3 x4 xf
    go_wp2_with (first
      | (go_at_call 37; refine (unhide HCO (unhide HB1)).mono ?_; rintro e w2 ⟨rfl, T, h2⟩; have HB2 := hide h2; obtain ⟨y0, y1, y2, y3, y4⟩ := h2.cells; obtain ⟨b0, b1, b2, b3, b4, bf⟩ := fcells h2.sto; clear h2)
      | (go_at_call 38; refine (unhide HOP (unhide HB2)).mono ?_; rintro e w3 ⟨rfl, F3, h3⟩; have HB3 := hide (((h3.setW (.pointer none)).setE (.iface 128 (.pointer (some (E cF))))).setE (.iface 128 (.pointer (some (E cF))))); obtain ⟨u0, u1, u2, u3, u4⟩ := h3.cells; have ul := h3.lt3; clear h3))
    refine leaves_cons (f := 33) (args := #[.pointer (some ⟨eb + 1, 0, none⟩), .pointer (some ⟨eb + 2, 0, none⟩), .pointer (some ⟨eb, 0, none⟩)]) (by simp) (by simp [go_sem]) ?_
    refine (unhide HDO .returning (unhide HB3)).mono ?_
    rintro e u' w'' ⟨rfl, rfl, hce, hfr⟩
    exact ⟨_, results_err rfl rfl hce, rfl, hfr⟩
end Rs
end Go.Proofs.YtigffjbefbndnaaDoor
