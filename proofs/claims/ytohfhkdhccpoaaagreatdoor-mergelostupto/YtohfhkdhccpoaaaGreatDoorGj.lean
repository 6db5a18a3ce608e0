/- Layer 9, the plain part: batches where the store has room: what stands in it behind them. No walk. -/
import Derived.Test.YtohfhkdhccpoaaaGreatDoorGg
import Derived.Test.YtohfhkdhccpoaaaGreatDoorGa
import Derived.Test.YtohfhkdhccpoaaaGreatDoorGi
namespace Go.Proofs.YtohfhkdhccpoaaaGreatDoor
open Go.RowKit
namespace Rs
open Sm (Tx ofS)
theorem strB_sz (s : List UInt8) : (strB s).size = s.length := by simp [strB, ByteArray.size]
theorem look_last {R : List Run} {r : Run} (h : ∀ x ∈ R, x.num < r.num) : look (R ++ [r]) r.num = some r := by
  unfold look
  rw [List.find?_append, List.find?_eq_none.2 (fun x hx => by have := h x hx; simp; omega)]
  simp
theorem repl_last {R : List Run} {r r' : Run} (h : ∀ x ∈ R, x.num < r.num) (hn : r'.num = r.num) : repl (R ++ [r]) r' = R ++ [r'] := by
  unfold repl
  rw [List.map_append]
  congr 1
  · conv => rhs; rw [← List.map_id R]
    refine List.map_congr_left fun x hx => ?_
    have := h x hx
    rw [if_neg (by omega)]
    rfl
  · simp [hn]
/-- the store m is m0 with one run more behind the others -/
structure Lst (m0 m : Sto) (n : Nat) (t : List UInt8) (s : Bool) : Prop where
  runs : m.runs = m0.runs ++ [⟨n, t, s⟩]
  cap : m.cap = m0.cap
  ahead : m.ahead = 0
  made : m.made = m0.made + 1
  peak : m.peak = max m0.peak (tot m0.runs + t.length)
  lo : ∀ x ∈ m0.runs, x.num < n
theorem lst_new {m0 : Sto} (ok : m0.Ok) (ha : m0.ahead = 0) (hm : m0.made < 16777216) : (crt m0).1 = (((m0.made + 1 : Nat) : Int), 0) ∧ Lst m0 (crt m0).2 (m0.made + 1) [] false := by
  have e : crt m0 = ((((m0.made + 1 : Nat) : Int), 0), m0.tick.newRun) := by
    unfold crt
    rw [if_neg (by omega), if_neg (by omega)]
  rw [e]
  refine ⟨rfl, rfl, rfl, by show m0.ahead - 1 = 0; omega, rfl, ?_, fun x hx => by have := ok.nums x hx; omega⟩
  show m0.peak = _
  have := ok.peak
  simp; omega
theorem lst_app {m0 m : Sto} {n : Nat} {t s : List UInt8} (h : Lst m0 m n t false) (hl : tot m0.runs + (t.length + s.length) ≤ m0.cap) : (app m n [strB s]).1 = 0 ∧ Lst m0 (app m n [strB s]).2 n (t ++ s) false := by
  have hlk : look m.runs n = some ⟨n, t, false⟩ := by rw [h.runs]; exact look_last (r := ⟨n, t, false⟩) h.lo
  have hsz : sz [strB s] = s.length := by simp [sz, strB_sz]
  have ht : tot m.runs = tot m0.runs + t.length := by rw [h.runs, tot_app]; simp [tot]
  have e : app m n [strB s] = (0, m.tick.app ⟨n, t, false⟩ [strB s]) := by
    unfold app
    rw [if_neg (by rw [h.ahead]; decide), hlk]
    simp only [Bool.false_eq_true, if_false]
    rw [if_pos (by rw [h.cap, ht, hsz]; omega)]
  rw [e]
  refine ⟨rfl, ?_, h.cap, by show m.ahead - 1 = 0; rw [h.ahead], h.made, ?_, h.lo⟩
  · show repl m.runs ⟨n, t ++ bytes [strB s], false⟩ = _
    rw [h.runs, repl_last (r := ⟨n, t, false⟩) (r' := ⟨n, t ++ bytes [strB s], false⟩) h.lo rfl]
    simp [bytes, strB]
  · show max m.peak (tot m.runs + sz [strB s]) = _
    rw [h.peak, ht, hsz, List.length_append]
    omega
theorem lst_sel {m0 m : Sto} {n : Nat} {t : List UInt8} (h : Lst m0 m n t false) : (sel m n).1 = 0 ∧ Lst m0 (sel m n).2 n t true := by
  have hlk : look m.runs n = some ⟨n, t, false⟩ := by rw [h.runs]; exact look_last (r := ⟨n, t, false⟩) h.lo
  have e : sel m n = (0, { m.tick with runs := repl m.runs ⟨n, t, true⟩ }) := by
    unfold sel
    rw [if_neg (by rw [h.ahead]; decide), hlk]
    simp
  rw [e]
  refine ⟨rfl, ?_, h.cap, by show m.ahead - 1 = 0; rw [h.ahead], h.made, h.peak, h.lo⟩
  show repl m.runs ⟨n, t, true⟩ = _
  rw [h.runs, repl_last (r := ⟨n, t, false⟩) (r' := ⟨n, t, true⟩) h.lo rfl]
theorem lst_puts (bs : Nat) (hb : 1 ≤ bs) (m0 : Sto) (n : Nat) : ∀ (k : Nat) (m : Sto) (t T : List UInt8), T.length ≤ k → Lst m0 m n t false → tot m0.runs + (t.length + T.length) ≤ m0.cap →
    ∃ d, (wputs n bs m T).1 = 0 ∧ Lst m0 (wputs n bs m T).2.1 n (t ++ d) false ∧ d ++ (wputs n bs m T).2.2 = T := by
  intro k
  induction k with
  | zero =>
    intro m t T hT h _
    rw [wputs_stop (by omega)]
    exact ⟨[], rfl, by simpa using h, rfl⟩
  | succ k ih =>
    intro m t T hT h hl
    by_cases hs : T.length < bs
    · rw [wputs_stop hs]
      exact ⟨[], rfl, by simpa using h, rfl⟩
    · obtain ⟨e0, h1⟩ := lst_app (s := T.take bs) h (by rw [List.length_take]; omega)
      rw [wputs_go hb hs e0]
      obtain ⟨d, e2, h2, h3⟩ := ih _ (t ++ T.take bs) (T.drop bs) (by rw [List.length_drop]; omega) h1 (by rw [List.length_append, List.length_take, List.length_drop]; omega)
      refine ⟨T.take bs ++ d, e2, by rwa [List.append_assoc] at h2, ?_⟩
      rw [List.append_assoc, h3, List.take_append_drop]
theorem lst_clo {m0 m : Sto} {n : Nat} {t buf : List UInt8} (h : Lst m0 m n t false) (hl : tot m0.runs + (t.length + buf.length) ≤ m0.cap) : (wclo n m buf).1 = 0 ∧ Lst m0 (wclo n m buf).2 n (t ++ buf) true := by
  unfold wclo
  by_cases hb : buf = []
  · rw [if_pos hb, hb, List.append_nil]
    exact lst_sel h
  · obtain ⟨e, h1⟩ := lst_app (s := buf) h hl
    rw [if_neg hb, if_pos e]
    exact lst_sel h1
theorem bat_room {m0 : Sto} {L : List Tx} (ok : m0.Ok) (ha : m0.ahead = 0) (hm : m0.made < 16777216) (hl : tot m0.runs + (Um.frs (Um.rl L)).length ≤ m0.cap) :
    (bat m0 L).1 = 0 ∧ Lst m0 (bat m0 L).2.1 (m0.made + 1) (Um.frs (Um.rl L)) true := by
  obtain ⟨e, h1⟩ := lst_new ok ha hm
  obtain ⟨d, e2, h2, h3⟩ := lst_puts 512 (by decide) m0 (m0.made + 1) _ (crt m0).2 [] (Um.frs (Um.rl L)) (Nat.le_refl _) h1 (by simpa using hl)
  have hl3 := congrArg List.length h3
  rw [List.length_append] at hl3
  obtain ⟨e4, h4⟩ := lst_clo (buf := (wputs (m0.made + 1 : Nat) 512 (crt m0).2 (Um.frs (Um.rl L))).2.2) h2 (by rw [List.nil_append]; omega)
  rw [List.nil_append, h3] at h4
  unfold bat
  rw [if_neg (by rw [e]; simp)]
  unfold batN
  rw [if_neg (by rw [e2]; simp), if_neg (by rw [e4]; simp)]
  exact ⟨rfl, h4⟩
theorem Lst.ok {m0 m : Sto} {n : Nat} {t : List UInt8} {s : Bool} (h : Lst m0 m n t s) (ok : m0.Ok) (hn : n = m0.made + 1) (hm : m0.made < 16777216) (hl : tot m0.runs + t.length ≤ m0.cap) : m.Ok := by
  have ht : tot m.runs = tot m0.runs + t.length := by rw [h.runs, tot_app]; simp [tot]
  have k1 := ok.peakle
  have k2 := ok.peak
  refine ⟨by rw [h.cap]; exact ok.cap, by rw [h.made]; omega, by rw [ht, h.cap]; exact hl, by rw [ht, h.peak]; omega, by rw [h.peak, h.cap]; omega, by rw [h.ahead]; omega, ?_, fun r hr => ?_⟩
  · rw [h.runs, List.pairwise_append]
    exact ⟨ok.sorted, by simp, fun a ha b hb => by simp at hb; subst hb; exact h.lo a ha⟩
  · rw [h.runs] at hr
    rw [h.made]
    rcases List.mem_append.1 hr with hr | hr
    · have := ok.nums r hr; omega
    · simp at hr; subst hr; simp only; omega

/-! sizes -/
/-- what the frames of texts take at most -/
def fz (D : List Tx) : Nat := (D.map fun x => x.size + 2).sum
theorem fz_nil : fz [] = 0 := rfl
theorem fz_cons (x : Tx) (t : List Tx) : fz (x :: t) = (x.size + 2) + fz t := by simp [fz]
theorem fz_app (a b : List Tx) : fz (a ++ b) = fz a + fz b := by simp [fz]
theorem fz_len (D : List Tx) : 2 * D.length ≤ fz D := by
  induction D with
  | nil => simp [fz]
  | cons x t ih => rw [fz_cons, List.length_cons]; omega
theorem frs_le {D : List Tx} (hs : ∀ x ∈ D, x.size ≤ 255) : (Um.frs (Um.rl D)).length ≤ fz D := by
  induction D with
  | nil => simp [Um.rl, Um.frs, fz]
  | cons x t ih =>
    have h1 := ih fun y hy => hs y (List.mem_cons_of_mem _ hy)
    have h2 := Um.fr_le (r := Um.lst x) (by rw [Um.lst_len]; exact hs x (List.mem_cons_self ..))
    rw [Um.lst_len] at h2
    rw [show Um.rl (x :: t) = Um.lst x :: Um.rl t from rfl, Um.frs_cons, List.length_append, fz_cons]
    omega
theorem fz_mem : ∀ (A D : List Tx), A.Nodup → (∀ x ∈ A, x ∈ D) → fz A ≤ fz D
  | [], D, _, _ => by rw [fz_nil]; omega
  | a :: A, D, hn, hs => by
    obtain ⟨P, Q, hD⟩ := List.append_of_mem (hs a (List.mem_cons_self ..))
    obtain ⟨n1, n2⟩ := List.nodup_cons.1 hn
    have := fz_mem A (P ++ Q) n2 fun x hx => by
      have h1 := hs x (List.mem_cons_of_mem _ hx)
      rw [hD] at h1
      rcases List.mem_append.1 h1 with h1 | h1
      · exact List.mem_append.2 (.inl h1)
      · rcases List.mem_cons.1 h1 with h1 | h1
        · exact absurd (h1 ▸ hx) n1
        · exact List.mem_append.2 (.inr h1)
    rw [fz_app] at this
    rw [hD, fz_cons, fz_app, fz_cons]
    omega
theorem nodup_of {A : List Tx} (h : Sm.Rs A) : A.Nodup := h.imp fun k => Sm.lt_ne k
theorem fz_ofS (D : List Tx) : fz (ofS D) ≤ fz D := fz_mem _ _ (nodup_of (Sm.ofS_rs D)) fun _ hx => Sm.ofS_mem.1 hx
theorem frs_ofS {D : List Tx} (hs : ∀ x ∈ D, x.size ≤ 255) : (Um.frs (Um.rl (ofS D))).length ≤ fz D := Nat.le_trans (frs_le fun x hx => hs x (Sm.ofS_mem.1 hx)) (fz_ofS D)

/-! the words, batch by batch -/
/-- the k-th batch of b words -/
def prt (b : Nat) (W : List Tx) (k : Nat) : List Tx := (W.drop (k * b)).take b
def runAt (b : Nat) (W : List Tx) (k : Nat) : Run := ⟨k + 1, Um.frs (Um.rl (ofS (prt b W k))), true⟩
def runsAt (b : Nat) (W : List Tx) (q : Nat) : List Run := (List.range q).map (runAt b W)
def upTo (q : Nat) : List Nat := (List.range q).map (· + 1)
theorem prt_app {b k : Nat} {W V : List Tx} (h : (k + 1) * b ≤ W.length) : prt b (W ++ V) k = prt b W k := by
  rw [Nat.add_mul, Nat.one_mul] at h
  unfold prt
  rw [List.drop_append_of_le_length (by omega), List.take_append_of_le_length (by rw [List.length_drop]; omega)]
theorem runsAt_app {b q : Nat} {W V : List Tx} (h : q * b ≤ W.length) : runsAt b (W ++ V) q = runsAt b W q := by
  unfold runsAt
  refine List.map_congr_left fun k hk => ?_
  have hk' : k < q := List.mem_range.1 hk
  unfold runAt
  rw [prt_app (Nat.le_trans (Nat.mul_le_mul_right b hk') h)]
theorem runsAt_succ (b : Nat) (W : List Tx) (q : Nat) : runsAt b W (q + 1) = runsAt b W q ++ [runAt b W q] := by simp [runsAt, List.range_succ]
theorem upTo_succ (q : Nat) : upTo (q + 1) = upTo q ++ [q + 1] := by simp [upTo, List.range_succ]
theorem upTo_len (q : Nat) : (upTo q).length = q := by simp [upTo]
/-- what is there behind the words W, in batches of b, into a new store -/
structure Chk (b cap : Nat) (W : List Tx) (m : Sto) (f : For) : Prop where
  ok : m.Ok
  hcap : m.cap = cap
  ahead : m.ahead = 0
  made : f.made = upTo m.made
  runs : m.runs = runsAt b W m.made
  len : W.length = m.made * b + f.buf.length
  buf : f.buf = W.drop (m.made * b)
  size : f.size = b
  full : f.buf.length < b
  live : f.dead = 0
  used : tot m.runs + fz f.buf ≤ fz W
  short : ∀ x ∈ W, x.size ≤ 255
  fit : fz W ≤ cap
theorem Chk.for {b cap : Nat} {W : List Tx} {m : Sto} {f : For} (h : Chk b cap W m f) (hb : b ≤ 65536) : f.Ok m := by
  refine ⟨by rw [h.size]; have := h.full; omega, by rw [h.size]; exact hb, fun x hx => h.short x ?_, by rw [h.made, upTo_len]; exact Nat.le_refl _, fun n hn => ?_, h.live⟩
  · rw [h.buf] at hx; exact List.mem_of_mem_drop hx
  · rw [h.made] at hn
    obtain ⟨k, hk, rfl⟩ := List.mem_map.1 hn
    have := List.mem_range.1 hk
    omega
theorem chk_new (b : Nat) (hb : 1 ≤ b) (c : Nat) (hc : c ≤ 67108864) : Chk b c [] (newS c) ⟨b, [], [], 0⟩ := by
  refine ⟨newS_ok c, ?_, rfl, rfl, rfl, ?_, ?_, rfl, hb, rfl, ?_, fun x hx => (by cases hx), Nat.zero_le _⟩
  · simp [newS]; omega
  · simp [newS]
  · simp
  · simp [newS, tot, fz]
/-- one batch, the whole of what it holds -/
theorem Chk.write {b cap : Nat} {W : List Tx} {m : Sto} {f : For} (ok : m.Ok) (hcap : m.cap = cap) (ha : m.ahead = 0) (hmade : f.made = upTo m.made) (hruns : m.runs = runsAt b W m.made) (hbuf : f.buf = prt b W m.made)
    (hused : tot m.runs + fz f.buf ≤ fz W) (hs : ∀ x ∈ W, x.size ≤ 255) (hfit : fz W ≤ cap) (hm : m.made < 16777216) :
    (fwr m f).1 = 0 ∧ (fwr m f).2.2 = f.wrote (m.made + 1) ∧ Lst m (fwr m f).2.1 (m.made + 1) (Um.frs (Um.rl (ofS f.buf))) true ∧ (fwr m f).2.1.Ok ∧ (fwr m f).2.1.runs = runsAt b W (m.made + 1) ∧ (f.wrote (m.made + 1)).made = upTo (m.made + 1) ∧ tot (fwr m f).2.1.runs ≤ fz W := by
  have hsb : ∀ x ∈ f.buf, x.size ≤ 255 := fun x hx => hs x (by rw [hbuf] at hx; exact List.mem_of_mem_drop (List.mem_of_mem_take hx))
  have hle := frs_ofS hsb
  obtain ⟨e, h1⟩ := bat_room (L := ofS f.buf) ok ha hm (by omega)
  obtain ⟨e1, e2⟩ := (bat_made m (ofS f.buf)).1 e
  have hok := h1.ok ok rfl hm (by omega)
  unfold fwr
  rw [if_pos e, e2]
  refine ⟨rfl, rfl, h1, hok, ?_, ?_, ?_⟩
  · rw [h1.runs, hruns, runsAt_succ]
    unfold runAt
    rw [← hbuf]
  · show f.made ++ [m.made + 1] = _
    rw [hmade, upTo_succ]
  · rw [h1.runs, tot_app]
    simp only [tot]
    omega
theorem Chk.add {b cap : Nat} {W : List Tx} {m : Sto} {f : For} (h : Chk b cap W m f) (x : Tx) (hx : x.size ≤ 255) (hfit : fz (W ++ [x]) ≤ cap) (hm : W.length < 16777216) :
    (f.buf.length + 1 < f.size ∧ Chk b cap (W ++ [x]) m (f.push x)) ∨ (¬ f.buf.length + 1 < f.size ∧ (fwr m (f.push x)).1 = 0 ∧ Chk b cap (W ++ [x]) (fwr m (f.push x)).2.1 (fwr m (f.push x)).2.2) := by
  have hs : ∀ y ∈ W ++ [x], y.size ≤ 255 := fun y hy => (List.mem_append.1 hy).elim (h.short y) fun e => by rw [List.mem_singleton.1 e]; exact hx
  have hqb : m.made * b ≤ W.length := by have := h.len; omega
  have hbuf : (f.push x).buf = (W ++ [x]).drop (m.made * b) := by
    show f.buf ++ [x] = _
    rw [List.drop_append_of_le_length hqb, h.buf]
  have hused : tot m.runs + fz (f.push x).buf ≤ fz (W ++ [x]) := by
    show tot m.runs + fz (f.buf ++ [x]) ≤ _
    have := h.used
    rw [fz_app, fz_app]; omega
  have hr : m.runs = runsAt b (W ++ [x]) m.made := by rw [runsAt_app hqb]; exact h.runs
  have hlen : (W ++ [x]).length = m.made * b + (f.push x).buf.length := by
    show _ = _ + (f.buf ++ [x]).length
    rw [List.length_append, List.length_append, h.len]
    simp; omega
  by_cases hl : f.buf.length + 1 < f.size
  · refine .inl ⟨hl, h.ok, h.hcap, h.ahead, h.made, hr, hlen, hbuf, h.size, ?_, h.live, hused, hs, hfit⟩
    show (f.buf ++ [x]).length < b
    rw [List.length_append, ← h.size]; simpa using hl
  · have hfl : (f.push x).buf.length = b := by
      show (f.buf ++ [x]).length = b
      have := h.full
      rw [h.size] at hl
      rw [List.length_append]; simp; omega
    have hb1 : 1 ≤ b := by have := h.full; omega
    have hmm : m.made < 16777216 := by
      have h1 : m.made * 1 ≤ m.made * b := Nat.mul_le_mul_left _ hb1
      omega
    obtain ⟨e1, e2, e3, e4, e5, e6, e7⟩ := Chk.write (b := b) (cap := cap) (W := W ++ [x]) (f := f.push x) h.ok h.hcap h.ahead h.made hr (by unfold prt; rw [← hbuf, List.take_of_length_le (by omega)]) hused hs hfit hmm
    refine .inr ⟨hl, e1, e4, by rw [e3.cap]; exact h.hcap, e3.ahead, ?_, ?_, ?_, ?_, ?_, ?_, ?_, ?_, hs, hfit⟩
    · rw [e2, e3.made]; exact e6
    · rw [e3.made]; exact e5
    · rw [e2, e3.made, hlen, hfl, Nat.add_mul]
      simp [For.wrote]
    · rw [e2, e3.made]
      show [] = _
      rw [List.drop_of_length_le (by rw [hlen, hfl, Nat.add_mul]; omega)]
    · rw [e2]; exact h.size
    · rw [e2]; show 0 < b; omega
    · rw [e2]; exact h.live
    · rw [e2]; show _ + fz [] ≤ _; rw [fz_nil]; omega
theorem Chk.adds {b cap : Nat} : ∀ (V W : List Tx) (m : Sto) (f : For), Chk b cap W m f → (∀ x ∈ V, x.size ≤ 255) → fz (W ++ V) ≤ cap → (W ++ V).length ≤ 16777216 → (adds m f V).1 = 0 ∧ Chk b cap (W ++ V) (adds m f V).2.1 (adds m f V).2.2
  | [], W, m, f, h, _, _, _ => by rw [adds_stop, List.append_nil]; exact ⟨rfl, h⟩
  | x :: V, W, m, f, h, hs, hfit, hm => by
    have e : W ++ x :: V = (W ++ [x]) ++ V := by simp
    rw [e] at hfit hm ⊢
    rcases h.add x (hs x (List.mem_cons_self ..)) (by rw [fz_app] at hfit; omega) (by simp at hm; omega) with ⟨hl, k⟩ | ⟨hl, h0, k⟩
    · rw [adds_room hl]
      exact Chk.adds V _ _ _ k (fun y hy => hs y (List.mem_cons_of_mem _ hy)) hfit hm
    · rw [adds_go hl h0]
      exact Chk.adds V _ _ _ k (fun y hy => hs y (List.mem_cons_of_mem _ hy)) hfit hm
/-- how many batches there are -/
def cnt (n b : Nat) : Nat := (n + b - 1) / b
/-- behind Finish -/
structure Fin (b cap : Nat) (W : List Tx) (m : Sto) (l : List Nat) : Prop where
  ok : m.Ok
  made : l = upTo m.made
  runs : m.runs = runsAt b W m.made
  num : m.made = cnt W.length b
  used : tot m.runs ≤ fz W
theorem cnt_of {n b q r : Nat} (h : n = q * b + r) (hr : r < b) : cnt n b = if r = 0 then q else q + 1 := by
  unfold cnt
  split
  · rename_i e
    have e2 : n + b - 1 = (b - 1) + q * b := by omega
    rw [e2, Nat.add_mul_div_right _ _ (by omega), Nat.div_eq_of_lt (by omega)]
    omega
  · have e2 : n + b - 1 = (r - 1) + (q + 1) * b := by rw [Nat.add_mul]; omega
    rw [e2, Nat.add_mul_div_right _ _ (by omega), Nat.div_eq_of_lt (by omega)]
    omega
theorem Chk.fins {b cap : Nat} {W : List Tx} {m : Sto} {f : For} (h : Chk b cap W m f) (hm : W.length < 16777216) : (fins m f).1 = 0 ∧ (fins m f).2.2.dead = 0 ∧ Fin b cap W (fins m f).2.1 (fins m f).2.2.made := by
  have hc := cnt_of h.len h.full
  unfold Rs.fins
  by_cases hb : f.buf = []
  · rw [if_pos hb]
    refine ⟨rfl, h.live, h.ok, h.made, h.runs, ?_, ?_⟩
    · rw [hc, if_pos (by rw [hb]; rfl)]
    · have := h.used; show tot m.runs ≤ _; omega
  · rw [if_neg hb]
    have hp : 0 < f.buf.length := List.length_pos_iff.2 hb
    have hb1 : 1 ≤ b := by have := h.full; omega
    have hmm : m.made < 16777216 := by
      have h1 : m.made * 1 ≤ m.made * b := Nat.mul_le_mul_left _ hb1
      have := h.len
      omega
    obtain ⟨e1, e2, e3, e4, e5, e6, e7⟩ := Chk.write (b := b) (cap := cap) (W := W) (f := f) h.ok h.hcap h.ahead h.made h.runs (by unfold prt; rw [← h.buf, List.take_of_length_le (by have := h.full; omega)]) h.used h.short h.fit hmm
    refine ⟨e1, by rw [e2]; exact h.live, e4, ?_, ?_, ?_, e7⟩
    · rw [e2, e3.made]; exact e6
    · rw [e3.made]; exact e5
    · rw [e3.made, hc, if_neg (by omega)]
end Rs
end Go.Proofs.YtohfhkdhccpoaaaGreatDoor
/- Things in memory that lie apart from each other. No walk. -/
namespace Go.Proofs.YtohfhkdhccpoaaaGreatDoor
open Go.RowKit
namespace Rs
/-- something that lies in the blocks F -/
structure Thing where
  P : World → (Nat → Prop) → Prop
  lt : ∀ {w : World} {F : Nat → Prop}, P w F → ∀ b, F b → b < w.heap.size
  kept : ∀ {w w' : World} {F G : Nat → Prop}, P w F → (∀ b, F b → w'.heap[b]? = w.heap[b]?) → (∀ b, F b → G b) → (∀ b, G b → b < w'.heap.size) → P w' G
def stoT (sb : Nat) (m : Sto) : Thing := ⟨fun w F => At w sb m F, fun h => h.lt, fun h a b c => h.kept a b c⟩
def updN (D : Nat → Nat) (i x j : Nat) : Nat := if j = i then x else D j
theorem updN_ne (D : Nat → Nat) {i j : Nat} (x : Nat) (h : j ≠ i) : updN D i x j = D j := if_neg h
theorem updN_same (D : Nat → Nat) (i x : Nat) : updN D i x i = x := if_pos rfl
/-- the things of L lie apart from each other in wr, newer than w; the i-th below D i -/
def Sep (w : World) (L : List Thing) (D : Nat → Nat) (wr : World) : Prop :=
  ∃ Fs : Nat → Nat → Prop, (∀ (i : Nat) (T : Thing), L[i]? = some T → T.P wr (Fs i)) ∧ (∀ i j b : Nat, i ≠ j → Fs i b → ¬ Fs j b) ∧ (∀ i b : Nat, Fs i b → w.heap.size ≤ b ∧ b < wr.heap.size ∧ b < D i) ∧ Below w.heap.size w wr
theorem Sep.nil (w : World) (D : Nat → Nat) : Sep w [] D w := ⟨fun _ _ => False, fun i T h => by simp at h, fun _ _ _ _ h => h.elim, fun _ _ h => h.elim, Below.refl _ _⟩
theorem Sep.old {w wr : World} {L : List Thing} {D : Nat → Nat} (h : Sep w L D wr) : Below w.heap.size w wr := by
  obtain ⟨_, _, _, _, h⟩ := h
  exact h
theorem Sep.below {w wr W : World} {L : List Thing} {D : Nat → Nat} (h : Sep w L D wr) (hb : Below wr.heap.size wr W) : Sep w L D W := by
  obtain ⟨Fs, h1, h2, h3, h4⟩ := h
  exact ⟨Fs, fun i T hi => T.kept (h1 i T hi) (fun b hb' => hb.block b (h3 i b hb').2.1) (fun _ x => x) (fun b hb' => Nat.lt_of_lt_of_le (h3 i b hb').2.1 hb.size), h2, fun i b hb' => ⟨(h3 i b hb').1, Nat.lt_of_lt_of_le (h3 i b hb').2.1 hb.size, (h3 i b hb').2.2⟩, h4.trans (hb.mono h4.size)⟩
theorem Sep.reset {w wr : World} {L : List Thing} {D : Nat → Nat} (h : Sep w L D wr) : Sep w L (fun _ => wr.heap.size) wr := by
  obtain ⟨Fs, h1, h2, h3, h4⟩ := h
  exact ⟨Fs, h1, h2, fun i b hb => ⟨(h3 i b hb).1, (h3 i b hb).2.1, (h3 i b hb).2.1⟩, h4⟩
/-- a call of the i-th thing, in a frame whose own blocks lie between wr and W -/
theorem Sep.call {w wr W : World} {L : List Thing} {D : Nat → Nat} (h : Sep w L D wr) (hb : Below wr.heap.size wr W) {i : Nat} {T : Thing} (hi : L[i]? = some T) :
    ∃ F, T.P W F ∧ (∀ b, F b → w.heap.size ≤ b ∧ b < wr.heap.size ∧ b < D i) ∧ Below w.heap.size w W ∧
      ∀ (T' : Thing) (w' : World), T'.P w' (Up F W w') → Chg F W w' → ∀ W5, Chg (fun b => wr.heap.size ≤ b ∧ b < W.heap.size) w' W5 → Sep w (L.set i T') (updN D i w'.heap.size) W5 := by
  have hW := h.below hb
  obtain ⟨Fs, h1, h2, h3, h4⟩ := h
  refine ⟨Fs i, T.kept (h1 i T hi) (fun b hb' => hb.block b (h3 i b hb').2.1) (fun _ x => x) (fun b hb' => Nat.lt_of_lt_of_le (h3 i b hb').2.1 hb.size), h3 i, hW.old, fun T' w' hT hc W5 c => ?_⟩
  have l1 := hb.size
  have l2 := hc.size
  have l3 := c.size
  have l4 := h4.size
  refine ⟨fun j => if j = i then Up (Fs i) W w' else Fs j, fun j U hj => ?_, fun j k b hjk hx hy => ?_, fun j b hx => ?_, hW.old.trans ((hc.below hW.old.size (fun k hk => (h3 i k hk).1)).trans (c.below (by omega) (fun k hk => by omega)))⟩
  · by_cases e : j = i
    · subst e
      rw [List.getElem?_set_self (List.getElem?_eq_some_iff.1 hi).1] at hj
      injection hj with hj
      subst hj
      simp only [if_true]
      refine T'.kept hT (fun b hx => c.block b (T'.lt hT b hx) fun e => ?_) (fun _ x => x) (fun b hx => Nat.lt_of_lt_of_le (T'.lt hT b hx) l3)
      rcases hx with hx | hx
      · have := (h3 j b hx).2.1; omega
      · omega
    · rw [List.getElem?_set_ne (fun x => e x.symm)] at hj
      simp only [if_neg e]
      refine U.kept (h1 j U hj) (fun b hx => ?_) (fun _ x => x) (fun b hx => by have := (h3 j b hx).2.1; omega)
      have hbl := (h3 j b hx).2.1
      rw [c.block b (by omega) (fun e2 => by omega), hc.block b (by omega) (fun hF => h2 j i b e hx hF), hb.block b hbl]
  · by_cases e : j = i
    · by_cases e2 : k = i
      · exact hjk (e.trans e2.symm)
      · simp only [if_pos e, if_neg e2] at hx hy
        rcases hx with hx | hx
        · exact h2 i k b (fun x => e2 x.symm) hx hy
        · have := (h3 k b hy).2.1; omega
    · by_cases e2 : k = i
      · simp only [if_neg e, if_pos e2] at hx hy
        rcases hy with hy | hy
        · exact h2 j i b e hx hy
        · have := (h3 j b hx).2.1; omega
      · simp only [if_neg e, if_neg e2] at hx hy
        exact h2 j k b hjk hx hy
  · by_cases e : j = i
    · simp only [if_pos e] at hx
      subst e
      rw [updN_same]
      rcases hx with hx | hx
      · have := h3 j b hx; exact ⟨this.1, by omega, by omega⟩
      · exact ⟨by omega, by omega, hx.2⟩
    · simp only [if_neg e] at hx
      rw [updN_ne _ _ e]
      have := h3 j b hx
      exact ⟨this.1, by omega, this.2.2⟩
/-- a new thing -/
theorem Sep.add {w wr w' : World} {L : List Thing} {D : Nat → Nat} (h : Sep w L D wr) {T : Thing} {G : Nat → Prop} (hT : T.P w' G) (hG : ∀ b, G b → wr.heap.size ≤ b) (hb : Below wr.heap.size wr w') : Sep w (L ++ [T]) (fun _ => w'.heap.size) w' := by
  have hW := h.below hb
  obtain ⟨Fs, h1, h2, h3, h4⟩ := h
  have l1 := hb.size
  have l4 := h4.size
  refine ⟨fun j => if j = L.length then G else Fs j, fun j U hj => ?_, fun j k b hjk hx hy => ?_, fun j b hx => ?_, hW.old⟩
  · by_cases e : j = L.length
    · subst e
      simp at hj
      subst hj
      simp only [if_true]
      exact hT
    · have hl : j < L.length := by have := (List.getElem?_eq_some_iff.1 hj).1; simp at this; omega
      rw [List.getElem?_append_left hl] at hj
      simp only [if_neg e]
      exact U.kept (h1 j U hj) (fun b hx => hb.block b (h3 j b hx).2.1) (fun _ x => x) (fun b hx => by have := (h3 j b hx).2.1; omega)
  · by_cases e : j = L.length
    · by_cases e2 : k = L.length
      · exact hjk (e.trans e2.symm)
      · simp only [if_pos e, if_neg e2] at hx hy
        have := hG b hx; have := (h3 k b hy).2.1; omega
    · by_cases e2 : k = L.length
      · simp only [if_neg e, if_pos e2] at hx hy
        have := hG b hy; have := (h3 j b hx).2.1; omega
      · simp only [if_neg e, if_neg e2] at hx hy
        exact h2 j k b hjk hx hy
  · by_cases e : j = L.length
    · simp only [if_pos e] at hx
      have := T.lt hT b hx
      have := hG b hx
      exact ⟨by omega, by omega, by show b < w'.heap.size; omega⟩
    · simp only [if_neg e] at hx
      have := h3 j b hx
      exact ⟨this.1, by omega, by show b < w'.heap.size; omega⟩
end Rs
end Go.Proofs.YtohfhkdhccpoaaaGreatDoor
/- Layer 9: a store with its former among other things in memory: New, Add, Finish. -/
namespace Go.Proofs.YtohfhkdhccpoaaaGreatDoor
open Go.RowKit
namespace Rs
open Sm (Tx ofS)
theorem Env.over {w : World} {E : Nat → Addr} {B C : Nat} (h : Env w E B) (hC : B ≤ C) : Env w E C := { h with g := h.g.sub fun _ hb => Nat.le_trans h.nb (Nat.le_trans hC hb), lt := fun i hi => Nat.lt_of_lt_of_le (h.lt i hi) hC, nb := Nat.le_trans h.nb hC }
theorem EnvR.over {w : World} {E : Nat → Addr} {B C : Nat} (h : EnvR w E B) (hC : B ≤ C) : EnvR w E C := ⟨h.toEnv.over hC, h.rn⟩
/-- a store and a former of it -/
def sfT (E : Nat → Addr) (sb fb : Nat) (m : Sto) (f : For) : Thing :=
  ⟨fun w H => (∀ b, H b → b < w.heap.size) ∧ ∃ F G, At w sb m F ∧ FAt w E sb fb f G ∧ (∀ b, F b → ¬ G b) ∧ (∀ b, F b ∨ G b → H b), fun h => h.1, fun {w w' F G} h a b c => by
    obtain ⟨h0, F1, G1, h1, h2, h3, h4⟩ := h
    refine ⟨c, F1, G1, h1.kept (fun k hk => a k (h4 k (.inl hk))) (fun _ x => x) (fun k hk => c k (b k (h4 k (.inl hk)))), h2.kept (fun k hk => a k (h4 k (.inr hk))) (fun _ x => x) (fun k hk => c k (b k (h4 k (.inr hk)))), h3, fun k hk => b k (h4 k hk)⟩⟩
/-- a store, and a list of numbers -/
def scT (sb : Nat) (m : Sto) (v : Value) (l : List Nat) : Thing :=
  ⟨fun w H => (∀ b, H b → b < w.heap.size) ∧ ∃ F, At w sb m F ∧ w.ownsRow 0 3 1 v l.length (nts l) ∧ (∀ b, F b → H b) ∧ (∀ g, v.ownBlock = some g → H g), fun h => h.1, fun {w w' F G} h a b c => by
    obtain ⟨h0, F1, h1, h2, h3, h4⟩ := h
    exact ⟨c, F1, h1.kept (fun k hk => a k (h3 k hk)) (fun _ x => x) (fun k hk => c k (b k (h3 k hk))), own_kept h2 fun g hg => a g (h4 g hg), fun k hk => b k (h3 k hk), fun g hg => b g (h4 g hg)⟩⟩
section
variable {w wr W : World} {E : Nat → Addr} {L : List Thing} {D : Nat → Nat} {i sb fb : Nat} {m : Sto} {f : For}
theorem sep_new (h : Sep w L D wr) (c : Int) (h1 : -9223372036854775808 ≤ c) (h2 : c ≤ 9223372036854775807) :
    Calls Tryz.prog 9 #[.int .i64 c] wr fun e w' => e = .returned (.pointer (some ⟨wr.heap.size, 0, none⟩)) ∧ Sep w (L ++ [stoT wr.heap.size (newS c)]) (fun _ => w'.heap.size) w' := by
  refine (new_any c wr h1 h2).mono ?_
  rintro e w' ⟨rfl, h3, h4, h5⟩
  exact ⟨rfl, h.add (T := stoT wr.heap.size (newS c)) h3 (fun b hb => by rw [hb]; exact Nat.le_refl _) h4⟩
theorem Sep.turn {wr w' : World} {T T' : Thing} (h : Sep w L D wr) (hi : L[i]? = some T) (hT : ∀ H, T.P wr H → (∀ b, H b → w.heap.size ≤ b ∧ b < D i) → ∃ H', T'.P w' H' ∧ (∀ b, H' b → Up H wr w' b) ∧ Chg H wr w') : Sep w (L.set i T') (fun _ => w'.heap.size) w' := by
  obtain ⟨H, h1, h2, h3, h4⟩ := h.call (Below.refl _ _) hi
  obtain ⟨H', q1, q2, q3⟩ := hT H h1 fun b hb => ⟨(h2 b hb).1, (h2 b hb).2.2⟩
  have q := h4 T' w' (T'.kept q1 (fun _ _ => rfl) q2 (fun b hb => hb.elim (fun y => Nat.lt_of_lt_of_le (h2 b y).2.1 q3.size) fun y => y.2)) q3 w' (Chg.refl _ _)
  exact q.reset
/-- a former of the store -/
theorem sep_fnew (h : Sep w L D wr) (hi : L[i]? = some (stoT sb m)) (b : Nat) (h1 : 1 ≤ b) (h2 : b ≤ 65536) :
    Calls Tryz.prog 35 #[.pointer (some ⟨sb, 0, none⟩), .int .i64 b] wr fun e w' => ∃ fb, e = .returned (.tuple #[.pointer (some ⟨fb, 0, none⟩), .nilIface]) ∧ Sep w (L.set i (sfT E sb fb m ⟨b, [], [], 0⟩)) (fun _ => w'.heap.size) w' := by
  refine (fnew_go wr sb b h1 h2).mono ?_
  rintro e w' ⟨rfl, hf, hb⟩
  refine ⟨_, rfl, h.turn hi fun H hH _ => ?_⟩
  have hA : At wr sb m H := hH
  have hs : wr.heap.size < w'.heap.size := hf.lt _ hf.own
  refine ⟨Up H wr w', ⟨fun k hk => hk.elim (fun y => Nat.lt_of_lt_of_le (hA.lt k y) hb.size) fun y => y.2, H, _, hA.kept (fun k hk => hb.block k (hA.lt k hk)) (fun _ x => x) (fun k hk => Nat.lt_of_lt_of_le (hA.lt k hk) hb.size), hf.at rfl, fun k hk e => by have := hA.lt k hk; omega, fun k hk => hk.elim .inl fun e => .inr ⟨by omega, by rw [e]; exact hs⟩⟩, fun _ x => x, Chg.of_below hb⟩
theorem sf_parts {H : Nat → Prop} (V : Env w E w.heap.size) (hold : Below w.heap.size w wr) (h : (sfT E sb fb m f).P wr H) (hH : ∀ b, H b → w.heap.size ≤ b) : ∃ F G, At wr sb m F ∧ FAt wr E sb fb f G ∧ (∀ b, F b → ¬ G b) ∧ (∀ b, F b ∨ G b → H b) ∧ Bg wr E w.heap.size F G := by
  obtain ⟨h0, F, G, h1, h2, h3, h4⟩ := h
  exact ⟨F, G, h1, h2, h3, h4, V.below hold, fun b hb => hH b (h4 b (.inl hb)), fun b hb => hH b (h4 b (.inr hb)), hold.size⟩
theorem sf_of {w' : World} {F G H : Nat → Prop} {m' : Sto} {f' : For} (h0 : ∀ b, H b → b < wr.heap.size) (h4 : ∀ b, F b ∨ G b → H b) (r : FRes F G wr E sb fb m' f' w') : ∃ H', (sfT E sb fb m' f').P w' H' ∧ (∀ b, H' b → Up H wr w' b) ∧ Chg H wr w' := by
  obtain ⟨F', G', q1, q2, q3, q4, q5, q6⟩ := r
  have c : Chg H wr w' := q6.mono h4
  refine ⟨Up H wr w', ⟨fun b hb => hb.elim (fun y => Nat.lt_of_lt_of_le (h0 b y) c.size) fun y => y.2, F', G', q1, q2, q3, fun b hb => ?_⟩, fun _ x => x, c⟩
  rcases hb with hb | hb
  · exact (q4 b hb).imp (fun y => h4 b (.inl y)) id
  · exact (q5 b hb).imp (fun y => h4 b (.inr y)) id
/-- words too -/
theorem sep_add (V : Env w E w.heap.size) (h : Sep w L D wr) (hi : L[i]? = some (sfT E sb fb m f)) {v : Value} {X : List Tx} (ok : f.Ok m) (hful : f.buf.length < f.size) (hT : Um.Txs wr v X) (hv : ∀ a n c, v = .slice (some a) n c → a.block < w.heap.size ∨ D i ≤ a.block) (hm : X.length ≤ 9223372036854775806) (hs : X.any long = false) :
    Calls Tryz.prog 37 #[.pointer (some ⟨fb, 0, none⟩), v] wr fun e w' => e = .returned (errV E (adds m f X).1) ∧ Sep w (L.set i (sfT E sb fb (adds m f X).2.1 (adds m f X).2.2)) (fun _ => w'.heap.size) w' := by
  obtain ⟨H, h1, h2, h3, h4⟩ := h.call (Below.refl _ _) hi
  obtain ⟨F, G, k1, k2, k3, k4, K⟩ := sf_parts V h3 h1 fun b hb => (h2 b hb).1
  obtain ⟨bv, mv, hf⟩ := k2.live ok.live
  refine (add_go K k1 hf k3 ok hful (Wds.of hT fun b hb a n c e => ?_) hm hs).mono ?_
  · have hH := h2 b (k4 b hb)
    rcases hv a n c e with y | y
    · have := hH.1; omega
    · have := hH.2.2; omega
  · rintro e w' ⟨rfl, r⟩
    obtain ⟨H', r1, r2, r3⟩ := sf_of h1.1 k4 r
    refine ⟨rfl, ?_⟩
    have q := h4 (sfT E sb fb (adds m f X).2.1 (adds m f X).2.2) w' ((sfT E sb fb (adds m f X).2.1 (adds m f X).2.2).kept r1 (fun _ _ => rfl) r2 (fun b hb => hb.elim (fun y => Nat.lt_of_lt_of_le (h2 b y).2.1 r3.size) fun y => y.2)) r3 w' (Chg.refl _ _)
    exact q.reset
theorem sep_finish (V : Env w E w.heap.size) (h : Sep w L D wr) (hi : L[i]? = some (sfT E sb fb m f)) (ok : f.Ok m) (hful : f.buf.length < f.size) {m' : Sto} {f' : For} (hR : fins m f = (0, m', f')) :
    Calls Tryz.prog 38 #[.pointer (some ⟨fb, 0, none⟩)] wr fun e w' => ∃ a c, e = .returned (.tuple #[.slice a f'.made.length c, .nilIface]) ∧ Sep w (L.set i (scT sb m' (.slice a f'.made.length c) f'.made)) (fun _ => w'.heap.size) w' := by
  obtain ⟨H, h1, h2, h3, h4⟩ := h.call (Below.refl _ _) hi
  obtain ⟨F, G, k1, k2, k3, k4, K⟩ := sf_parts V h3 h1 fun b hb => (h2 b hb).1
  obtain ⟨bv, mv, hf⟩ := k2.live ok.live
  refine (finish_ok K k1 hf k3 ok hful hR).mono ?_
  rintro e w' ⟨a, c, rfl, F', q1, q2, q3, q4, q5, q6, q7, q8⟩
  refine ⟨a, c, rfl, ?_⟩
  have hc : Chg H wr w' := q8.mono k4
  have hlt : ∀ b, Up H wr w' b → b < w'.heap.size := fun b hb => hb.elim (fun y => Nat.lt_of_lt_of_le (h2 b y).2.1 hc.size) fun y => y.2
  have hT : (scT sb m' (.slice a f'.made.length c) f'.made).P w' (Up H wr w') := ⟨hlt, F', q1, q3, fun b hb => (q6 b hb).imp (fun y => k4 b (.inl y)) id, fun g hg => ((q5 g hg).2.2).imp (fun y => k4 g (.inr y)) id⟩
  exact (h4 _ w' hT hc w' (Chg.refl _ _)).reset
theorem sep_sc (h : Sep w L D wr) {v : Value} {l : List Nat} (hi : L[i]? = some (scT sb m v l)) : ∃ F, At wr sb m F ∧ wr.ownsRow 0 3 1 v l.length (nts l) ∧ (∀ b, F b → w.heap.size ≤ b) ∧ Below w.heap.size w wr := by
  obtain ⟨H, h1, h2, h3, h4⟩ := h.call (Below.refl _ _) hi
  obtain ⟨_, F, k1, k2, k3, k4⟩ := h1
  exact ⟨F, k1, k2, fun b hb => (h2 b (k3 b hb)).1, h3⟩
end
end Rs
end Go.Proofs.YtohfhkdhccpoaaaGreatDoor
