/- Layer 8: the walk of StreamsKeeps. -/
import Derived.Deep.RegionHeld3
import Derived.Test.YtamlfmohalkemabZp
namespace Go.Proofs.Ytamlfmohalkemab
open Go.RowKit Go.Shelf
namespace Sm

theorem push_row {W : World} {v u : Value} {A X : List Tx} (hown : Own W v A) (h : RowAt W u X W.heap.size) (hX : 0 < X.length) (hz : A.length + X.length ≤ 8796093022208) (ty : TypeId) :
    ∃ g c W', (Builtin.append_ #[22, 22] ty #[v, u]).run Try.prog W = .ok (.slice (some ⟨g, 0, none⟩) (A.length + X.length) c) W' ∧ Own W' (.slice (some ⟨g, 0, none⟩) (A.length + X.length) c) (A ++ X) ∧ Chg (fun b => v.ownBlock = some b) W W' ∧ Up (fun b => v.ownBlock = some b) W W' g := by
  obtain ⟨i, hi, hz'⟩ := Option.map_eq_some_iff.1 info9
  simp only [Prod.mk.injEq] at hz'
  obtain ⟨hz0, hz1, hz2⟩ := hz'
  obtain ⟨ao, cap, rfl, hat⟩ := h
  obtain ⟨gs, off, rfl, hg, hc⟩ := hat hX
  obtain ⟨v', W', hrun, ho, hgr, hb⟩ := append_blk (P := Try.prog) W 22 ty 9 i _ 1 16 Try.underlying22 hi hz0 hz1 hz2 rfl (by decide) v A.length (txs A) hown ⟨gs, off, none⟩ X.length cap (txs X) (by simp [txs]) (fun j u hj => by
    have hjl := (List.getElem?_eq_some_iff.1 hj).1
    have hjl' : j < X.length := by simpa [txs] using hjl
    have hx := List.getElem?_eq_getElem (l := X) (i := j) hjl'
    rw [Go.WideShapes.add_plain, hc _ _ hx, ← hj]
    simp [txs, hx]) (by intro u hu; simp [txs] at hu; obtain ⟨a, _, rfl⟩ := hu; rfl) (by unfold maxLen; omega) (by omega)
  have ho' : Own W' v' (A ++ X) := by
    unfold Own txs
    rw [List.length_append, List.map_append]
    exact ho
  have hv' : ∃ g c, v' = .slice (some ⟨g, 0, none⟩) (A.length + X.length) c := by
    rcases ho.2 with ⟨_, e2⟩ | ⟨g, cap, cur, e1, _⟩
    · omega
    · exact ⟨g, cap, e1⟩
  obtain ⟨g, c, rfl⟩ := hv'
  have hlt := (own_lt ho (g := g) rfl).2
  refine ⟨g, c, W', hrun, ho', (Chg.refl _ W).grown hgr fun k hk => .inl hk, ?_⟩
  rcases hb with e | e
  · exact .inl e.symm
  · have e : g = W.heap.size := by simpa [Value.ownBlock] using e
    exact .inr ⟨by omega, hlt⟩
theorem Own.set {w : World} {g N c i : Nat} {L : List Tx} (h : Own w (.slice (some ⟨g, 0, none⟩) N c) L) (hN : L.length = N) (hi : i < L.length) (x : Tx) :
    (∃ u, w.cell? ⟨g, i, none⟩ = some u) ∧ w.frozen? ⟨g, i, none⟩ = false ∧ Own (w.setCell ⟨g, i, none⟩ (.string x)) (.slice (some ⟨g, 0, none⟩) N c) (L.set i x) := by
  subst hN
  have hl := h.1
  refine ⟨⟨_, (World.ownsRow.cellAt h i (by omega)).trans (List.getElem?_eq_getElem (by omega))⟩, World.ownsRow.frozenAt h i, ?_⟩
  have q := (World.ownsRow.stored h i (.string x)).1
  unfold Own txs
  rw [List.length_set, List.map_set]
  exact q
theorem own_front {w : World} {ao : Option Addr} {N c k : Nat} {A X : List Tx} (h : Own w (.slice ao N c) (A ++ X)) (hk : k = A.length) : RowAt w (.slice ao k c) A w.heap.size := by
  subst hk
  obtain ⟨ao', c', e, hat⟩ := own_row h
  injection e with e1 e2 e3
  subst e1 e3
  refine ⟨ao, c, rfl, fun h0 => ?_⟩
  obtain ⟨g, off, e1, e2, e3⟩ := hat (by simp; omega)
  refine ⟨g, off, e1, e2, fun j x hj => e3 j x ?_⟩
  rw [List.getElem?_append_left (List.getElem?_eq_some_iff.1 hj).1]
  exact hj
/-- a row that is written into -/
structure Wri (g N c : Nat) (V wr : World) : Prop where
  row : ∃ L, L.length = N ∧ Own wr (.slice (some ⟨g, 0, none⟩) N c) L
  chg : Chg (fun b => b = g) V wr
theorem Wri.put {g N c i : Nat} {V wr : World} (h : Wri g N c V wr) (hi : i < N) (x : Tx) : (∃ u, wr.cell? ⟨g, i, none⟩ = some u) ∧ wr.frozen? ⟨g, i, none⟩ = false ∧ Wri g N c V (wr.setCell ⟨g, i, none⟩ (.string x)) := by
  obtain ⟨⟨L, hl, ho⟩, hc⟩ := h
  obtain ⟨h1, h2, h3⟩ := ho.set (i := i) hl (by omega) x
  exact ⟨h1, h2, ⟨L.set i x, by simpa using hl, h3⟩, hc.setCell (.inl rfl) _⟩
/-- a row that grows: k texts more -/
structure Gro (v0 : Value) (n : Nat) (V : World) (v : Value) (k : Nat) (wr : World) : Prop where
  row : ∃ L, L.length = n + k ∧ Own wr v L
  blk : ∀ g, v.ownBlock = some g → v0.ownBlock = some g ∨ V.heap.size ≤ g
  chg : Chg (fun b => v0.ownBlock = some b) V wr
theorem Gro.push {v0 v : Value} {n k : Nat} {V wr : World} (h : Gro v0 n V v k wr) (x : Tx) (hz : n + k + 1 ≤ 8796093022208) (ty : TypeId) :
    ∃ g c W', (Builtin.append_ #[22, 22] ty #[v, .slice (some ⟨wr.heap.size, 0, none⟩) 1 1]).run Try.prog (wr.alloc (.cells #[.string x] 9)) = .ok (.slice (some ⟨g, 0, none⟩) (n + k + 1) c) W' ∧ Gro v0 n V (.slice (some ⟨g, 0, none⟩) (n + k + 1) c) (k + 1) W' := by
  obtain ⟨⟨L, hl, ho⟩, hb, hc⟩ := h
  obtain ⟨g, c, W', hrun, ho', hc', hu, _⟩ := push_tx x ho (by omega) 22 ty Try.underlying22
  rw [hl] at hrun ho'
  have s1 := hc.size
  refine ⟨g, c, W', hrun, ⟨L ++ [x], by simp; omega, ho'⟩, fun g' hg' => ?_, hc.on hc' fun i hi => ?_⟩
  · have e : g = g' := by injection hg'
    subst e
    rcases hu with e | e
    · exact hb g e
    · exact .inr (by omega)
  · rcases hb i hi with e | e
    · exact .inl e
    · have := (own_lt ho hi).2
      exact .inr ⟨e, this⟩
theorem Gro.put {a : Option Addr} {n c i : Nat} {V wr : World} (h : Gro (.slice a n c) n V (.slice a n c) 0 wr) (hi : i < n) (x : Tx) :
    ∃ g, a = some ⟨g, 0, none⟩ ∧ (∃ u, wr.cell? ⟨g, i, none⟩ = some u) ∧ wr.frozen? ⟨g, i, none⟩ = false ∧ Gro (.slice a n c) n V (.slice a n c) 0 (wr.setCell ⟨g, i, none⟩ (.string x)) := by
  obtain ⟨⟨L, hl, ho⟩, hb, hc⟩ := h
  rcases ho.2 with ⟨_, e2⟩ | ⟨g, cap, cur, e1, _⟩
  · omega
  · injection e1 with e1 e2 e3
    subst e1
    obtain ⟨h1, h2, h3⟩ := ho.set (i := i) (by omega) (by omega) x
    exact ⟨g, rfl, h1, h2, ⟨L.set i x, by simpa using hl, h3⟩, hb, hc.setCell (p := ⟨g, i, none⟩) (.inl rfl) _⟩
/-- what is as it was: what is older than w, and the stream's own blocks -/
structure Kep (w V : World) (lo hi : Nat) (W : World) : Prop where
  old : Below w.heap.size w W
  kep : ∀ b, lo ≤ b → b < hi → W.heap[b]? = V.heap[b]?
  sz : hi ≤ W.heap.size
theorem Kep.chg {w V W W' : World} {lo hi : Nat} {F : Nat → Prop} (h : Kep w V lo hi W) (c : Chg F W W') (hF : ∀ b, F b → w.heap.size ≤ b ∧ (b < lo ∨ hi ≤ b)) : Kep w V lo hi W' :=
  ⟨h.old.trans (c.below h.old.size fun b hb => (hF b hb).1), fun b h1 h2 => (c.block b (Nat.lt_of_lt_of_le h2 h.sz) fun e => by rcases (hF b e).2 with q | q <;> omega).trans (h.kep b h1 h2), Nat.le_trans h.sz c.size⟩
theorem Kep.below {w V W W' : World} {lo hi : Nat} (h : Kep w V lo hi W) (c : Below W.heap.size W W') : Kep w V lo hi W' := h.chg (F := fun _ => False) (Chg.of_below c) (fun _ h => h.elim)
abbrev tzz : Tx := ⟨#[122, 122]⟩
abbrev tzy : Tx := ⟨#[122, 121]⟩

set_option maxRecDepth 100000 in
set_option maxHeartbeats 8000000 in
theorem keeps_walk {w : World} {v : Value} {A : List Tx} (h : CRow w v A (fun _ => True)) (hz : A.length ≤ 1048576) :
    Calls Try.prog 3 #[v] w fun e w' => e = .returned (.bool true) ∧ Below w.heap.size w w' := by
  have H := hide h
  obtain ⟨ao, cA, rfl⟩ := h.slice
  clear h
  go_enter Try.func3, Try.ntmps3
  go_wp2_with fail
  refine (wakes_true w).mono ?_
  rintro e w1 ⟨rfl, b1⟩
  have s1 := b1.size
  have HF1 := hide b1
  clear b1
  go_wp2_with fail
  refine (twin_any (((unhide H).row.below (unhide HF1)).mono s1) (by omega)).mono ?_
  rintro e w2 ⟨a2, c2, rfl, ho2, hn2, hb2⟩
  have s2 := hb2.size
  have bz : Below w2.heap.size w2 (w2.alloc (.cells #[.string tzz, .string tzy] 9)) := (Below.refl _ w2).alloc (Nat.le_refl _) _
  obtain ⟨g, c3, W3, hrun, ho3, hc3, hu3⟩ := push_row (ho2.below bz) (by have := row_new w2 [tzz, tzy] 9; rw [World.size_alloc]; exact this) (by simp) (by simp; omega) 22
  have hgw : w.heap.size ≤ g := by
    rcases hu3 with e | e
    · have := hn2 g e; omega
    · have := e.1; simp at this; omega
  have s3 := hc3.size
  rw [World.size_alloc] at s3
  have b3 : Below w.heap.size w W3 := ((unhide HF1).trans (hb2.mono s1)).trans ((bz.mono (by omega)).trans (hc3.below (by simp; omega) fun b hb => by have := hn2 b hb; omega))
  have HAP := hide hrun
  have HF3 := hide (⟨ho3, b3⟩ : _ ∧ _)
  clear HF1 ho2 hn2 hb2 bz hrun ho3 hc3 hu3 b3
  simp only [List.length_cons, List.length_nil, Nat.zero_add, Nat.reduceAdd] at HAP HF3
  have hgl := (own_lt (unhide HF3).1 (g := g) rfl).2
  have hcc : A.length + 2 ≤ c3 := by
    obtain ⟨_, _, e, hc, _⟩ := (unhide HF3).1.crow
    injection e with _ e2 e3
    simp at hc
    omega
  go_wp2_with (at_builtin; refine wpList_append_run rfl _ _ 22 22 rfl _ _ rfl rfl (.slice (some ⟨g, 0, none⟩) (A.length + 2) c3) W3 (unhide HAP) ?_)
  refine (of_new (own_front (unhide HF3).1 rfl) (by omega)).mono ?_
  rintro e w4 ⟨gf, lb, rfl, hw4, hb4⟩
  have s4 := hb4.size
  obtain ⟨V4, hV4⟩ : ∃ V4, V4 = w4.alloc (.cells #[.func (.func gf) #[] lb] 27) := ⟨_, rfl⟩
  have bx4 : Boxed V4 w4.heap.size 27 (.func (.func gf) #[] lb) := by rw [hV4]; exact Boxed.new _ _ _
  have b4V : Below w4.heap.size w4 V4 := by rw [hV4]; exact (Below.refl _ w4).alloc (Nat.le_refl _) _
  have sV4 : V4.heap.size = w4.heap.size + 1 := by rw [hV4]; simp
  have KO : Hid (∀ W', w4.heap.size ≤ W'.heap.size → (∀ b, W3.heap.size ≤ b → b < w4.heap.size → W'.heap[b]? = V4.heap[b]?) → Walks Try.prog gf lb (ofS A) W'.heap.size W') := fun W' hs hk => hw4 W' hs fun b h1 h2 => (hk b h1 h2).trans (b4V.block b h2)
  have b3V : Below W3.heap.size W3 V4 := hb4.trans (b4V.mono s4)
  have HF4 := hide (⟨(unhide HF3).1.below b3V, (unhide HF3).2.trans (b3V.mono (unhide HF3).2.size), bx4⟩ : _ ∧ _ ∧ _)
  clear HF3 HAP hw4 hb4 bx4 b4V b3V
  go_wp2_with fail
  rw [← hV4]
  obtain ⟨ho4, b4, bx4⟩ := unhide HF4
  refine (same_true (own_front ho4 rfl) (((unhide H).row.below b4).mono b4.size) (by omega)).mono ?_
  rintro e w5 ⟨rfl, hb5⟩
  have s5 := hb5.size
  have ho5 := ho4.below hb5
  have k1 : w5.cell? ⟨g, A.length, none⟩ = some (.string tzz) := by
    exact own_cell ho5 (by simp) (by simp)
  have k2 : w5.cell? ⟨g, A.length + 1, none⟩ = some (.string tzy) := by
    exact own_cell ho5 (by simp) (by rw [List.getElem?_append_right (by omega)]; simp)
  have KP : Hid (Kep w V4 W3.heap.size (w4.heap.size + 1) w5) := ⟨b4.trans (hb5.mono b4.size), fun b h1 h2 => hb5.block b (by omega), by omega⟩
  have bxV : Hid (Boxed V4 w4.heap.size 27 (.func (.func gf) #[] lb)) := bx4
  have HF5 : Hid (Wri g (A.length + 2) c3 w5 w5) := ⟨⟨_, by simp, ho5⟩, Chg.refl _ _⟩
  have BX : Hid (∀ W, Kep w V4 W3.heap.size (w4.heap.size + 1) W → Boxed W w4.heap.size 27 (.func (.func gf) #[] lb) ∧ Walks Try.prog gf lb (ofS A) W.heap.size W) := fun W hK =>
    ⟨(hK.kep _ s4 (by omega)).trans bx4, unhide KO W (by have := hK.sz; omega) fun b h1 h2 => hK.kep b h1 (by omega)⟩
  clear HF4 ho4 b4 bx4 hb5 ho5 hV4 KO bxV
  have hlt1 : (A.length : Int) < (A.length : Int) + 2 := by omega
  have hlt2 : (A.length : Int) + 1 < (A.length : Int) + 2 := by omega
  have hle0 : (0 : Int) ≤ (A.length : Int) := by omega
  go_wp2
  clear k1 k2 hlt1 hlt2 hle0
  go_loopw [48] (fun p wr => ∃ (k : Nat), p = .int .i64 (k : Int) ∧ k ≤ A.length + 2 ∧ Hid (Wri g (A.length + 2) c3 w5 wr)) (fun p _ => A.length + 2 - (intOf p).toNat)
  case atStart => exact ⟨0, rfl, Nat.zero_le _, HF5⟩
  case round =>
    obtain ⟨k, rfl, hk, HK⟩ := hrel
    by_cases hkl : k < A.length + 2
    · obtain ⟨⟨u, k1⟩, k2, k3⟩ := (unhide HK).put hkl ⟨#[109, 97, 114, 107]⟩
      have HK3 := hide k3
      have hki : (k : Int) < (A.length : Int) + 2 := by omega
      clear k3
      go_wp2
      go_roundw
      case rel => exact ⟨k + 1, by simp, by omega, HK3⟩
      case measure => simp [intOf]; omega
    · have KP6 : Hid (Kep w V4 W3.heap.size (w4.heap.size + 1) wr) := (unhide KP).chg (unhide HK).chg fun b hb => by
        have e : b = g := hb
        omega
      obtain rfl : k = A.length + 2 := by omega
      have hnk : ¬ ((A.length : Int) + 2 < (A.length : Int) + 2) := by omega
      clear KP HK HF5 hk hkl
      go_wp2_with fail
      obtain ⟨V, hV⟩ : ∃ V, V = wr := ⟨_, rfl⟩
      subst hV
      refine (rof ((unhide H).below (unhide KP6).old) (by omega)).mono ?_
      rintro e w7 ⟨aw, cw, rfl, ho7, hn7, hb7⟩
      have KP7 := hide ((unhide KP6).below hb7)
      have O7 := hide ho7
      have s7 := hb7.size
      have hOl : (ofS A).length ≤ 1048576 := Nat.le_trans (ofS_len A) hz
      have kb := ((unhide BX) _ (unhide KP7)).1.cell
      clear KP6 ho7 hn7 hb7
      generalize ofS A = L at *
      have htk : L.take (1099511627776 : Int).toNat = L := List.take_of_length_le (by show L.length ≤ (1099511627776 : Int).toNat; omega)
      have LS : Hid (∀ W, Kep w V4 W3.heap.size (w4.heap.size + 1) W → Calls Try.prog 9 #[.agg #[.func (.func gf) #[] lb], .int .i64 1099511627776] W fun e w' => ∃ sl, e = .returned sl ∧ Own w' sl L ∧ (∀ g, sl.ownBlock = some g → W.heap.size ≤ g) ∧ Below W.heap.size W w') := fun W hK => by
        have q := list_any ((unhide BX) W hK).2.gives (Below.refl _ _) (Nat.le_refl _) (by omega) 1099511627776
        rw [htk] at q
        exact q
      have H8 := hide (unhide LS w7.drew ((unhide KP7).below ((Below.refl _ _).drew)))
      go_wp2
      go_region_held3 (fun w' => w'.cell? ⟨w4.heap.size, 0, none⟩ = some (.func (.func gf) #[] lb))
        (first | exact kb | exact kb8 | exact kb9)
        (first
          | (refine (unhide H8).mono ?_; rintro e w8 ⟨sa, rfl, ho8, hn8, hb8⟩; obtain ⟨a8, c8, rfl⟩ := ho8.slice; have KP8 := hide (((unhide KP7).below ((Below.refl _ _).drew)).below hb8); have kb8 := ((unhide BX) _ (unhide KP8)).1.cell; have O8 := hide (⟨ho8, hn8, hb8⟩ : _ ∧ _ ∧ _); have H9 := hide (unhide LS w8 (unhide KP8)); clear H8 ho8 hn8 hb8)
          | (refine (unhide H9).mono ?_; rintro e w9 ⟨sb, rfl, ho9, hn9, hb9⟩; obtain ⟨a9, c9, rfl⟩ := ho9.slice; have KP9 := hide ((unhide KP8).below hb9); have kb9 := ((unhide BX) _ (unhide KP9)).1.cell; have O9 := hide (⟨ho9, hn9, hb9⟩ : _ ∧ _ ∧ _); clear H9 ho9 hn9 hb9))
      have s9 : w8.heap.size ≤ w9.heap.size := (unhide O9).2.2.size
      have s8 : w7.heap.size ≤ w8.heap.size := (unhide O8).2.2.size
      have z7 := (unhide KP7).sz
      clear kb kb8 kb9
      try clear hHeld
      have W9 : Hid (Own w9 (.slice aw L.length cw) L ∧ Own w9 (.slice a8 L.length c8) L ∧ Own w9 (.slice a9 L.length c9) L ∧ (∀ g, (Value.slice aw L.length cw).ownBlock = some g → g < w7.heap.size) ∧ (∀ g, (Value.slice a8 L.length c8).ownBlock = some g → w7.heap.size ≤ g ∧ g < w8.heap.size) ∧ (∀ g, (Value.slice a9 L.length c9).ownBlock = some g → w8.heap.size ≤ g ∧ g < w9.heap.size)) := by
        obtain ⟨p1, p2, p3⟩ := unhide O8
        obtain ⟨q1, q2, q3⟩ := unhide O9
        have b8 : Below w7.heap.size w7 w8 := (Below.refl _ _).drew.trans p3
        exact ⟨((unhide O7).below b8).below q3, p1.below q3, q1, fun g hg => (own_lt (unhide O7) hg).2, fun g hg => ⟨p2 g hg, (own_lt p1 hg).2⟩, fun g hg => ⟨q2 g hg, (own_lt q1 hg).2⟩⟩
      clear O7 O8 O9 KP7 KP8 LS
      go_wp2_with fail
      refine (same_true (own_row (unhide W9).2.1) (own_row (unhide W9).1) (by omega)).mono ?_
      rintro e w10 ⟨rfl, hb10⟩
      have s10 := hb10.size
      have B10 := hide hb10
      clear hb10
      go_wp2_with fail
      refine (same_true (own_row ((unhide W9).2.2.1.below (unhide B10))) (own_row ((unhide W9).1.below (unhide B10))) (by omega)).mono ?_
      rintro e w11 ⟨rfl, hb11⟩
      have s11 := hb11.size
      have b911 := (unhide B10).trans (hb11.mono s10)
      have KP11 := hide ((unhide KP9).below b911)
      have W11 : Hid (Own w11 (.slice aw L.length cw) L ∧ Own w11 (.slice a9 L.length c9) L ∧ Gro (.slice a8 L.length c8) L.length w11 (.slice a8 L.length c8) 0 w11) := by
        obtain ⟨p1, p2, p3, p4, p5, p6⟩ := unhide W9
        exact ⟨p1.below b911, p3.below b911, ⟨L, by simp, p2.below b911⟩, fun g hg => .inl hg, Chg.refl _ _⟩
      have N11 : Hid ((∀ g, (Value.slice aw L.length cw).ownBlock = some g → g < w7.heap.size) ∧ (∀ g, (Value.slice a8 L.length c8).ownBlock = some g → w7.heap.size ≤ g ∧ g < w8.heap.size) ∧ (∀ g, (Value.slice a9 L.length c9).ownBlock = some g → w8.heap.size ≤ g ∧ g < w9.heap.size)) := (unhide W9).2.2.2
      clear W9 KP9 B10 hb11 b911
      go_wp2
      go_loopw [73] (fun p wr => ∃ (k : Nat), p = .int .i64 (k : Int) ∧ k ≤ L.length ∧ Hid (Gro (.slice a8 L.length c8) L.length w11 (.slice a8 L.length c8) 0 wr)) (fun p _ => L.length - (intOf p).toNat)
      case atStart => exact ⟨0, rfl, Nat.zero_le _, (unhide W11).2.2⟩
      case round =>
        obtain ⟨k, rfl, hk, HK⟩ := hrel
        by_cases hkl : k < L.length
        · obtain ⟨ga, rfl, ⟨u, k1⟩, k2, k3⟩ := (unhide HK).put hkl ⟨#[111, 116, 104, 101, 114, 32, 109, 97, 114, 107]⟩
          have HK3 := hide k3
          clear k3
          go_wp2
          go_roundw
          case rel => exact ⟨k + 1, by simp, by omega, HK3⟩
          case measure => simp [intOf]; omega
        · go_wp2
          obtain ⟨V9, hV9⟩ : ∃ V, V = wr := ⟨_, rfl⟩
          subst hV9
          go_loopw [81, 10] (fun p s wr => ∃ (k : Nat) (a : Option Addr) (c : Nat), p = .int .i64 (k : Int) ∧ s = .slice a (L.length + k) c ∧ k ≤ 20 ∧ Hid (Gro (.slice a8 L.length c8) L.length w11 (.slice a (L.length + k) c) k wr)) (fun p _ _ => 20 - (intOf p).toNat)
          case atStart => exact ⟨0, a8, c8, rfl, rfl, by omega, HK⟩
          case round =>
            obtain ⟨k, a, c, rfl, rfl, hk, HG⟩ := hrel
            by_cases hkl : k < 20
            · obtain ⟨g9, d9, W', hrun, hg'⟩ := (unhide HG).push ⟨#[103, 114, 111, 119, 110]⟩ (by omega) 22
              have HAP := hide hrun
              have HG' := hide hg'
              have hki : (k : Int) < 20 := by omega
              clear hrun hg'
              go_wp2_with (at_builtin; refine wpList_append_run rfl _ _ 22 22 rfl _ _ rfl rfl (.slice (some ⟨g9, 0, none⟩) (L.length + k + 1) d9) W' (unhide HAP) ?_)
              go_roundw
              case rel => exact ⟨k + 1, some ⟨g9, 0, none⟩, d9, by simp, rfl, by omega, HG'⟩
              case measure => simp [intOf]; omega
            · obtain rfl : k = 20 := by omega
              obtain ⟨n1, n2, n3⟩ := unhide N11
              have cg := (unhide HG).chg
              have hw' : Own wr (.slice aw L.length cw) L := (unhide W11).1.kept fun g hg => cg.block g (own_lt (unhide W11).1 hg).2 (fun e => by have := n1 g hg; have := n2 g e; omega)
              have hb' : Own wr (.slice a9 L.length c9) L := (unhide W11).2.1.kept fun g hg => cg.block g (own_lt (unhide W11).2.1 hg).2 (fun e => by have := n3 g hg; have := n2 g e; omega)
              have KPe := hide ((unhide KP11).chg cg fun b hb => by have := n2 b hb; omega)
              have OW := hide (⟨hw', hb'⟩ : _ ∧ _)
              have hlz : (L.length : Int) + 20 ≤ 1048596 := by omega
              clear n1 n2 n3 cg hw' hb' HG W11 N11 KP11 hk hkl
              go_wp2_with fail
              refine (same_true (own_row (unhide OW).2) (own_row (unhide OW).1) (by omega)).mono ?_
              rintro e w12 ⟨rfl, hb12⟩
              have KP12 := hide ((unhide KPe).below hb12)
              have kb := ((unhide BX) _ (unhide KP12)).1.cell
              have OW12 := hide ((unhide OW).1.below hb12)
              clear OW KPe hb12
              go_wp2_with fail
              refine (is_true ((unhide BX) _ (unhide KP12)).2.gives (Below.refl _ _) (Nat.le_refl _) (by omega) (own_row (unhide OW12))).mono ?_
              rintro e w13 ⟨rfl, hb13⟩
              have HB := hide ((unhide KP12).below hb13).old
              clear hb13
              go_wp2
              go_ret
              exact ⟨rfl, unhide HB⟩
end Sm
end Go.Proofs.Ytamlfmohalkemab
