/- Layer 10: the law MergeSame. -/
import Derived.Laws.Cover1
import Derived.Laws.OwnMore
import Derived.Test.YtohfhkdhccpoaaaGreatDoorMo
import Derived.Test.YtohfhkdhccpoaaaGreatDoorGr
namespace Go.Proofs.YtohfhkdhccpoaaaGreatDoor
open Go.RowKit Go.Shelf
namespace Rs
open Sm (Tx ofS)
theorem fz_perm {A B : List Tx} (h : A.Perm B) : fz A = fz B := by
  induction h with
  | nil => rfl
  | cons x _ ih => rw [fz_cons, fz_cons, ih]
  | swap x y l => rw [fz_cons, fz_cons, fz_cons, fz_cons]; omega
  | trans _ _ h1 h2 => rw [h1, h2]
theorem fz_few {Y : List Tx} (h : ∀ y ∈ Y, y.size ≤ 255) : fz Y ≤ 257 * Y.length := by
  induction Y with
  | nil => simp [fz]
  | cons y t ih =>
    have h1 := ih fun z hz => h z (List.mem_cons_of_mem _ hz)
    have h2 := h y (List.mem_cons_self ..)
    rw [fz_cons, List.length_cons]
    omega
theorem texts_set (D : List Tx) (i : Nat) (y : Tx) : (Um.texts D).set i (.string y) = Um.texts (D.set i y) := by
  unfold Um.texts
  rw [List.map_set]
theorem own_set {B : Nat} {W : World} {g n c : Nat} {D : List Tx} (h : Um.OwnT B W (.slice (some ⟨g, 0, none⟩) n c) D) (hn : n = D.length) (i : Nat) (y : Tx) : Um.OwnT B (W.setCell ⟨g, i, none⟩ (.string y)) (.slice (some ⟨g, 0, none⟩) n c) (D.set i y) := by
  subst hn
  have h' : W.ownsRow B 9 1 (.slice (some ⟨g, 0, none⟩) D.length c) D.length (Um.texts D) := h
  have q := (h'.stored i (.string y)).1
  rw [texts_set] at q
  unfold Um.OwnT
  rw [List.length_set]
  exact q
/-- words that were turned about, and some of them again behind -/
structure Tn (w : World) (D : List Tx) (k : Nat) (u : Value) (D' : List Tx) (W : World) : Prop where
  own : Um.OwnT w.heap.size W u D'
  pm : ∃ Y, D'.Perm (D ++ Y) ∧ Y.length = k ∧ ∀ y ∈ Y, y ∈ D
  bl : Below w.heap.size w W
theorem Tn.len {w : World} {D : List Tx} {k : Nat} {u : Value} {D' : List Tx} {W : World} (h : Tn w D k u D' W) : D'.length = D.length + k := by
  obtain ⟨Y, p, e, _⟩ := h.pm
  rw [p.length_eq, List.length_append, e]
theorem Tn.mem {w : World} {D : List Tx} {k : Nat} {u : Value} {D' : List Tx} {W : World} (h : Tn w D k u D' W) (x : Tx) : x ∈ D' ↔ x ∈ D := by
  obtain ⟨Y, p, e, hy⟩ := h.pm
  rw [p.mem_iff, List.mem_append]
  exact ⟨fun q => q.elim id (hy x), .inl⟩
theorem Tn.fz {w : World} {D : List Tx} {k : Nat} {u : Value} {D' : List Tx} {W : World} (h : Tn w D k u D' W) (hs : ∀ x ∈ D, x.size ≤ 255) : fz D' ≤ fz D + 257 * k := by
  obtain ⟨Y, p, e, hy⟩ := h.pm
  rw [fz_perm p, fz_app]
  have := fz_few fun y q => hs y (hy y q)
  omega
theorem Tn.ofs {w : World} {D : List Tx} {k : Nat} {u : Value} {D' : List Tx} {W : World} (h : Tn w D k u D' W) : ofS D' = ofS D := Sm.rs_ext (Sm.ofS_rs _) (Sm.ofS_rs _) fun x => by rw [Sm.ofS_mem, Sm.ofS_mem]; exact h.mem x
theorem Tn.swap {w : World} {D : List Tx} {k g n c : Nat} {D' : List Tx} {W : World} {i j : Nat} {x y : Tx} (h : Tn w D k (.slice (some ⟨g, 0, none⟩) n c) D' W) (hn : n = D'.length) (hi : D'[i]? = some x) (hj : D'[j]? = some y) :
    Tn w D k (.slice (some ⟨g, 0, none⟩) n c) ((D'.set i y).set j x) ((W.setCell ⟨g, i, none⟩ (.string y)).setCell ⟨g, j, none⟩ (.string x)) := by
  obtain ⟨li, ei⟩ := List.getElem?_eq_some_iff.1 hi
  obtain ⟨lj, ej⟩ := List.getElem?_eq_some_iff.1 hj
  have hg : w.heap.size ≤ g := (own_new h.own _ _ _ rfl).1
  refine ⟨own_set (own_set h.own hn i y) (by rw [List.length_set]; exact hn) j x, ?_, ?_⟩
  · obtain ⟨Y, p, e, hy⟩ := h.pm
    subst ei ej
    exact ⟨Y, (List.set_set_perm li lj).trans p, e, hy⟩
  · exact (h.bl.setCell (p := ⟨g, i, none⟩) hg _).setCell (p := ⟨g, j, none⟩) hg _
theorem Tn.push {w : World} {D : List Tx} {k : Nat} {u v : Value} {D' : List Tx} {W W' : World} {x : Tx} (h : Tn w D k u D' W) (hx : x ∈ D) (ho : W'.ownsRow w.heap.size 9 1 v (D'.length + 1) (Um.texts D' ++ [.string x])) (hb : Below w.heap.size w W') : Tn w D (k + 1) v (D' ++ [x]) W' := by
  refine ⟨Um.ownT_push ho, ?_, hb⟩
  obtain ⟨Y, p, e, hy⟩ := h.pm
  refine ⟨Y ++ [x], ?_, by simp [e], fun y q => ?_⟩
  · rw [← List.append_assoc]
    exact p.append_right [x]
  · rcases List.mem_append.1 q with q | q
    · exact hy y q
    · rw [List.mem_singleton.1 q]; exact hx
theorem Tn.drew {w : World} {D : List Tx} {k : Nat} {u : Value} {D' : List Tx} {W : World} (h : Tn w D k u D' W) : Tn w D k u D' W.drew := ⟨h.own.drew, h.pm, h.bl.drew⟩
set_option maxRecDepth 100000 in
set_option maxHeartbeats 4000000 in
theorem same10 {w : World} {v o : Value} {X : List Tx} {K : List Int} {E : Nat → Addr} (V : EnvZ w E w.heap.size) (hT : Um.Txs w v X) (hn : X.length ≤ 9223372036854775807) (hO : Nums w o K) (hkl : K.length ≤ 9223372036854775807) (hkb : ∀ k ∈ K, k ≤ 9223372036854775807) (i2 i3 i4 i5 i6 : Int) (h2 : i2 ≤ 9223372036854775807) (h3 : i3 ≤ 9223372036854775807) (h4 : i4 ≤ 9223372036854775807) (h5 : i5 ≤ 9223372036854775807) :
    Calls Tryz.prog 5 #[.agg #[v, o, .int .i64 i2, .int .i64 i3, .int .i64 i4, .int .i64 i5, .int .i64 i6]] w fun e w' => e = .returned (.bool true) ∧ Below w.heap.size w w' := by
  have HV := hide V
  have HWK : Hid (∀ W, Below w.heap.size w W → Calls Tryz.prog 11 #[] W fun e w' => e = .returned (.bool true) ∧ Below W.heap.size W w') := fun W hW => wakes_any ((V.below hW).over hW.size)
  have HFI : Hid (∀ W, Below w.heap.size w W → Calls Tryz.prog 14 #[v] W fun e w' => ∃ u D z, e = .returned (.tuple #[u, .int .i64 (z : Nat)]) ∧ z ≤ 1048832 ∧ Fit D z ∧ Um.OwnT W.heap.size w' u D ∧ Below W.heap.size W w') := fun W hW => fit_any (hT.below hW) hn
  obtain ⟨ao, cap, rfl, -⟩ := hT
  obtain ⟨ko, kc, rfl, hko⟩ := hO
  have HKO := hide hko
  have HKB := hide hkb
  obtain ⟨xb, hxb⟩ : ∃ xb, w.heap.size = xb := ⟨_, rfl⟩
  obtain ⟨q2, hq2, hqb2, hr2⟩ := setting 40 i2 h2
  obtain ⟨b2, hb2⟩ : ∃ b : Nat, 1 + (q2 : Int) % 40 = (b : Int) := ⟨1 + q2 % 40, by omega⟩
  have lb2 : 1 ≤ b2 := by omega
  have ub2 : b2 ≤ 40 := by omega
  obtain ⟨q3, hq3, hqb3, hr3⟩ := setting 40 i3 h3
  obtain ⟨b3, hb3⟩ : ∃ b : Nat, 1 + (q3 : Int) % 40 = (b : Int) := ⟨1 + q3 % 40, by omega⟩
  have lb3 : 1 ≤ b3 := by omega
  have ub3 : b3 ≤ 40 := by omega
  obtain ⟨q4, hq4, hqb4, hr4⟩ := setting 12 i4 h4
  obtain ⟨b4, hb4⟩ : ∃ b : Nat, 2 + (q4 : Int) % 12 = (b : Int) := ⟨2 + q4 % 12, by omega⟩
  have lb4 : 2 ≤ b4 := by omega
  have ub4 : b4 ≤ 13 := by omega
  obtain ⟨q5, hq5, hqb5, hr5⟩ := setting 12 i5 h5
  obtain ⟨b5, hb5⟩ : ∃ b : Nat, 2 + (q5 : Int) % 12 = (b : Int) := ⟨2 + q5 % 12, by omega⟩
  have lb5 : 2 ≤ b5 := by omega
  have ub5 : b5 ≤ 13 := by omega
  obtain ⟨i0, hinf, hz0, hz1, hz2⟩ := Um.info_parts Um.infoT
  have HINF := hide hinf
  clear V hko hkb
  go_enter Tryz.func5, Tryz.ntmps5
  go_wp2_with fail
  have hB0 : Below w.heap.size w (w.alloc (.cells #[.slice ao X.length cap, .slice ko K.length kc, .int .i64 i2, .int .i64 i3, .int .i64 i4, .int .i64 i5, .int .i64 i6] 51)) := (Below.refl _ w).alloc (Nat.le_refl _) _
  have hx0 : ∀ k u, (#[.slice ao X.length cap, .slice ko K.length kc, .int .i64 i2, .int .i64 i3, .int .i64 i4, .int .i64 i5, .int .i64 i6] : Array Value)[k]? = some u → (w.alloc (.cells #[.slice ao X.length cap, .slice ko K.length kc, .int .i64 i2, .int .i64 i3, .int .i64 i4, .int .i64 i5, .int .i64 i6] 51)).cell? ⟨xb, k, none⟩ = some u := fun k u hu => by
    rw [← hxb, World.cell?_alloc_at _ _ _ _ rfl]
    exact hu
  have hxl : xb < (w.alloc (.cells #[.slice ao X.length cap, .slice ko K.length kc, .int .i64 i2, .int .i64 i3, .int .i64 i4, .int .i64 i5, .int .i64 i6] 51)).heap.size := by rw [← hxb]; simp
  refine (unhide HWK _ hB0).mono ?_
  generalize w.alloc _ = w0 at *
  rintro e w1 ⟨rfl, h1⟩
  have bw1 : Below w.heap.size w w1 := hB0.trans (h1.mono hB0.size)
  have HB1 := hide bw1
  have HX : Hid (∀ W, Below w1.heap.size w1 W → W.cell? ⟨xb, 0, none⟩ = some (.slice ao X.length cap) ∧ W.cell? ⟨xb, 1, none⟩ = some (.slice ko K.length kc) ∧ W.cell? ⟨xb, 2, none⟩ = some (.int .i64 i2) ∧ W.cell? ⟨xb, 3, none⟩ = some (.int .i64 i3) ∧ W.cell? ⟨xb, 4, none⟩ = some (.int .i64 i4) ∧ W.cell? ⟨xb, 5, none⟩ = some (.int .i64 i5) ∧ W.cell? ⟨xb, 6, none⟩ = some (.int .i64 i6)) := fun W hW => by
    have hk : ∀ k, W.cell? ⟨xb, k, none⟩ = w0.cell? ⟨xb, k, none⟩ := fun k => (hW.cell (p := ⟨xb, k, none⟩) (Nat.lt_of_lt_of_le hxl h1.size)).trans (h1.cell (p := ⟨xb, k, none⟩) hxl)
    exact ⟨(hk 0).trans (hx0 0 _ rfl), (hk 1).trans (hx0 1 _ rfl), (hk 2).trans (hx0 2 _ rfl), (hk 3).trans (hx0 3 _ rfl), (hk 4).trans (hx0 4 _ rfl), (hk 5).trans (hx0 5 _ rfl), (hk 6).trans (hx0 6 _ rfl)⟩
  have HF1 := hide (unhide HFI w1 bw1)
  obtain ⟨x0, -⟩ := unhide HX w1 (Below.refl _ _)
  clear hx0 hxl h1 hB0 HWK HFI bw1
  go_wp2_with (go_at_call 14; refine (unhide HF1).mono ?_; rintro e w2 ⟨u, D, z, rfl, hz, hF, hO, bb2⟩; have HF := hide hF; have HO := hide hO; have HB2 := hide bb2; have HTW := hide (Um.twin_any u D w2 hO.txs (by have := fz_len D; rw [hF.sum] at this; omega)); clear hF hO bb2 HF1 x0)
  have hDl : 2 * D.length ≤ z := by have := fz_len D; rw [(unhide HF).sum] at this; exact this
  refine (unhide HTW).mono ?_
  rintro e w3 ⟨t, rfl, ho3, bb3⟩
  have HT3 : Hid (Tn w2 D 0 t D w3) := ⟨ho3, ⟨[], by simp, rfl, fun y hy => by cases hy⟩, bb3⟩
  have HX2 : Hid (∀ W, Below w2.heap.size w2 W → Below w1.heap.size w1 W) := fun W hW => (unhide HB2).trans (hW.mono (unhide HB2).size)
  have HKR : Hid (∀ W, Below w2.heap.size w2 W → 0 < K.length → ∃ g off, ko = some ⟨g, off, none⟩ ∧ ∀ (j : Nat) n, K[j]? = some n → W.cell? ⟨g, off + j, none⟩ = some (.int .i64 n)) := fun W hW h0 => by
    obtain ⟨g, off, e, hg, hc⟩ := unhide HKO h0
    have hw : Below w.heap.size w W := (unhide HB1).trans ((unhide HX2 W hW).mono (unhide HB1).size)
    exact ⟨g, off, e, fun j n hj => (hw.cell (p := ⟨g, off + j, none⟩) hg).trans (hc j n hj)⟩
  obtain ⟨-, x1, -⟩ := unhide HX w3 (unhide HX2 w3 bb3)
  clear ho3 bb3 HTW HKO
  obtain ⟨N, hN⟩ : ∃ N, D.length = N := ⟨_, rfl⟩
  obtain ⟨M, hM⟩ : ∃ M, K.length = M := ⟨_, rfl⟩
  rw [hN] at hDl
  have HN := hide hN
  have HM := hide hM
  rw [hM] at x1 hkl HKR
  clear hN hM
  obtain ⟨a5, c5, rfl⟩ := own_slice (unhide HT3).own
  rw [unhide HN] at HT3 ⊢
  have HO2 := hide ((unhide HO).txs)
  obtain ⟨au, cu, rfl, -, -, hu7⟩ := unhide HO2
  have HU : Hid (∀ W, Below w2.heap.size w2 W → 0 < N → ∃ g off, au = some ⟨g, off, none⟩ ∧ ∀ (j : Nat) x, D[j]? = some x → W.cell? ⟨g, off + j, none⟩ = some (.string x)) := fun W hW h0 => by
    obtain ⟨g, off, e, hg, hc⟩ := hu7 (by rw [unhide HN]; exact h0)
    exact ⟨g, off, e, fun j x hj => (hW.cell (p := ⟨g, off + j, none⟩) hg).trans (hc j x hj)⟩
  rw [unhide HN]
  clear hu7 HO2
  go_wp2
  go_loopw [30] (fun s30 wr => ∃ (k : Nat) (D' : List Tx), s30 = .int .i64 (k : Int) ∧ k ≤ M ∧ Hid (Tn w2 D 0 (.slice a5 N c5) D' wr)) (fun s30 _ => M - (intOf s30).toNat)
  case atStart => exact ⟨0, D, rfl, Nat.zero_le _, HT3⟩
  case round =>
    obtain ⟨k, D', rfl, hk, HT⟩ := hrel
    by_cases hkM : k < M
    · have hltz : (k : Int) < (M : Int) := by omega
      have hk0 : 0 ≤ (k : Int) := by omega
      obtain ⟨g, off, rfl, hc⟩ := unhide HKR wr (unhide HT).bl (by omega)
      obtain ⟨x, hx⟩ : ∃ x, K[k]? = some x := ⟨_, List.getElem?_eq_getElem (by rw [unhide HM]; exact hkM)⟩
      have y0 := hc k x hx
      have hxb2 := unhide HKB x (List.mem_of_getElem? hx)
      obtain ⟨q, hq, hqb, hr⟩ := setting N x hxb2
      clear hc hx
      by_cases hkN : k < N
      · have hkNz : (k : Int) < (N : Int) := by omega
        have hNz : (0 : Int) < (N : Int) := by omega
        have hNn : ¬ (N : Int) = 0 := by omega
        obtain ⟨j, hj⟩ : ∃ j, q % N = j := ⟨_, rfl⟩
        have hjN : j < N := by rw [← hj]; exact Nat.mod_lt _ (by omega)
        rw [hj] at hr
        have hjz : (j : Int) < (N : Int) := by omega
        have hj0 : 0 ≤ (j : Int) := by omega
        have hl' : D'.length = N := by rw [(unhide HT).len, unhide HN, Nat.add_zero]
        obtain ⟨g5, rfl⟩ : ∃ g5, a5 = some ⟨g5, 0, none⟩ := by
          rcases (unhide HT).own.2 with ⟨_, e⟩ | ⟨g5, c5', cur, e, _⟩
          · omega
          · injection e with e _ _; exact ⟨g5, e⟩
        obtain ⟨a, ha⟩ : ∃ a, D'[k]? = some a := ⟨_, List.getElem?_eq_getElem (by omega)⟩
        obtain ⟨b, hb⟩ : ∃ b, D'[j]? = some b := ⟨_, List.getElem?_eq_getElem (by omega)⟩
        have HS := hide ((unhide HT).swap hl'.symm ha hb)
        have hO : wr.ownsRow w2.heap.size 9 1 (.slice (some ⟨g5, 0, none⟩) N c5) N (Um.texts D') := by have := (unhide HT).own; unfold Um.OwnT at this; rw [hl'] at this; exact this
        have z1 : wr.cell? ⟨g5, k, none⟩ = some (.string a) := by rw [hO.cellAt k (by omega)]; simp [Um.texts, ha]
        have z2 : wr.cell? ⟨g5, j, none⟩ = some (.string b) := by rw [hO.cellAt j (by omega)]; simp [Um.texts, hb]
        have z4 : (wr.setCell ⟨g5, k, none⟩ (.string b)).cell? ⟨g5, j, none⟩ = some (.string b) := by
          have h1 := own_set (unhide HT).own hl'.symm k b
          have h2 : (wr.setCell ⟨g5, k, none⟩ (.string b)).ownsRow w2.heap.size 9 1 (.slice (some ⟨g5, 0, none⟩) N c5) N (Um.texts (D'.set k b)) := by unfold Um.OwnT at h1; rw [List.length_set, hl'] at h1; exact h1
          rw [h2.cellAt j (by omega)]
          have h3 : (D'.set k b)[j]? = some b := by
            by_cases e : k = j
            · subst e; simp [hl', hkN]
            · rw [List.getElem?_set_ne e]; exact hb
          unfold Um.texts
          rw [List.getElem?_map, h3]
          rfl
        have z3 : ∀ i, wr.frozen? ⟨g5, i, none⟩ = false := fun i => hO.frozenAt i
        clear hO ha hb hj hl'
        go_wp2
        go_region
        all_goals go_wp2
        all_goals go_roundw
        case rel => exact ⟨k + 1, _, by go_num, by omega, (unhide HS).drew⟩
        case measure => simp [intOf]; omega
      · have hkNz : ¬ (k : Int) < (N : Int) := by omega
        by_cases hN0 : (0 : Int) < (N : Int)
        · go_wp2
          go_roundw
          case rel => exact ⟨k + 1, D', by go_num, by omega, HT⟩
          case measure => simp [intOf]; omega
        · go_wp2
          go_roundw
          case rel => exact ⟨k + 1, D', by go_num, by omega, HT⟩
          case measure => simp [intOf]; omega
    · have hltz : ¬ (k : Int) < (M : Int) := by omega
      clear HT3 HKR HKB x1
      go_wp2
      go_loopw [5, 10] (fun s5 s10 w5 => ∃ (k : Nat) (u5 : Value) (D' : List Tx), s5 = u5 ∧ s10 = .int .i64 (k : Int) ∧ k ≤ 30 ∧ k ≤ N ∧ Hid (Tn w2 D k u5 D' w5)) (fun _ s10 _ => 31 - (intOf s10).toNat)
      case atStart => exact ⟨0, _, D', rfl, rfl, by omega, Nat.zero_le _, HT⟩
      case round =>
        obtain ⟨k2, u5, D5, rfl, rfl, hk30, hk2N, HT5⟩ := hrel
        obtain ⟨-, -, y2, y3, y4, y5, y6⟩ := unhide HX wr (unhide HX2 wr (unhide HT5).bl)
        have hl5 : D5.length = N + k2 := by rw [(unhide HT5).len, unhide HN]
        by_cases hall : (k2 : Int) < i6 ∧ k2 < N ∧ k2 < 30
        · obtain ⟨e1, e2, e3⟩ := hall
          have e2z : (k2 : Int) < (N : Int) := by omega
          have e3z : (k2 : Int) < 30 := by omega
          have e0 : 0 ≤ (k2 : Int) := by omega
          obtain ⟨g, off, rfl, hc⟩ := unhide HU wr (unhide HT5).bl (by omega)
          obtain ⟨x, hx⟩ : ∃ x, D[k2]? = some x := ⟨_, List.getElem?_eq_getElem (by rw [unhide HN]; exact e2)⟩
          have y7 := hc k2 x hx
          have HPU : Hid (∀ v' w6, w6.ownsRow w2.heap.size 9 1 v' (D5.length + 1) (Um.texts D5 ++ [.string x]) → Below w2.heap.size w2 w6 → Tn w2 D (k2 + 1) v' (D5 ++ [x]) w6) := fun v' w6 h h' => (unhide HT5).push (List.mem_of_getElem? hx) h h'
          clear hc hx
          go_wp2_with (at_builtin; refine wpList_append_own _ rfl _ _ 29 rfl w2.heap.size 9 i0 (.string ByteArray.empty) 1 16 Tryz.underlying29 (unhide HINF) hz0 hz1 hz2 rfl (by decide) _ _ _ rfl ((unhide HT5).own.below ((Below.refl _ _).alloc (Nat.le_refl _) _)) ⟨wr.heap.size, 0, none⟩ 1 1 [.string x] rfl rfl (Um.new_cells _ #[.string x] _) (by simp [Value.oneCell']) (by unfold maxLen; omega) (by omega) (by have := (unhide HT5).bl.size; simp; omega) ?_; intro v' w6 hown' hgrow hnil; clear hnil; have HT6 := hide (unhide HPU v' w6 hown' (Um.push1 (unhide HT5).own (unhide HT5).bl (Nat.le_refl _) hgrow)); clear hown' hgrow)
          go_roundw
          case rel => exact ⟨k2 + 1, v', D5 ++ [x], rfl, by go_num, by omega, by omega, HT6⟩
          case measure => simp [intOf]; omega
        · have hex : ¬ (k2 : Int) < i6 ∨ ((k2 : Int) < i6 ∧ ¬ (k2 : Int) < (N : Int)) ∨ ((k2 : Int) < i6 ∧ (k2 : Int) < (N : Int) ∧ ¬ (k2 : Int) < 30) := by omega
          have bw5 : Below w.heap.size w wr := (unhide HB1).trans ((unhide HX2 wr (unhide HT5).bl).mono (unhide HB1).size)
          have V5 : EnvZ wr E wr.heap.size := ((unhide HV).below bw5).over bw5.size
          have HB5 := hide bw5
          have hz5 := (unhide HT5).fz (unhide HF).short
          rw [(unhide HF).sum] at hz5
          have hD5 : ∀ x ∈ D5, x.size ≤ 255 := fun x hx => (unhide HF).short x (((unhide HT5).mem x).1 hx)
          obtain ⟨sb, hsb⟩ : ∃ sb, wr.heap.size = sb := ⟨_, rfl⟩
          have HN1 : Hid (Calls Tryz.prog 9 #[.int .i64 67108864] wr fun e w6 => e = .returned (.pointer (some ⟨sb, 0, none⟩)) ∧ Sep wr [stoT sb (newS 67108864)] (fun _ => w6.heap.size) w6) := by
            have q := sep_new (Sep.nil wr (fun _ => wr.heap.size)) 67108864 (by decide) (by decide)
            rw [hsb] at q
            exact q
          have HN2 : Hid (∀ w6, Sep wr [stoT sb (newS 67108864)] (fun _ => w6.heap.size) w6 → Calls Tryz.prog 9 #[.int .i64 67108864] w6 fun e w7 => e = .returned (.pointer (some ⟨w6.heap.size, 0, none⟩)) ∧ Sep wr [stoT sb (newS 67108864), stoT w6.heap.size (newS 67108864)] (fun _ => w7.heap.size) w7) := fun w6 h => sep_new h 67108864 (by decide) (by decide)
          have HS1 : Hid (∀ tb w7, Sep wr [stoT sb (newS 67108864), stoT tb (newS 67108864)] (fun _ => w7.heap.size) w7 → Calls Tryz.prog 15 #[.pointer (some ⟨sb, 0, none⟩), .int .i64 b2, .int .i64 b4, .slice au N cu] w7 fun e w8 => ∃ m1 n1, e = .returned (.tuple #[.int .i64 (n1 : Nat), .nilIface]) ∧ Sorted (newS 67108864) m1 n1 D ∧ Sep wr [stoT sb m1, stoT tb (newS 67108864)] (fun _ => w8.heap.size) w8) := fun tb w7 h => by
            have hOw := unhide HO
            rw [unhide HN] at hOw
            have b27 : Below w2.heap.size w2 w7 := (unhide HT5).bl.trans (h.old.mono (unhide HT5).bl.size)
            refine (sep_sort (i := 0) V5 h rfl (hOw.below b27).txs (fun a n c e => ?_) (unhide HF).short lb2 (by omega) lb4 (by omega) rfl ?_ ?_).mono ?_
            · obtain ⟨o1, o2⟩ := own_new hOw a n c e
              have s1 := (unhide HT5).bl.size
              have s2 := h.old.size
              exact ⟨.inl (by omega), by omega⟩
            · rw [(unhide HF).sum]
              show 0 + 2 * z ≤ 67108864
              omega
            · rw [unhide HN]
              show 0 + 2 * N + 1 ≤ 16777216
              omega
            · rintro e w8 ⟨m1, n1, rfl, q1, -, -, q2⟩
              exact ⟨m1, n1, rfl, q1, q2⟩
          have HS2 : Hid (∀ tb w8 m1, Sep wr [stoT sb m1, stoT tb (newS 67108864)] (fun _ => w8.heap.size) w8 → Calls Tryz.prog 15 #[.pointer (some ⟨tb, 0, none⟩), .int .i64 b3, .int .i64 b5, u5] w8 fun e w9 => ∃ m2 n2, e = .returned (.tuple #[.int .i64 (n2 : Nat), .nilIface]) ∧ Sorted (newS 67108864) m2 n2 D5 ∧ Sep wr [stoT sb m1, stoT tb m2] (fun _ => w9.heap.size) w9) := fun tb w8 m1 h => by
            refine (sep_sort (i := 1) V5 h rfl ((unhide HT5).own.below h.old).txs (fun a n c e => ?_) hD5 lb3 (by omega) lb5 (by omega) rfl ?_ ?_).mono ?_
            · obtain ⟨o1, o2⟩ := own_new (unhide HT5).own a n c e
              have s2 := h.old.size
              exact ⟨.inl (by omega), by omega⟩
            · show 0 + 2 * fz D5 ≤ 67108864
              omega
            · rw [hl5]
              show 0 + 2 * (N + k2) + 1 ≤ 16777216
              omega
            · rintro e w9 ⟨m2, n2, rfl, q1, -, -, q2⟩
              exact ⟨m2, n2, rfl, q1, q2⟩
          obtain ⟨S, hS⟩ : ∃ S, strB (Um.frs (Um.rl (ofS D))) = S := ⟨_, rfl⟩
          have HT1 : Hid (∀ tb (w9 : World) m1 n1 m2 n2, Sorted (newS 67108864) m1 n1 D → Sorted (newS 67108864) m2 n2 D5 → Sep wr [stoT sb m1, stoT tb m2] (fun _ => w9.heap.size) w9 → Calls Tryz.prog 18 #[.pointer (some ⟨sb, 0, none⟩), .int .i64 (n1 : Nat)] w9 fun e w' => e = .returned (.string S) ∧ Sep wr [stoT sb m1, stoT tb m2] (fun _ => w9.heap.size) w') := fun tb w9 m1 n1 m2 n2 s1 _ h => by
            have q := sep_text10 (i := 0) V5 h rfl (n := n1) (by rw [s1.hi]; exact s1.ok.made) s1.look
            rw [hS] at q
            exact q
          have HT2 : Hid (∀ tb (w9 w10 : World) m1 n1 m2 n2, Sorted (newS 67108864) m1 n1 D → Sorted (newS 67108864) m2 n2 D5 → Sep wr [stoT sb m1, stoT tb m2] (fun _ => w9.heap.size) w10 → Calls Tryz.prog 18 #[.pointer (some ⟨tb, 0, none⟩), .int .i64 (n2 : Nat)] w10 fun e w' => e = .returned (.string S) ∧ Sep wr [stoT sb m1, stoT tb m2] (fun _ => w9.heap.size) w') := fun tb w9 w10 m1 n1 m2 n2 _ s2 h => by
            have q := sep_text10 (i := 1) V5 h rfl (n := n2) (by rw [s2.hi]; exact s2.ok.made) s2.look
            rw [(unhide HT5).ofs, hS] at q
            exact q
          have HL1 : Hid (∀ tb w9 w10 m1 n1 m2, Sorted (newS 67108864) m1 n1 D → Sep wr [stoT sb m1, stoT tb m2] (fun _ => w9) w10 → Calls Tryz.prog 20 #[.pointer (some ⟨sb, 0, none⟩)] w10 fun e w' => ∃ a c, e = .returned (.slice a 1 c) ∧ Sep wr [stoT sb m1, stoT tb m2] (fun _ => w9) w') := fun tb w9 w10 m1 n1 m2 s1 h => by
            have q := sep_live10 (i := 0) h rfl
            rw [s1.runs] at q
            exact q
          have HL2 : Hid (∀ tb w9 w10 m1 m2 n2, Sorted (newS 67108864) m2 n2 D5 → Sep wr [stoT sb m1, stoT tb m2] (fun _ => w9) w10 → Calls Tryz.prog 20 #[.pointer (some ⟨tb, 0, none⟩)] w10 fun e w' => ∃ a c, e = .returned (.slice a 1 c) ∧ Sep wr [stoT sb m1, stoT tb m2] (fun _ => w9) w') := fun tb w9 w10 m1 m2 n2 s2 h => by
            have q := sep_live10 (i := 1) h rfl
            rw [s2.runs] at q
            exact q
          have HXC : Hid (∀ W, Below wr.heap.size wr W → W.cell? ⟨xb, 2, none⟩ = some (.int .i64 i2) ∧ W.cell? ⟨xb, 3, none⟩ = some (.int .i64 i3) ∧ W.cell? ⟨xb, 4, none⟩ = some (.int .i64 i4) ∧ W.cell? ⟨xb, 5, none⟩ = some (.int .i64 i5)) := fun W hW => by
            obtain ⟨-, -, z2, z3, z4, z5, -⟩ := unhide HX W (unhide HX2 W ((unhide HT5).bl.trans (hW.mono (unhide HT5).bl.size)))
            exact ⟨z2, z3, z4, z5⟩
          clear bw5 V5 hD5 hS hsb hall hz5 hl5 HF HO HT HT5 HU HX HX2 HN HM HV HB1 HB2 y2 y3 y4 y5
          rcases hex with e1 | ⟨e1, e2⟩ | ⟨e1, e2, e3⟩
          all_goals
            go_wp2_with fail
            refine (unhide HN1).mono ?_
            rintro e w6 ⟨rfl, h6⟩
            have HN3 := hide (unhide HN2 w6 h6)
            clear h6 HN1 HN2 y6
            go_wp2_with fail
            refine (unhide HN3).mono ?_
            rintro e w7 ⟨rfl, h7⟩
            have HS3 := hide (unhide HS1 _ w7 h7)
            obtain ⟨y2, -, y4, -⟩ := unhide HXC w7 h7.old
            clear h7 HN3 HS1
            generalize w6.heap.size = tb at *
            go_wp2_with fail
            refine (unhide HS3).mono ?_
            rintro e w8 ⟨m1, n1, rfl, s1, h8⟩
            have HS4 := hide (unhide HS2 _ w8 m1 h8)
            obtain ⟨-, y3, -, y5⟩ := unhide HXC w8 h8.old
            have HSO1 := hide s1
            clear s1 h8 HS3 HS2 y2 y4
            go_wp2_with fail
            refine (unhide HS4).mono ?_
            rintro e w9 ⟨m2, n2, rfl, s2, h9⟩
            have HSO2 := hide s2
            have HT3 := hide (unhide HT1 _ w9 m1 n1 m2 n2 (unhide HSO1) s2 h9)
            clear s2 h9 HS4 HT1 y3 y5
            go_wp2_with fail
            refine (unhide HT3).mono ?_
            rintro e w10 ⟨rfl, h10⟩
            have HT4 := hide (unhide HT2 _ w9 w10 m1 n1 m2 n2 (unhide HSO1) (unhide HSO2) h10)
            clear h10 HT2 HT3
            go_wp2_with fail
            refine (unhide HT4).mono ?_
            rintro e w11 ⟨rfl, h11⟩
            have HL3 := hide (unhide HL1 _ _ w11 m1 n1 m2 (unhide HSO1) h11)
            clear h11 HL1 HT4
            go_wp2_with fail
            refine (unhide HL3).mono ?_
            rintro e w12 ⟨a12, c12, rfl, h12⟩
            have HL4 := hide (unhide HL2 _ _ w12 m1 m2 n2 (unhide HSO2) h12)
            clear h12 HL2 HL3
            go_wp2_with fail
            refine (unhide HL4).mono ?_
            rintro e w13 ⟨a13, c13, rfl, h13⟩
            have HB13 := hide h13.old
            clear h13 HL4
            go_wp2
            go_ret
            exact ⟨by simp, (unhide HB5).trans ((unhide HB13).mono (unhide HB5).size)⟩
end Rs
end Go.Proofs.YtohfhkdhccpoaaaGreatDoor
