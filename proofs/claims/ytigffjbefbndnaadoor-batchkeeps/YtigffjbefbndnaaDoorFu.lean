/- Layer 9: BatchSorts. -/
import Derived.Test.YtigffjbefbndnaaDoorFq
import Derived.Test.YtigffjbefbndnaaDoorUv9
namespace Go.Proofs.YtigffjbefbndnaaDoor
open Go.RowKit
namespace Rs
open Sm (Tx ofS)
/-- all that the words of one list come to, in batches of b, in a store with room for them -/
structure Done (b z : Nat) (D : List Tx) (mA : Sto) (fA : For) (mF : Sto) (fF : For) : Prop where
  add : adds (newS (z : Int)) ⟨b, [], [], 0⟩ D = (0, mA, fA)
  chk : Chk b z D mA fA
  fin : fins mA fA = (0, mF, fF)
  end_ : Fin b z D mF fF.made
theorem done_of {b z : Nat} {D : List Tx} (hb : 1 ≤ b) (hz : z ≤ 1048832) (h : Fit D z) : ∃ mA fA mF fF, Done b z D mA fA mF fF := by
  have hl : D.length ≤ 524416 := by have := fz_len D; rw [h.sum] at this; omega
  have c0 := chk_new b hb z (by omega)
  obtain ⟨a1, c1⟩ := Chk.adds (b := b) (cap := z) D [] _ _ c0 h.short (by rw [List.nil_append, h.sum]; exact Nat.le_refl _) (by rw [List.nil_append]; omega)
  rw [List.nil_append] at c1
  obtain ⟨b1, b2, b3⟩ := c1.fins (by omega)
  exact ⟨_, _, _, _, Prod.ext a1 rfl, c1, Prod.ext b1 rfl, b3⟩
theorem Done.q {b z : Nat} {D : List Tx} {mA mF : Sto} {fA fF : For} (h : Done b z D mA fA mF fF) {k : Nat} (hk : k < mF.made) : k * b < D.length := by
  have hn := h.end_.num
  have hf := h.chk.full
  have hl := h.chk.len
  have hc := cnt_of hl hf
  rw [hn, hc] at hk
  have : (k + 1) * b ≤ mA.made * b ∨ (k = mA.made ∧ fA.buf.length ≠ 0) := by
    split at hk
    · exact .inl (Nat.mul_le_mul_right b hk)
    · rename_i hz
      by_cases e : k = mA.made
      · exact .inr ⟨e, hz⟩
      · exact .inl (Nat.mul_le_mul_right b (by omega))
  rcases this with y | ⟨rfl, y⟩
  · rw [Nat.add_mul] at y; omega
  · omega
theorem lst_inj {a b : Tx} (h : Um.lst a = Um.lst b) : a = b := Sm.tx_ext h
theorem rl_inj : ∀ {A B : List Tx}, Um.rl A = Um.rl B → A = B
  | [], [], _ => rfl
  | [], b :: B, h => by simp [Um.rl] at h
  | a :: A, [], h => by simp [Um.rl] at h
  | a :: A, b :: B, h => by
    simp only [Um.rl, List.map_cons, List.cons.injEq] at h
    rw [lst_inj h.1, rl_inj (A := A) (B := B) h.2]
theorem prt_mem {b k : Nat} {D : List Tx} {x : Tx} (h : x ∈ prt b D k) : x ∈ D := List.mem_of_mem_drop (List.mem_of_mem_take h)
theorem prt_len (b k : Nat) (D : List Tx) : (prt b D k).length = min b (D.length - k * b) := by simp [prt]
/-- the k-th batch, as a part of the list of all words -/
theorem txs_prt {W : World} {g off N cap b k p j : Nat} {D : List Tx} (hp : p = k * b) (hN : N = D.length) (hj : j = min (p + b) N) (hlt : p < N) (hcap : N ≤ cap) (hg : g < W.heap.size) (hc : ∀ (i : Nat) x, D[i]? = some x → W.cell? ⟨g, off + i, none⟩ = some (.string x)) : Um.Txs W (.slice (some ⟨g, off + p, none⟩) (j - p) (cap - p)) (prt b D k) := by
  have hl : (prt b D k).length = j - p := by rw [prt_len]; omega
  refine ⟨some ⟨g, off + p, none⟩, cap - p, by rw [hl], by rw [hl]; omega, (fun h => by cases h), fun _ => ⟨g, off + p, rfl, hg, fun i x hx => ?_⟩⟩
  unfold prt at hx
  rw [List.getElem?_take] at hx
  split at hx
  · rw [List.getElem?_drop, ← hp] at hx
    rw [Nat.add_assoc]
    exact hc (p + i) x hx
  · cases hx
theorem own_new {B : Nat} {W : World} {v : Value} {L : List Tx} (h : Um.OwnT B W v L) : ∀ a n c, v = .slice (some a) n c → B ≤ a.block := fun a n c e => by
  rcases h.2 with ⟨e1, _⟩ | ⟨g, cap, cur, e1, hb, _⟩
  · rw [e1] at e; cases e
  · rw [e1] at e
    injection e with e _ _
    injection e with e
    rw [← e]
    exact hb
set_option maxRecDepth 100000 in
set_option maxHeartbeats 4000000 in
theorem sorts_law {w : World} {v : Value} {X : List Tx} {E : Nat → Addr} (V : EnvR w E w.heap.size) (hT : Um.Txs w v X) (hn : X.length ≤ 9223372036854775807) (bl : Int) (hb1 : -9223372036854775808 ≤ bl) (hb2 : bl ≤ 9223372036854775807) :
    Calls Tryd.prog 3 #[v, .int .i64 bl] w fun e w' => e = .returned (.bool true) ∧ Below w.heap.size w w' := by
  have HWK := hide (wakes_any V)
  have HV := hide V
  have HFI : Hid (∀ W, Below w.heap.size w W → Calls Tryd.prog 7 #[v] W fun e w' => ∃ u D z, e = .returned (.tuple #[u, .int .i64 (z : Nat)]) ∧ z ≤ 1048832 ∧ Fit D z ∧ Um.OwnT W.heap.size w' u D ∧ Below W.heap.size W w') := fun W hW => fit_any (by
    obtain ⟨ao, cap, e, h1, h2, h3⟩ := hT
    refine ⟨ao, cap, e, h1, h2, fun h0 => ?_⟩
    obtain ⟨g, off, e1, hg, hc⟩ := h3 h0
    exact ⟨g, off, e1, Nat.lt_of_lt_of_le hg hW.size, fun j x hx => (hW.cell (p := ⟨g, off + j, none⟩) hg).trans (hc j x hx)⟩) hn
  obtain ⟨ao, cap, rfl, hcap, hnn, hat⟩ := hT
  obtain ⟨q, hq⟩ : ∃ q : Nat, max 0 bl = (q : Int) := ⟨(max 0 bl).toNat, by omega⟩
  have hqb : q ≤ 9223372036854775807 := by omega
  have hr : (q : Int).tmod 50 = ((q % 50 : Nat) : Int) := by rw [Int.tmod_eq_emod_of_nonneg (by omega)]; omega
  obtain ⟨b, hbb⟩ : ∃ b : Nat, 1 + (q : Int) % 50 = (b : Int) := ⟨1 + q % 50, by omega⟩
  have hb3 : 1 ≤ b := by omega
  have hb4 : b ≤ 50 := by omega
  clear hat hnn V
  go_enter Tryd.func3, Tryd.ntmps3
  go_wp2_with (first
    | (go_at_call 6; refine (unhide HWK).mono ?_; rintro e w1 ⟨rfl, h1⟩; have HB1 := hide h1; clear h1)
    | (go_at_call 7; refine (unhide HFI _ (unhide HB1)).mono ?_; rintro e w2 ⟨u, D, z, rfl, hz, hF, hO, h2⟩; have HF := hide hF; have HO := hide hO; have HB2 := hide h2; clear hF hO h2))
  have HBw : Hid (Below w.heap.size w w2) := (unhide HB1).trans ((unhide HB2).mono (unhide HB1).size)
  have HV2 : Hid (EnvR w2 E w2.heap.size) := ((unhide HV).below (unhide HBw)).over (unhide HBw).size
  obtain ⟨mA, fA, mF, fF, hD⟩ := done_of hb3 hz (unhide HF)
  have hDl : D.length ≤ 524416 := by have := fz_len D; rw [(unhide HF).sum] at this; omega
  have hQl : mF.made ≤ 16777216 := hD.end_.ok.made
  have hQz : (((D.length : Nat) : Int) + (b : Int) - 1).tdiv (b : Int) = ((mF.made : Nat) : Int) := by
    rw [hD.end_.num]
    unfold cnt
    rw [Int.tdiv_eq_ediv_of_nonneg (by omega), show ((D.length : Nat) : Int) + (b : Int) - 1 = ((D.length + b - 1 : Nat) : Int) by omega]
    rfl
  have hml : fF.made.length = mF.made := by rw [hD.end_.made, upTo_len]
  have HNW : Hid (Calls Tryd.prog 8 #[.int .i64 z] w2 fun e w' => e = .returned (.pointer (some ⟨w2.heap.size, 0, none⟩)) ∧ Sep w2 [stoT w2.heap.size (newS (z : Int))] (fun _ => w'.heap.size) w') := sep_new (Sep.nil w2 fun _ => 0) z (by omega) (by omega)
  obtain ⟨sb, hsb⟩ : ∃ sb, w2.heap.size = sb := ⟨_, rfl⟩
  have HFN : Hid (∀ W, Sep w2 [stoT sb (newS (z : Int))] (fun _ => W.heap.size) W → Calls Tryd.prog 9 #[.pointer (some ⟨sb, 0, none⟩), .int .i64 b] W fun e w' => ∃ fb, e = .returned (.tuple #[.pointer (some ⟨fb, 0, none⟩), .nilIface]) ∧ Sep w2 [sfT E sb fb (newS (z : Int)) ⟨b, [], [], 0⟩] (fun _ => w'.heap.size) w') := fun W h => sep_fnew (E := E) h (i := 0) rfl b hb3 (by omega)
  have HTW : Hid (∀ W fb, Sep w2 [sfT E sb fb (newS (z : Int)) ⟨b, [], [], 0⟩] (fun _ => W.heap.size) W → Calls Tryd.prog 11 #[u] W fun e w' => ∃ t, e = .returned t ∧ Um.OwnT W.heap.size w' t D ∧ Sep w2 [sfT E sb fb (newS (z : Int)) ⟨b, [], [], 0⟩] (fun _ => W.heap.size) w') := fun W fb h => by
    refine (Um.twin_any u D W ((unhide HO).below h.old).txs (by omega)).mono ?_
    rintro e w' ⟨t, rfl, ho, hb⟩
    exact ⟨t, rfl, ho, h.below hb⟩
  have HAD : Hid (∀ (W0 W : World) fb t, Um.OwnT W0.heap.size W t D → Sep w2 [sfT E sb fb (newS (z : Int)) ⟨b, [], [], 0⟩] (fun _ => W0.heap.size) W → Calls Tryd.prog 10 #[.pointer (some ⟨fb, 0, none⟩), t] W fun e w' => e = .returned .nilIface ∧ Sep w2 [sfT E sb fb mA fA] (fun _ => w'.heap.size) w') := fun W0 W fb t ho h => by
    have c0 := chk_new b hb3 z (by omega)
    have q := sep_add (unhide HV2).toEnv h (i := 0) rfl (c0.for (by omega)) (by show 0 < b; omega) ho.txs (fun a n c e => .inr (own_new ho a n c e)) (by omega) (no_long (unhide HF).short)
    rw [hD.add] at q
    exact q
  have HFS : Hid (∀ W fb, Sep w2 [sfT E sb fb mA fA] (fun _ => W.heap.size) W → Calls Tryd.prog 12 #[.pointer (some ⟨fb, 0, none⟩)] W fun e w' => ∃ a c, e = .returned (.tuple #[.slice a mF.made c, .nilIface]) ∧ Sep w2 [scT sb mF (.slice a mF.made c) (upTo mF.made)] (fun _ => w'.heap.size) w') := fun W fb h => by
    have q := sep_finish (unhide HV2).toEnv h (i := 0) rfl (hD.chk.for (by omega)) (by rw [hD.chk.size]; exact hD.chk.full) hD.fin
    rw [hml, hD.end_.made] at q
    exact q
  have HTX : Hid (∀ W lv k, k < mF.made → Sep w2 [scT sb mF lv (upTo mF.made)] (fun _ => W.heap.size) W → Calls Tryd.prog 14 #[.pointer (some ⟨sb, 0, none⟩), .int .i64 ((k + 1 : Nat) : Int)] W fun e w' => e = .returned (.string (strB (Um.frs (Um.rl (ofS (prt b D k)))))) ∧ Sep w2 [scT sb mF lv (upTo mF.made)] (fun _ => w'.heap.size) w') := fun W lv k hk h =>
    (sep_text (unhide HV2) h (i := 0) rfl (n := k + 1) (by omega) (look_run hD.end_.ok hD.end_.runs hk)).mono fun e w' hh => ⟨hh.1, hh.2.1⟩
  have HUN : Hid (∀ W lv k, Sep w2 [scT sb mF lv (upTo mF.made)] (fun _ => W.heap.size) W → Calls Tryd.prog 13 #[.string (strB (Um.frs (Um.rl (ofS (prt b D k)))))] W fun e w' => ∃ r, e = .returned (.tuple #[r, .int .i64 0]) ∧ Um.Txs w' r (ofS (prt b D k)) ∧ Sep w2 [scT sb mF lv (upTo mF.made)] (fun _ => w'.heap.size) w') := fun W lv k h => by
    have hsh : ∀ x ∈ ofS (prt b D k), x.size ≤ 255 := fun x hx => (unhide HF).short x (prt_mem (Sm.ofS_mem.1 hx))
    have hfit : Um.fit (Um.rl (ofS (prt b D k))) = true := Um.fit_yes fun _ y hy => hsh y (List.mem_of_getElem? hy)
    have he := Um.heads_frs hfit
    have hls : Um.lst (strB (Um.frs (Um.rl (ofS (prt b D k))))) = Um.frs (Um.rl (ofS (prt b D k))) := by simp [Um.lst, strB]
    have hsz : (Um.frs (Um.rl (ofS (prt b D k)))).length ≤ 1073741824 := by
      have h1 := frs_le hsh
      have h2 := fz_mem _ D (nodup_of (Sm.ofS_rs (prt b D k))) fun x hx => prt_mem (Sm.ofS_mem.1 hx)
      rw [(unhide HF).sum] at h2
      omega
    refine (Um.unframe_any _ W (by rw [strB_sz]; exact hsz) 0 (Um.rl (ofS (prt b D k))) (by show _ = _; rw [hls, he]; rfl) (by show _ = _; rw [hls, he]; rfl)).mono ?_
    rintro e w' ⟨r, D', rfl, hT', hr', hb'⟩
    rw [rl_inj hr'] at hT'
    exact ⟨r, rfl, hT', (h.below hb').reset⟩
  have HST : Hid (∀ W lv k r p, Um.Txs W r (ofS (prt b D k)) → Um.Txs W p (prt b D k) → Sep w2 [scT sb mF lv (upTo mF.made)] (fun _ => W.heap.size) W → Calls Tryd.prog 15 #[r, p] W fun e w' => e = .returned (.bool true) ∧ Sep w2 [scT sb mF lv (upTo mF.made)] (fun _ => w'.heap.size) w') := fun W lv k r p h1 h2 h => by
    have hpl : (prt b D k).length ≤ 50 := by rw [prt_len]; omega
    have hol := Sm.ofS_len (prt b D k)
    refine (set_any h1 h2 (Sm.ofS_rs _) (fun x => Sm.ofS_mem) (by omega) (by omega)).mono ?_
    rintro e w' ⟨rfl, rfl⟩
    exact ⟨rfl, h⟩
  have HLV : Hid (∀ W lv, Sep w2 [scT sb mF lv (upTo mF.made)] (fun _ => W.heap.size) W → Calls Tryd.prog 16 #[.pointer (some ⟨sb, 0, none⟩)] W fun e w' => ∃ a c, e = .returned (.slice a mF.made c) ∧ Below w.heap.size w w') := fun W lv h => by
    obtain ⟨F, h1, h2, h3, h4⟩ := sep_sc h (i := 0) rfl
    refine (live_any h1).mono ?_
    rintro e w' ⟨l, rfl, ho, hb⟩
    obtain ⟨a, c, rfl⟩ := own_slice ho
    have hl : (nums mF.runs).length = mF.made := by rw [hD.end_.runs]; simp [nums, runsAt]
    refine ⟨a, c, by rw [hl], ?_⟩
    have h5 := (unhide HBw).trans (h4.mono (unhide HBw).size)
    exact h5.trans (hb.mono h5.size)
  have HLC : Hid (∀ W a c k, k < mF.made → Sep w2 [scT sb mF (.slice a mF.made c) (upTo mF.made)] (fun _ => W.heap.size) W → ∃ g off, a = some ⟨g, off, none⟩ ∧ W.cell? ⟨g, off + k, none⟩ = some (.int .i64 ((k + 1 : Nat) : Int))) := fun W a c k hk h => by
    obtain ⟨F, h1, h2, h3, h4⟩ := sep_sc h (i := 0) rfl
    obtain ⟨ao, c', e, hat⟩ := nat_of h2
    injection e with e _ _
    obtain ⟨g, off, e1, hg, hc⟩ := hat (by rw [upTo_len]; omega)
    refine ⟨g, off, by rw [e, e1], hc k (k + 1) ?_⟩
    unfold upTo
    rw [List.getElem?_map, List.getElem?_range hk]
    rfl
  have HPT : Hid (∀ W lv k, k < mF.made → Sep w2 [scT sb mF lv (upTo mF.made)] (fun _ => W.heap.size) W → ∃ g off cap, u = .slice (some ⟨g, off, none⟩) D.length cap ∧ D.length ≤ cap ∧ k * b < D.length ∧ Um.Txs W (.slice (some ⟨g, off + k * b, none⟩) (min (k * b + b) D.length - k * b) (cap - k * b)) (prt b D k)) := fun W lv k hk h => by
    have hkb := hD.q hk
    obtain ⟨ao, cap, e, hcap, _, hat⟩ := ((unhide HO).below h.old).txs
    obtain ⟨g, off, e1, hg, hc⟩ := hat (by omega)
    exact ⟨g, off, cap, by rw [e, e1], hcap, hkb, txs_prt rfl rfl rfl hkb hcap hg hc⟩
  obtain ⟨Q, hQ⟩ : ∃ Q, mF.made = Q := ⟨_, rfl⟩
  obtain ⟨a2, c2, rfl⟩ := own_slice (unhide HO)
  obtain ⟨M, hM⟩ : ∃ M, D.length = M := ⟨_, rfl⟩
  rw [hQ] at hQz hQl HFS HTX HUN HST HLV HLC HPT
  rw [hM] at hQz hDl HTW HPT ⊢
  rw [hsb] at HNW
  clear hD hml hsb HB1 HB2 HWK HFI hQ hM hq hr hbb
  go_wp2_with (first
    | (go_at_call 8; refine (unhide HNW).mono ?_; rintro e w3 ⟨rfl, h3⟩; have HS3 := hide h3; clear h3)
    | (go_at_call 9; refine (unhide HFN _ (unhide HS3)).mono ?_; rintro e w4 ⟨fb, rfl, h4⟩; have HS4 := hide h4; clear h4)
    | (go_at_call 11; refine (unhide HTW _ fb (unhide HS4)).mono ?_; rintro e w5 ⟨t, rfl, ho5, h5⟩; have HO5 := hide ho5; have HS5 := hide h5; clear h5 ho5)
    | (go_at_call 10; refine (unhide HAD _ _ fb t (unhide HO5) (unhide HS5)).mono ?_; rintro e w6 ⟨rfl, h6⟩; have HS6 := hide h6; clear h6)
    | (go_at_call 12; refine (unhide HFS _ fb (unhide HS6)).mono ?_; rintro e w7 ⟨a, c, rfl, h7⟩; have HS7 := hide h7; clear h7))
  have hQe : ((Q : Int) != (Q : Int)) = false := by simp
  clear HNW HFN HTW HAD HFS HS3 HS4 HS5 HS6 HO5
  go_loopw [69] (fun s69 wr => ∃ k : Nat, s69 = .int .i64 k ∧ k ≤ Q ∧ Hid (Sep w2 [scT sb mF (.slice a Q c) (upTo Q)] (fun _ => wr.heap.size) wr)) (fun s69 _ => Q - (intOf s69).toNat)
  case atStart => exact ⟨0, rfl, Nat.zero_le _, HS7⟩
  case round =>
    clear HS7
    obtain ⟨k, rfl, hk, HS⟩ := hrel
    by_cases hlt : k < Q
    · have hltz : (k : Int) < (Q : Int) := by omega
      have hk0 : 0 ≤ (k : Int) := by omega
      obtain ⟨g, off, rfl, hcx⟩ := unhide HLC wr a c k hlt (unhide HS)
      obtain ⟨g2, off2, cap2, eu, hcap2, hkb, hpt⟩ := unhide HPT wr (.slice (some ⟨g, off, none⟩) Q c) k hlt (unhide HS)
      injection eu with eu _ eu2
      subst eu eu2
      obtain ⟨p, hp⟩ : ∃ p, k * b = p := ⟨_, rfl⟩
      rw [hp] at hpt hkb
      obtain ⟨j, hj⟩ : ∃ j, min (p + b) M = j := ⟨_, rfl⟩
      rw [hj] at hpt
      have hp1 : (k : Int) * (b : Int) = (p : Int) := by rw [← hp]; simp
      have hp2 : ((k : Int) + 1) * (b : Int) = ((p + b : Nat) : Int) := by rw [Int.add_mul, hp1]; omega
      have hp3 : min ((p : Int) + (b : Int)) (M : Int) = (j : Int) := by omega
      have hpj : (p : Int) ≤ (j : Int) := by omega
      have hjc : (j : Int) ≤ (c2 : Int) := by omega
      have hpn : ¬ c2 = p := by omega
      have hpb : p ≤ 1000000 := by omega
      have hp0 : 0 ≤ (p : Int) := by omega
      have HPX := hide hpt
      have HTK := hide (unhide HTX wr (.slice (some ⟨g, off, none⟩) Q c) k hlt (unhide HS))
      obtain ⟨T, hTe⟩ : ∃ T, strB (Um.frs (Um.rl (ofS (prt b D k)))) = T := ⟨_, rfl⟩
      have HUK := hide (fun W => unhide HUN W (.slice (some ⟨g, off, none⟩) Q c) k)
      rw [hTe] at HTK HUK
      have HPP := hide hp
      have HJJ := hide hj
      clear hpt hTe hp hj
      have HSK := hide (fun W r p => unhide HST W (.slice (some ⟨g, off, none⟩) Q c) k r p)
      rw [show ((k + 1 : Nat) : Int) = (k : Int) + 1 by omega] at HTK
      have HWR : Hid (∀ W, Sep w2 [scT sb mF (.slice (some ⟨g, off, none⟩) Q c) (upTo Q)] (fun _ => W.heap.size) W → Um.Txs W (.slice (some ⟨g2, off2 + p, none⟩) (j - p) (c2 - p)) (prt b D k)) := fun W h => by
        obtain ⟨g3, off3, cap3, eu, _, _, hpt3⟩ := unhide HPT W (.slice (some ⟨g, off, none⟩) Q c) k hlt h
        injection eu with eu _ eu2
        injection eu with eu
        injection eu with e3 e4 _
        subst e3 e4 eu2
        rw [unhide HPP, unhide HJJ] at hpt3
        exact hpt3
      go_wp2_with (first
        | (go_at_call 14; refine (unhide HTK).mono ?_; rintro e v1 ⟨rfl, k1⟩; have HK1 := hide k1; clear k1)
        | (go_at_call 13; refine (unhide HUK _ (unhide HK1)).mono ?_; rintro e v2 ⟨r, rfl, kT, k2⟩; have HK2 := hide k2; have HKT := hide kT; have HST2 := hide (unhide HSK _ r _ kT (unhide HWR _ k2) k2); clear k2 kT)
        | (go_at_call 15; refine (unhide HST2).mono ?_; rintro e v3 ⟨rfl, k3⟩; have HK3 := hide k3; clear k3))
      go_roundw
      case rel => exact ⟨k + 1, by go_num, by omega, HK3⟩
      case measure => simp [intOf]; omega
    · have hltz : ¬ (k : Int) < (Q : Int) := by omega
      have HLK := hide (unhide HLV wr (.slice a Q c) (unhide HS))
      go_wp2_with (go_at_call 16; refine (unhide HLK).mono ?_; rintro e v1 ⟨a9, c9, rfl, k1⟩; have HK1 := hide k1; clear k1)
      go_ret
      exact ⟨by simp, unhide HK1⟩
end Rs
end Go.Proofs.YtigffjbefbndnaaDoor
