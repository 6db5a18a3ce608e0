/- Layer 10: the document's Merge. -/
import Derived.Test.YtohfhkdhccpoaaaGreatDoorNe
namespace Go.Proofs.YtohfhkdhccpoaaaGreatDoor
open Go.RowKit Go.Shelf
namespace Rs
open Sm (Tx ofS)
theorem rowat_of {w : World} {v : Value} {L : List Tx} (h : Um.Txs w v L) : RowAt w v L w.heap.size := by
  obtain ⟨ao, cap, e, _, _, h⟩ := h
  exact ⟨ao, cap, e, h⟩
theorem ofS_on (A B : List Tx) : ofS (ofS A ++ B) = ofS (A ++ B) := Sm.rs_ext (Sm.ofS_rs _) (Sm.ofS_rs _) fun x => by simp only [Sm.ofS_mem, List.mem_append]
theorem jl_snoc {st : Nat → List Tx} {qs : List Nat} {j n : Nat} (h : qs[j]? = some n) : ofS (ofS ((qs.take j).map st).flatten ++ st n) = ofS ((qs.take (j + 1)).map st).flatten := by
  rw [ofS_on, List.take_add_one, h]
  simp
set_option maxRecDepth 100000 in
theorem dunion {w : World} {va vb : Value} {A C : List Tx} (ha : Um.Txs w va A) (hc : Um.Txs w vb C) (hA : Sm.Rs A) (hC : Sm.Rs C) (hz : A.length + C.length ≤ 8796093022208) :
    Calls Tryz.prog 59 #[va, vb] w fun e w' => ∃ u, e = .returned u ∧ Um.OwnT w.heap.size w' u (ofS (A ++ C)) ∧ Below w.heap.size w w' := by
  have HM : Hid (Calls Tryz.prog 92 #[va, vb] w fun e w' => ∃ u, e = .returned u ∧ Um.OwnT w.heap.size w' u (ofS (A ++ C)) ∧ Below w.heap.size w w') := by
    refine (Kz.merge_any (rowat_of ha) (rowat_of hc) hA hC hz).mono ?_
    rintro e w' ⟨a, c, rfl, ho, hn, hb⟩
    refine ⟨_, rfl, ⟨ho.1, ?_⟩, hb⟩
    rcases ho.2 with q | ⟨g, cap, cur, e, hg, r⟩
    · exact .inl q
    · exact .inr ⟨g, cap, cur, e, hn g (by rw [e]; rfl), r⟩
  obtain ⟨a1, c1, rfl, -⟩ := ha
  obtain ⟨a2, c2, rfl, -⟩ := hc
  clear hA hC hz
  go_enter Tryz.func59, Tryz.ntmps59
  go_wp2_with (go_at_call 92; refine (unhide HM).mono ?_; rintro e w1 ⟨u, rfl, o1, b1⟩; have HO1 := hide o1; have HB1 := hide b1; clear o1 b1)
  go_ret
  exact ⟨_, rfl, unhide HO1, unhide HB1⟩
theorem own_chg {B : Nat} {F : Nat → Prop} {W W' : World} {v : Value} {L : List Tx} (h : Um.OwnT B W v L) (c : Chg F W W') (hg : ∀ g, B ≤ g → ¬ F g) : Um.OwnT B W' v L := by
  have h' : W.ownsRow B 9 1 v L.length (Um.texts L) := h
  exact own_kept h' fun g hv => c.block g (h'.lt g hv).2 (hg g (h'.lt g hv).1)
/-- in the midst of the document's merging -/
structure MD (w : World) (F : Nat → Prop) (sb fan : Nat) (A : Nat × Sto × Nat) (u : Value) (wr : World) : Prop where
  ex : ∃ (qs : List Nat) (f : Nat) (m' : Sto) (st' : Nat → List Tx) (F' : Nat → Prop) (rv : Value) (sl : Nat → Value), wr.ownsRow w.heap.size 3 1 u qs.length (nts qs) ∧ DIn wr sb m' F' rv sl ∧ (∀ b, F' b → Up F w wr b) ∧ (∀ g, u.ownBlock = some g → ¬ F' g) ∧ Qs m' st' qs ∧ mgA fan f m' st' qs = A ∧ qs ≠ [] ∧ qs.length ≤ f + 1 ∧ (qs.map st').flatten.length ≤ 1048576 ∧ qs.length ≤ 16777216
  chg : Chg F w wr
theorem own_mono {W : World} {B B2 : Nat} {u : Value} {n : Nat} {xs : List Value} (h : W.ownsRow B 3 1 u n xs) (hB : B2 ≤ B) : W.ownsRow B2 3 1 u n xs := ⟨h.1, by
  rcases h.2 with q | ⟨g, cap, cur, e, hg, r⟩
  · exact .inl q
  · exact .inr ⟨g, cap, cur, e, Nat.le_trans hB hg, r⟩⟩
theorem nts_snoc (l : List Nat) (n : Nat) : nts (l ++ [n]) = nts l ++ [.int .i64 (n : Int)] := by simp [nts]
theorem row_push {W : World} {B : Nat} {u : Value} {l : List Nat} {n : Nat} (h : W.ownsRow B 3 1 u (l.length + 1) (nts l ++ [.int .i64 (n : Int)])) : W.ownsRow B 3 1 u (l ++ [n]).length (nts (l ++ [n])) := by
  rw [nts_snoc, List.length_append]
  exact h
theorem up_trans {F F' : Nat → Prop} {w wr w' : World} (hF : ∀ b, F' b → Up F w wr b) (h1 : w.heap.size ≤ wr.heap.size) (h2 : wr.heap.size ≤ w'.heap.size) : ∀ b, Up F' wr w' b → Up F w w' b := fun b q => by
  rcases q with q | q
  · rcases hF b q with z | z
    · exact .inl z
    · exact .inr ⟨z.1, by omega⟩
  · exact .inr ⟨by omega, q.2⟩
theorem nums_pre {w : World} {g n c k : Nat} {B : Nat} {l : List Nat} (h : w.ownsRow B 3 1 (.slice (some ⟨g, 0, none⟩) n c) l.length (nts l)) (hk : k ≤ l.length) : Nums w (.slice (some ⟨g, 0, none⟩) k c) (zs (l.take k)) := by
  have hl : (zs (l.take k)).length = k := by rw [zs_len, List.length_take]; omega
  have hg : g < w.heap.size := (h.lt g rfl).2
  refine ⟨_, c, by rw [hl], fun _ => ⟨g, 0, rfl, hg, fun j x hj => ?_⟩⟩
  rw [Nat.zero_add]
  unfold zs at hj
  rw [List.getElem?_map, List.getElem?_take] at hj
  split at hj
  · obtain ⟨y, hy, rfl⟩ := Option.map_eq_some_iff.1 hj
    have h0 : w.ownsRow 0 3 1 (.slice (some ⟨g, 0, none⟩) n c) l.length (nts l) := own_mono h (Nat.zero_le _)
    exact nums_cell h0 hy
  · cases hj
theorem dres_up {F F' : Nat → Prop} {w wr W w7 w8 : World} {sb : Nat} {m : Sto} (hF : ∀ b, F b → b < w.heap.size) (hup : ∀ b, F' b → Up F w wr b) (hchg : Chg F w wr) (hW : Below wr.heap.size wr W) (c : Chg F' W w7) (r : DRes (Up F' W w7) w7 sb m w8) : DRes F w sb m w8 := by
  obtain ⟨⟨rv, sl, hd⟩, c8⟩ := r
  have s0 := hchg.size
  have s1 := hW.size
  have s2 := c.size
  have s3 := c8.size
  have hold : ∀ b, b < w.heap.size → ¬ F b → ¬ F' b := fun b hb hn q => by
    rcases hup b q with z | z
    · exact hn z
    · omega
  refine ⟨⟨rv, sl, hd.kept (fun _ _ => rfl) (fun b q => ?_) (fun b q => ?_)⟩, ⟨c8.os.trans (c.os.trans (hW.os.trans hchg.os)), c8.tape.trans (c.tape.trans (hW.tape.trans hchg.tape)), c8.output.trans (c.output.trans (hW.output.trans hchg.output)), by omega, fun k hk hn => ?_⟩⟩
  · rcases q with (q | q) | q
    · rcases hup b q with z | z
      · exact .inl z
      · exact .inr ⟨z.1, by omega⟩
    · exact .inr ⟨by omega, by omega⟩
    · exact .inr ⟨by omega, q.2⟩
  · rcases q with q | q
    · have := hF b q; omega
    · exact q.2
  · rw [c8.block k (by omega) (fun q => by
      rcases q with q | q
      · exact hold k hk hn q
      · omega), c.block k (by omega) (hold k hk hn), hW.block k (by omega), hchg.block k hk hn]
theorem next_len {st : Nat → List Tx} {qs : List Nat} {K n : Nat} (hn : ∀ k ∈ qs, k ≠ n) : ((qs.drop K ++ [n]).map (stU st n (ofS ((qs.take K).map st).flatten))).flatten.length ≤ (qs.map st).flatten.length := by
  have e : (qs.map st).flatten = ((qs.take K).map st).flatten ++ ((qs.drop K).map st).flatten := by rw [← List.flatten_append, ← List.map_append, List.take_append_drop]
  rw [e, List.map_append, map_stU (fun k hk => hn k (List.mem_of_mem_drop hk)), List.flatten_append, List.length_append, List.length_append]
  have := Sm.ofS_len ((qs.take K).map st).flatten
  have e2 : (([n] : List Nat).map (stU st n (ofS ((qs.take K).map st).flatten))).flatten = ofS ((qs.take K).map st).flatten := by
    rw [List.map_cons, List.map_nil, List.flatten_cons, List.flatten_nil, List.append_nil, stU, if_pos rfl]
  rw [e2]
  omega
theorem ownT_low {B B2 : Nat} {W : World} {v : Value} {L : List Tx} (h : Um.OwnT B W v L) (hB : B2 ≤ B) : Um.OwnT B2 W v L := ⟨h.1, by
  rcases h.2 with q | ⟨g, cap, cur, e, hg, r⟩
  · exact .inl q
  · exact .inr ⟨g, cap, cur, e, Nat.le_trans hB hg, r⟩⟩
def lenOf : Value → Nat
  | .slice _ n _ => n
  | _ => 0
set_option maxRecDepth 100000 in
set_option maxHeartbeats 8000000 in
theorem mergeA_doc {w : World} {sb fan : Nat} {m : Sto} {F : Nat → Prop} {rv v : Value} {sl : Nat → Value} {ks : List Nat} {st : Nat → List Tx} (h : DIn w sb m F rv sl) (hn : Nums w v (zs ks)) (ho : Off F v) (hq : Qs m st ks) (hne : ks ≠ []) (h2 : 2 ≤ fan) (h64 : fan ≤ 64) (hz : ks.length ≤ 16777216) (hlen : (ks.map st).flatten.length ≤ 1048576) :
    Calls Tryz.prog 31 #[.pointer (some ⟨sb, 0, none⟩), .int .i64 fan, v] w fun e w' => e = .returned (.tuple #[.int .i64 (mgA fan ks.length m st ks).2.2, .int .i64 (mgA fan ks.length m st ks).1]) ∧ DRes F w sb (mgA fan ks.length m st ks).2.1 w' := by
  obtain ⟨i0, hi, hz0'⟩ := Option.map_eq_some_iff.1 row3
  simp only [Prod.mk.injEq] at hz0'
  obtain ⟨hz0, hz1, hz2⟩ := hz0'
  obtain ⟨A, hA⟩ : ∃ A, mgA fan ks.length m st ks = A := ⟨_, rfl⟩
  have hFl := h.lt
  have HLK := hide (look_doc h hn hq hz)
  have HM0 : Hid (∀ wr u, Below w.heap.size w wr → wr.ownsRow w.heap.size 3 1 u ks.length (nts ks) → MD w F sb fan A u wr) := fun wr u hb hu => ⟨⟨ks, ks.length, m, st, F, rv, sl, hu, din_below h hb, fun b q => .inl q, fun g hg q => by have := (hu.lt g hg).1; have := hFl g q; omega, hq, hA, hne, Nat.le_succ _, hlen, hz⟩, Chg.of_below hb⟩
  have hn0 := hn
  obtain ⟨N, hN⟩ : ∃ N, (zs ks).length = N := ⟨_, rfl⟩
  have HM : Hid (ks.length = N) := by rw [← hN, zs_len]; rfl
  have hzN : N ≤ 16777216 := by rw [← hN, zs_len]; exact hz
  have hN0 : 0 < N := by rw [← hN, zs_len]; exact List.length_pos_iff.2 hne
  obtain ⟨ao, cap, rfl, -⟩ := hn
  have HC : Hid (∀ W, Below w.heap.size w W → ∃ g off, ao = some ⟨g, off, none⟩ ∧ ∀ (j : Nat) n, ks[j]? = some n → W.cell? ⟨g, off + j, none⟩ = some (.int .i64 (n : Nat))) := fun W hW => by
    obtain ⟨ao', cap', e, hat⟩ := hn0.below hW
    obtain ⟨g, off, e1, hg, hc⟩ := hat (by rw [hN]; exact hN0)
    injection e with e _ _
    exact ⟨g, off, e.trans e1, fun j n hj => hc j n (zs_get hj)⟩
  rw [hN] at HLK ⊢
  rw [hA]
  have hf1 : ¬ (fan : Int) < 2 := by omega
  have hf2 : ¬ (64 : Int) < (fan : Int) := by omega
  have hN1 : ((N : Int) == 0) = false := beq_eq_false_iff_ne.2 (by omega)
  clear h ho hq hne hz hlen hn0 hN hA
  go_enter Tryz.func31, Tryz.ntmps31
  go_wp2_with (go_at_call 56; refine (unhide HLK).mono ?_; rintro e w1 ⟨rfl, b1⟩; have HB1 := hide b1; clear b1)
  go_loopw [9, 10] (fun s9 s10 wr => ∃ (k : Nat) (u : Value), u = s9 ∧ s10 = .int .i64 (k : Int) ∧ k ≤ N ∧ Hid (wr.ownsRow w.heap.size 3 1 u (ks.take k).length (nts (ks.take k))) ∧ Hid (Below w.heap.size w wr)) (fun _ s10 _ => N - (intOf s10).toNat)
  case atStart => exact ⟨0, _, rfl, rfl, Nat.zero_le _, World.ownsRow_nil _ _ _ _, HB1⟩
  case round =>
    obtain ⟨k, u, rfl, rfl, hk, HO, HB⟩ := hrel
    by_cases hlt : k < N
    · have hltz : (k : Int) < (N : Int) := by omega
      have hk0 : 0 ≤ (k : Int) := by omega
      obtain ⟨g, off, rfl, hc⟩ := unhide HC _ (unhide HB)
      obtain ⟨n, hn⟩ : ∃ n, ks[k]? = some n := ⟨_, List.getElem?_eq_getElem (by rw [unhide HM]; exact hlt)⟩
      have hcx := hc k n hn
      have hl : (ks.take k).length = k := by rw [List.length_take, unhide HM]; omega
      have HPU : Hid (∀ v' (w6 : World), w6.ownsRow w.heap.size 3 1 v' ((ks.take k).length + 1) (nts (ks.take k) ++ [.int .i64 (n : Int)]) → w6.ownsRow w.heap.size 3 1 v' (ks.take (k + 1)).length (nts (ks.take (k + 1)))) := fun v' w6 h => by
        have e : ks.take (k + 1) = ks.take k ++ [n] := by rw [List.take_add_one, hn]; rfl
        rw [e]
        exact row_push h
      clear hc hn
      go_wp2_with (at_builtin; refine wpList_append_own _ rfl _ _ 28 rfl w.heap.size 3 i0 (.int .i64 0) 1 8 Tryz.underlying28 hi hz0 hz1 hz2 rfl (by decide) _ _ _ rfl (World.ownsRow.alloc (unhide HO) _) ⟨wr.heap.size, 0, none⟩ 1 1 [.int .i64 (n : Int)] rfl rfl (Um.new_cells _ #[.int .i64 (n : Int)] _) (by simp [Value.oneCell']) (by rw [hl]; unfold maxLen; omega) (by rw [hl]; omega) (by have := (unhide HB).size; simp; omega) ?_; intro v' w6 hown' hgrow hnil; clear hnil; have HO6 := hide (unhide HPU v' w6 hown'); have HB6 := hide (Um.push1 (unhide HO) (unhide HB) (Nat.le_refl _) hgrow); clear hown' hgrow)
      go_roundw
      case rel => exact ⟨k + 1, v', rfl, by go_num, by omega, HO6, HB6⟩
      case measure => simp [intOf]; omega
    · have hltz : ¬ (k : Int) < (N : Int) := by omega
      have HMD : Hid (MD w F sb fan A u wr) := by
        have hh := unhide HO
        rw [List.take_of_length_le (by rw [unhide HM]; omega)] at hh
        exact unhide HM0 wr u (unhide HB) hh
      clear HO HC HM0
      go_wp2
      go_loopw [9] (fun s9 wr => ∃ u : Value, u = s9 ∧ Hid (MD w F sb fan A u wr)) (fun s9 _ => lenOf s9)
      case atStart => exact ⟨u, rfl, HMD⟩
      case round =>
        clear HMD
        obtain ⟨u, rfl, HMD⟩ := hrel
        obtain ⟨⟨qs, f, m', st', F', rv, sl, hrow, hd, hup, hof, hqs, hmg, hqe, hqf, hql, hqz⟩, hchg⟩ := unhide HMD
        clear HMD
        have hqp := List.length_pos_iff.2 hqe
        obtain ⟨gu, cu, rfl⟩ : ∃ gu cu, u = .slice (some ⟨gu, 0, none⟩) qs.length cu := by
          rcases hrow.2 with ⟨_, e⟩ | ⟨gu, cu, cur, e, _⟩
          · omega
          · exact ⟨gu, cu, e⟩
        obtain ⟨Q, hQ⟩ : ∃ Q, qs.length = Q := ⟨_, rfl⟩
        have HQL := hide hQ
        have HCU : Hid (qs.length ≤ cu) := by
          rcases hrow.2 with ⟨e, _⟩ | ⟨g1, c1, cur, e, _, _, hc, _⟩
          · cases e
          · injection e with _ _ e; rw [e]; exact hc
        rw [hQ]
        by_cases hQ1 : Q ≤ 1
        · have hQz : ¬ (1 : Int) < (Q : Int) := by omega
          have hQ0 : (0 : Int) < (Q : Int) := by omega
          obtain ⟨n, rfl⟩ : ∃ n, qs = [n] := by
            match qs, hqe, (show qs.length ≤ 1 by omega) with
            | [n], _, _ => exact ⟨n, rfl⟩
          have y0 : wr.cell? ⟨gu, 0, none⟩ = some (.int .i64 (n : Nat)) := nums_cell (own_mono hrow (Nat.zero_le _)) (j := 0) rfl
          have HFIN : Hid ((n : Int) = A.2.2 ∧ A.1 = 0 ∧ DRes F w sb A.2.1 wr) := by
            rw [mgA_one (by simp)] at hmg
            rw [← hmg]
            have s0 := hchg.size
            exact ⟨rfl, rfl, ⟨rv, sl, hd.kept (fun _ _ => rfl) hup (fun b q => q.elim (fun z => Nat.lt_of_lt_of_le (hFl b z) s0) fun z => z.2)⟩, hchg⟩
          clear hrow hd hup hof hqs hmg hqe hqf hql hqz hchg hqp hQ HCU HQL
          go_wp2
          go_ret2
          obtain ⟨e1, e2, e3⟩ := unhide HFIN
          exact ⟨by rw [e1, e2]; rfl, e3⟩
        · have hQz : (1 : Int) < (Q : Int) := by omega
          have hq1 : ¬ Q ≤ 1 := hQ1
          by_cases hfq : Q < fan
          · have hfz : (Q : Int) < (fan : Int) := by omega
            have hKQ : Q ≤ Q := by omega
            have hK2 : 2 ≤ Q := by omega
            have hKz : (Q : Int) ≤ (Q : Int) := by omega
            have hK0 : 0 ≤ (Q : Int) := by omega
            have htk : qs.take fan = qs.take Q := by rw [take_min fan qs, hQ, Nat.min_eq_right (by omega)]
            have hdr : qs.drop fan = qs.drop Q := by rw [drop_min fan qs, hQ, Nat.min_eq_right (by omega)]
            obtain ⟨P, hP⟩ : ∃ P : World → Prop, P = fun W => Below wr.heap.size wr W := ⟨_, rfl⟩
            obtain ⟨B0, hB0⟩ : ∃ B0, wr.heap.size = B0 := ⟨_, rfl⟩
            have HP0 : Hid (P wr) := by rw [hP]; exact Below.refl _ _
            have HPn : Hid (∀ W W', P W → Below W.heap.size W W' → P W') := fun W W' hW hb => by rw [hP] at hW ⊢; exact hW.trans (hb.mono hW.size)
            have HPs : Hid (∀ W, P W → B0 ≤ W.heap.size) := fun W hW => by rw [hP] at hW; rw [← hB0]; exact hW.size
            have hgu : gu < wr.heap.size := (hrow.lt gu rfl).2
            have HCL : Hid (∀ W j n, P W → qs[j]? = some n → W.cell? ⟨gu, j, none⟩ = some (.int .i64 (n : Nat))) := fun W j n hW hj => by
              rw [hP] at hW
              exact (hW.cell (p := ⟨gu, j, none⟩) hgu).trans (nums_cell (own_mono hrow (Nat.zero_le _)) hj)
            have HST : Hid (∀ W j n, P W → qs[j]? = some n → Calls Tryz.prog 58 #[.pointer (some ⟨sb, 0, none⟩), .int .i64 (n : Nat)] W fun e w' => ∃ u, e = .returned u ∧ Um.OwnT W.heap.size w' u (st' n) ∧ Below W.heap.size W w') := fun W j n hW hj => by
              rw [hP] at hW
              exact stands_ok (din_below hd hW) (hqs.std n (List.mem_of_getElem? hj))
            have hsl : ∀ j n, qs[j]? = some n → (st' n).length ≤ 1048576 := fun j n hj => by
              have : (st' n).length ≤ (qs.map st').flatten.length := (List.sublist_flatten_of_mem (List.mem_map.2 ⟨n, List.mem_of_getElem? hj, rfl⟩)).length_le
              omega
            have hjl : ∀ j, (ofS ((qs.take j).map st').flatten).length ≤ 1048576 := fun j => by
              have h1 := Sm.ofS_len ((qs.take j).map st').flatten
              have h2 : ((qs.take j).map st').flatten.length ≤ (qs.map st').flatten.length := by
                have e : (qs.map st').flatten = ((qs.take j).map st').flatten ++ ((qs.drop j).map st').flatten := by rw [← List.flatten_append, ← List.map_append, List.take_append_drop]
                rw [e, List.length_append]
                omega
              omega
            have HUN : Hid (∀ W a p j n, qs[j]? = some n → Um.Txs W a (ofS ((qs.take j).map st').flatten) → Um.Txs W p (st' n) → Calls Tryz.prog 59 #[a, p] W fun e w' => ∃ u, e = .returned u ∧ Um.OwnT W.heap.size w' u (ofS ((qs.take (j + 1)).map st').flatten) ∧ Below W.heap.size W w') := fun W a p j n hj ha hp => by
              have q := dunion ha hp (Sm.ofS_rs _) (hqs.std n (List.mem_of_getElem? hj)).rs (by have := hjl j; have := hsl j n hj; omega)
              rw [jl_snoc hj] at q
              exact q
            obtain ⟨cB, mB, nB, hbat⟩ : ∃ cB mB nB, bat m' (ofS ((qs.take Q).map st').flatten) = (cB, mB, nB) := ⟨_, _, _, rfl⟩
            have hjL : jL fan st' qs = ofS ((qs.take Q).map st').flatten := by unfold jL; rw [htk]
            obtain ⟨R, hR⟩ : ∃ R : World → World → Prop, R = fun W W' => DRes F' W sb mB W' ∧ Below wr.heap.size wr W := ⟨_, rfl⟩
            have HWR : Hid (∀ W v, P W → Um.OwnT B0 W v (ofS ((qs.take Q).map st').flatten) → Calls Tryz.prog 57 #[.pointer (some ⟨sb, 0, none⟩), v] W fun e w' => e = .returned (.tuple #[.int .i64 nB, .int .i64 cB]) ∧ R W w') := fun W v hW hv => by
              rw [hP] at hW
              refine (written_any (din_below hd hW) (fun W' hc => ?_) (hjl _) (fun x hx => ?_) hbat).mono ?_
              · refine (own_chg hv hc fun g hg q => ?_).txs
                have := hd.lt g q
                omega
              · rw [← hjL] at hx
                exact jL_fit hqs x hx
              · rintro e w' ⟨rfl, hr⟩
                rw [hR]
                exact ⟨rfl, hr, hW⟩
            obtain ⟨f1, rfl⟩ : ∃ f1, f = f1 + 1 := ⟨f - 1, by omega⟩
            have hcap := unhide HCU
            rw [hQ] at hcap
            have row7 : ∀ W w7, R W w7 → w7.ownsRow w.heap.size 3 1 (.slice (some ⟨gu, 0, none⟩) qs.length cu) qs.length (nts qs) ∧ Chg F' W w7 ∧ Below wr.heap.size wr W ∧ (∃ rv sl, DIn w7 sb mB (Up F' W w7) rv sl) ∧ Off (Up F' W w7) (.slice (some ⟨gu, 0, none⟩) qs.length cu) := fun W w7 hr => by
              rw [hR] at hr
              obtain ⟨hr, hW⟩ := hr
              refine ⟨own_kept hrow fun g hg => ?_, hr.2, hW, hr.1, fun g off n c e q => ?_⟩
              · have hgl := (hrow.lt g hg).2
                rw [hr.2.block g (by have := hW.size; omega) (hof g hg), hW.block g hgl]
              · injection e with e _ _
                injection e with e
                injection e with e _ _
                subst e
                rcases q with q | q
                · exact hof gu rfl q
                · have := hW.size; omega
            have HRA : Hid (cB ≠ 0 → ∀ W w7, R W w7 → Calls Tryz.prog 60 #[.pointer (some ⟨sb, 0, none⟩), .slice (some ⟨gu, 0, none⟩) Q cu] w7 fun e w8 => e = .returned (.tuple #[]) ∧ DRes F w sb A.2.1 w8 ∧ A.1 = cB ∧ A.2.2 = 0) := fun hc W w7 hr => by
              obtain ⟨q1, q2, q3, ⟨rv7, sl7, q4⟩, q5⟩ := row7 W w7 hr
              have q6 := nums_pre q1 (Nat.le_refl _)
              rw [List.take_length] at q6
              have eA : mgA fan (f1 + 1) m' st' qs = (cB, remAll mB qs, 0) := by
                rw [mgA_no (by omega) (by rw [hjL, hbat]; exact hc), hjL, hbat]
              rw [← hmg, eA]
              rw [hQ] at q5 q6
              refine (dremove_go q4 q6 q5 hqz).mono ?_
              rintro e w8 ⟨rfl, r8⟩
              exact ⟨rfl, dres_up hFl hup hchg q3 q2 r8, rfl, rfl⟩
            obtain ⟨S8, hS8⟩ : ∃ S8 : World → Prop, S8 = fun w8 => ∃ W w7, R W w7 ∧ DRes (Up F' W w7) w7 sb (remAll mB (qs.take Q)) w8 := ⟨_, rfl⟩
            have HRB : Hid (∀ W w7, R W w7 → Calls Tryz.prog 60 #[.pointer (some ⟨sb, 0, none⟩), .slice (some ⟨gu, 0, none⟩) Q cu] w7 fun e w8 => e = .returned (.tuple #[]) ∧ S8 w8) := fun W w7 hr => by
              obtain ⟨q1, q2, q3, ⟨rv7, sl7, q4⟩, q5⟩ := row7 W w7 hr
              have q6 := nums_pre (k := Q) q1 (by omega)
              refine (dremove_go q4 q6 (fun g off n c e q => ?_) (by rw [List.length_take]; omega)).mono ?_
              · injection e with e _ _
                injection e with e
                injection e with e _ _
                subst e
                exact q5 gu 0 _ _ rfl q
              · rintro e w8 ⟨rfl, r8⟩
                rw [hS8]
                exact ⟨rfl, W, w7, hr, r8⟩
            have HC8 : Hid (∀ w8, S8 w8 → ∀ V, Below w8.heap.size w8 V → ∀ j n, qs[j]? = some n → V.cell? ⟨gu, j, none⟩ = some (.int .i64 (n : Nat))) := fun w8 h8 V hV j n hj => by
              rw [hS8] at h8
              obtain ⟨W, w7, hr, r8⟩ := h8
              obtain ⟨q1, q2, q3, -, q5⟩ := row7 W w7 hr
              have h7 : gu < w7.heap.size := (q1.lt gu rfl).2
              have h8 : gu < w8.heap.size := Nat.lt_of_lt_of_le h7 r8.2.size
              rw [hV.cell (p := ⟨gu, j, none⟩) h8, World.cell?_of_block (a := ⟨gu, j, none⟩) (r8.2.block gu h7 fun q => q5 gu 0 _ _ rfl q)]
              exact nums_cell (own_mono q1 (Nat.zero_le _)) hj
            have HMN : Hid (cB = 0 → ∀ w8 V u', S8 w8 → Below w8.heap.size w8 V → V.ownsRow w8.heap.size 3 1 u' (qs.drop Q ++ [nB]).length (nts (qs.drop Q ++ [nB])) → MD w F sb fan A u' V) := fun hc w8 V u' h8 hV hu => by
              rw [hS8] at h8
              obtain ⟨W, w7, hr, r8⟩ := h8
              obtain ⟨q1, q2, q3, -, q5⟩ := row7 W w7 hr
              have rr := dres_up hFl hup hchg q3 q2 r8
              obtain ⟨⟨rv8, sl8, d8⟩, c8⟩ := rr
              have hok := hd.ok
              have hb0 : (bat m' (jL fan st' qs)).1 = 0 := by rw [hjL, hbat]; exact hc
              obtain ⟨-, b2, -⟩ := bat_ls hok hb0
              rw [hjL, hbat] at b2
              have b2 : nB = m'.made + 1 := b2
              have eA := mgA_go (f := f1) (show ¬ qs.length ≤ 1 by omega) hb0
              have eQ := hqs.go hok hb0
              rw [hjL, hbat, htk, hdr] at eA eQ
              have hs8 := hV.size
              have hw8 := c8.size
              refine ⟨⟨qs.drop Q ++ [nB], f1, remAll mB (qs.take Q), stU st' nB (ofS ((qs.take Q).map st').flatten), Up F w w8, rv8, sl8, own_mono hu hw8, din_below d8 hV, fun b q => ?_, fun g hg q => ?_, eQ, by rw [← eA]; exact hmg, by simp, ?_, Nat.le_trans (next_len fun k hk => ?_) hql, ?_⟩, ⟨hV.os.trans c8.os, hV.tape.trans c8.tape, hV.output.trans c8.output, by omega, fun k hk hn => (hV.block k (by omega)).trans (c8.block k hk hn)⟩⟩
              · rcases q with q | q
                · exact .inl q
                · exact .inr ⟨q.1, by omega⟩
              · have hg1 := (hu.lt g hg).1
                rcases q with q | q
                · have := hFl g q; omega
                · omega
              · rw [List.length_append, List.length_drop]
                simp only [List.length_cons, List.length_nil]
                omega
              · have := (hqs.std k hk).le hok; omega
              · rw [List.length_append, List.length_drop]
                simp only [List.length_cons, List.length_nil]
                omega
            have hQb : Q ≤ 16777216 := by omega
            have HQG : Hid (∀ j, j < Q → ∃ n, qs[j]? = some n) := fun j hj => ⟨_, List.getElem?_eq_getElem (by omega)⟩
            have HDL : Hid ((qs.drop Q).length = Q - Q) := by show _ = _; rw [List.length_drop, hQ]
            have HDG : Hid (∀ j n, qs[Q + j]? = some n → (qs.drop Q).take (j + 1) = (qs.drop Q).take j ++ [n]) := fun j n hj => by
              rw [List.take_add_one, List.getElem?_drop, hj]
              rfl
            clear hrow hd hup hof hqs hmg hqe hqf hql hqz hchg hqp hP hR hS8 row7 hbat hjL htk hdr hsl hjl hgu
            go_wp2
            go_loopw [12, 13] (fun s12 s13 wr => ∃ (j : Nat) (a : Value), a = s12 ∧ s13 = .int .i64 (j : Int) ∧ j ≤ Q ∧ Hid (P wr) ∧ Hid (Um.OwnT B0 wr a (ofS ((qs.take j).map st').flatten))) (fun _ s13 _ => Q - (intOf s13).toNat)
            case atStart => exact ⟨0, _, rfl, rfl, Nat.zero_le _, HP0, by show Um.OwnT _ _ _ _; rw [show ofS ((qs.take 0).map st').flatten = [] from ofS_nil]; exact Um.ownT_nil _ _⟩
            case round =>
              clear HP0
              obtain ⟨j, a, rfl, rfl, hj, HPw, HOa⟩ := hrel
              by_cases hjK : j < Q
              · have hjz : (j : Int) < (Q : Int) := by omega
                have hj0 : 0 ≤ (j : Int) := by omega
                have hjQ : (j : Int) < (Q : Int) := by omega
                obtain ⟨n, hn⟩ := unhide HQG j (by omega)
                have y0 := unhide HCL wr j n (unhide HPw) hn
                have HS := hide (unhide HST wr j n (unhide HPw) hn)
                have HUU : Hid (∀ w5 p, Um.OwnT wr.heap.size w5 p (st' n) → Below wr.heap.size wr w5 → Calls Tryz.prog 59 #[a, p] w5 fun e w' => ∃ u, e = .returned u ∧ Hid (P w') ∧ Hid (Um.OwnT B0 w' u (ofS ((qs.take (j + 1)).map st').flatten))) := fun w5 p op b5 => by
                  refine (unhide HUN w5 a p j n hn ((unhide HOa).below b5).txs op.txs).mono ?_
                  rintro e w6 ⟨u, rfl, o6, b6⟩
                  have p5 := unhide HPn _ _ (unhide HPw) b5
                  exact ⟨u, rfl, unhide HPn _ _ p5 b6, ownT_low o6 (unhide HPs w5 p5)⟩
                clear hn
                go_wp2_with fail
                refine (unhide HS).mono ?_
                rintro e w5 ⟨p, rfl, op, b5⟩
                have HU5 := hide (unhide HUU w5 p op b5)
                clear op b5 HS HUU y0
                go_wp2_with fail
                refine (unhide HU5).mono ?_
                rintro e w6 ⟨u6, rfl, HP6, HO6⟩
                clear HU5
                go_wp2
                go_roundw
                case rel => exact ⟨j + 1, u6, rfl, by go_num, by omega, HP6, HO6⟩
                case measure => simp [intOf]; omega
              · have hjz : ¬ (j : Int) < (Q : Int) := by omega
                have HWW : Hid (Calls Tryz.prog 57 #[.pointer (some ⟨sb, 0, none⟩), a] wr fun e w' => e = .returned (.tuple #[.int .i64 nB, .int .i64 cB]) ∧ ∃ W, R W w') := by
                  have hh := unhide HOa
                  rw [show j = Q by omega] at hh
                  exact (unhide HWR wr a (unhide HPw) hh).mono fun e w' q => ⟨q.1, wr, q.2⟩
                clear HWR HCL HST HUN HPn HPs HPw HOa
                go_wp2_with fail
                refine (unhide HWW).mono ?_
                rintro e w7 ⟨rfl, W7, r7⟩
                have HR7 := hide r7
                clear r7 HWW
                by_cases hc : cB = 0
                · have hcz : ((cB : Int) != 0) = false := by rw [hc]; rfl
                  have HRM := hide (unhide HRB W7 w7 (unhide HR7))
                  have HMN2 := hide (unhide HMN hc)
                  clear HRA HRB HMN hc
                  go_wp2_with fail
                  refine (unhide HRM).mono ?_
                  rintro e w8 ⟨rfl, s8⟩
                  obtain ⟨P8, hP8⟩ : ∃ P8 : World → Prop, P8 = fun W => Below w8.heap.size w8 W := ⟨_, rfl⟩
                  obtain ⟨B8, hB8⟩ : ∃ B8, w8.heap.size = B8 := ⟨_, rfl⟩
                  have HP80 : Hid (P8 w8) := by rw [hP8]; exact Below.refl _ _
                  have HP8c : Hid (∀ V j n, P8 V → qs[j]? = some n → V.cell? ⟨gu, j, none⟩ = some (.int .i64 (n : Nat))) := fun V j n hV hj => by
                    rw [hP8] at hV
                    exact unhide HC8 w8 s8 V hV j n hj
                  have HP8m : Hid (∀ V u', P8 V → V.ownsRow B8 3 1 u' (qs.drop Q ++ [nB]).length (nts (qs.drop Q ++ [nB])) → MD w F sb fan A u' V) := fun V u' hV hu => by
                    rw [hP8] at hV
                    rw [← hB8] at hu
                    exact unhide HMN2 w8 V u' s8 hV hu
                  have HP8g : Hid (∀ (V V' : World) (o : Obj) (x : Value) n xs, P8 V → V.ownsRow B8 3 1 x n xs → (V.alloc o).grownBy V' x.ownBlock → P8 V') := fun V V' o x n xs hV hx hg => by
                    rw [hP8] at hV ⊢
                    rw [← hB8] at hx
                    exact Um.push1 hx hV (Nat.le_refl _) hg
                  have HP8s : Hid (∀ V, P8 V → B8 ≤ V.heap.size) := fun V hV => by rw [hP8] at hV; rw [← hB8]; exact hV.size
                  clear s8 hP8 hB8 HC8 HMN2 HRM HR7
                  go_wp2
                  go_loopw [17, 18] (fun s17 s18 wr => ∃ (i : Nat) (x : Value), x = s17 ∧ s18 = .int .i64 ((Q + i : Nat) : Int) ∧ Q + i ≤ Q ∧ Hid (P8 wr) ∧ Hid (wr.ownsRow B8 3 1 x ((qs.drop Q).take i).length (nts ((qs.drop Q).take i)))) (fun _ s18 _ => Q - (intOf s18).toNat)
                  case atStart => exact ⟨0, _, rfl, rfl, by omega, HP80, World.ownsRow_nil _ _ _ _⟩
                  case round =>
                    clear HP80
                    obtain ⟨i, x, rfl, rfl, hi2, HPx, HOx⟩ := hrel
                    obtain ⟨ki, hki⟩ : ∃ ki, Q + i = ki := ⟨_, rfl⟩
                    have HKI := hide hki
                    rw [hki] at hi2 ⊢
                    have hib : i ≤ Q := by omega
                    have hil : ((qs.drop Q).take i).length = i := by rw [List.length_take, unhide HDL]; omega
                    by_cases hiQ : ki < Q
                    · have hiz : (ki : Int) < (Q : Int) := by omega
                      have hi0 : 0 ≤ (ki : Int) := by omega
                      obtain ⟨n, hn⟩ := unhide HQG ki hiQ
                      have y0 := unhide HP8c wr ki n (unhide HPx) hn
                      have HPU : Hid (∀ v' (w6 : World), w6.ownsRow B8 3 1 v' (((qs.drop Q).take i).length + 1) (nts ((qs.drop Q).take i) ++ [.int .i64 (n : Int)]) → w6.ownsRow B8 3 1 v' ((qs.drop Q).take (i + 1)).length (nts ((qs.drop Q).take (i + 1)))) := fun v' w6 h => by
                        rw [unhide HDG i n (by rw [unhide HKI]; exact hn)]
                        exact row_push h
                      clear hn hki
                      go_wp2_with (at_builtin; refine wpList_append_own _ rfl _ _ 28 rfl B8 3 i0 (.int .i64 0) 1 8 Tryz.underlying28 hi hz0 hz1 hz2 rfl (by decide) _ _ _ rfl (World.ownsRow.alloc (unhide HOx) _) ⟨wr.heap.size, 0, none⟩ 1 1 [.int .i64 (n : Int)] rfl rfl (Um.new_cells _ #[.int .i64 (n : Int)] _) (by simp [Value.oneCell']) (by rw [hil]; unfold maxLen; omega) (by rw [hil]; omega) (by have := unhide HP8s wr (unhide HPx); simp; omega) ?_; intro v' w6 hown' hgrow hnil; clear hnil; have HO6 := hide (unhide HPU v' w6 hown'); have HP6 := hide (unhide HP8g wr w6 _ _ _ _ (unhide HPx) (unhide HOx) hgrow); clear hown' hgrow)
                      go_roundw
                      case rel => exact ⟨i + 1, v', rfl, by rw [← unhide HKI]; go_num, by rw [← unhide HKI] at hiQ; omega, HP6, HO6⟩
                      case measure => simp [intOf]; omega
                    · have hiz : ¬ (ki : Int) < (Q : Int) := by omega
                      have hie : i = Q - Q := by omega
                      have hO := unhide HOx
                      rw [List.take_of_length_le (by rw [unhide HDL]; omega)] at hO
                      have HOD := hide hO
                      have HPE : Hid (∀ v' (w6 : World), P8 w6 → w6.ownsRow B8 3 1 v' ((qs.drop Q).length + 1) (nts (qs.drop Q) ++ [.int .i64 (nB : Int)]) → MD w F sb fan A v' w6 ∧ lenOf v' = Q - Q + 1) := fun v' w6 hp h => by
                        refine ⟨unhide HP8m w6 v' hp (row_push h), ?_⟩
                        rcases h.2 with ⟨_, e⟩ | ⟨g, c, cur, e, _⟩
                        · omega
                        · rw [e, unhide HDL]; rfl
                      have hdl := unhide HDL
                      clear hO hki HOx hie
                      go_wp2_with (at_builtin; refine wpList_append_own _ rfl _ _ 28 rfl B8 3 i0 (.int .i64 0) 1 8 Tryz.underlying28 hi hz0 hz1 hz2 rfl (by decide) _ _ _ rfl (World.ownsRow.alloc (unhide HOD) _) ⟨wr.heap.size, 0, none⟩ 1 1 [.int .i64 (nB : Int)] rfl rfl (Um.new_cells _ #[.int .i64 (nB : Int)] _) (by simp [Value.oneCell']) (by rw [hdl]; unfold maxLen; omega) (by rw [hdl]; omega) (by have := unhide HP8s wr (unhide HPx); simp; omega) ?_; intro v' w6 hown' hgrow hnil; clear hnil; have HMD6 := hide (unhide HPE v' w6 (unhide HP8g wr w6 _ _ _ _ (unhide HPx) (unhide HOD) hgrow) hown'); clear hown' hgrow)
                      go_roundw
                      case rel => exact ⟨v', rfl, (unhide HMD6).1⟩
                      case measure => rw [(unhide HMD6).2]; show Q - Q + 1 < Q; omega
                · have hcz : ((cB : Int) != 0) = true := by simpa using hc
                  have HRM := hide (unhide HRA hc W7 w7 (unhide HR7))
                  clear HRA HRB HMN HC8 hc
                  go_wp2_with fail
                  refine (unhide HRM).mono ?_
                  rintro e w8 ⟨rfl, r8, e1, e2⟩
                  have HFI := hide r8
                  have HE1 := hide e1
                  have HE2 := hide e2
                  clear r8 e1 e2 HRM
                  go_wp2
                  go_ret2
                  exact ⟨by rw [unhide HE1, unhide HE2]; rfl, unhide HFI⟩

          · have hfz : ¬ (Q : Int) < (fan : Int) := by omega
            have hKQ : fan ≤ Q := by omega
            have hK2 : 2 ≤ fan := by omega
            have hKz : (fan : Int) ≤ (Q : Int) := by omega
            have hK0 : 0 ≤ (fan : Int) := by omega
            have htk : qs.take fan = qs.take fan := rfl
            have hdr : qs.drop fan = qs.drop fan := rfl
            obtain ⟨P, hP⟩ : ∃ P : World → Prop, P = fun W => Below wr.heap.size wr W := ⟨_, rfl⟩
            obtain ⟨B0, hB0⟩ : ∃ B0, wr.heap.size = B0 := ⟨_, rfl⟩
            have HP0 : Hid (P wr) := by rw [hP]; exact Below.refl _ _
            have HPn : Hid (∀ W W', P W → Below W.heap.size W W' → P W') := fun W W' hW hb => by rw [hP] at hW ⊢; exact hW.trans (hb.mono hW.size)
            have HPs : Hid (∀ W, P W → B0 ≤ W.heap.size) := fun W hW => by rw [hP] at hW; rw [← hB0]; exact hW.size
            have hgu : gu < wr.heap.size := (hrow.lt gu rfl).2
            have HCL : Hid (∀ W j n, P W → qs[j]? = some n → W.cell? ⟨gu, j, none⟩ = some (.int .i64 (n : Nat))) := fun W j n hW hj => by
              rw [hP] at hW
              exact (hW.cell (p := ⟨gu, j, none⟩) hgu).trans (nums_cell (own_mono hrow (Nat.zero_le _)) hj)
            have HST : Hid (∀ W j n, P W → qs[j]? = some n → Calls Tryz.prog 58 #[.pointer (some ⟨sb, 0, none⟩), .int .i64 (n : Nat)] W fun e w' => ∃ u, e = .returned u ∧ Um.OwnT W.heap.size w' u (st' n) ∧ Below W.heap.size W w') := fun W j n hW hj => by
              rw [hP] at hW
              exact stands_ok (din_below hd hW) (hqs.std n (List.mem_of_getElem? hj))
            have hsl : ∀ j n, qs[j]? = some n → (st' n).length ≤ 1048576 := fun j n hj => by
              have : (st' n).length ≤ (qs.map st').flatten.length := (List.sublist_flatten_of_mem (List.mem_map.2 ⟨n, List.mem_of_getElem? hj, rfl⟩)).length_le
              omega
            have hjl : ∀ j, (ofS ((qs.take j).map st').flatten).length ≤ 1048576 := fun j => by
              have h1 := Sm.ofS_len ((qs.take j).map st').flatten
              have h2 : ((qs.take j).map st').flatten.length ≤ (qs.map st').flatten.length := by
                have e : (qs.map st').flatten = ((qs.take j).map st').flatten ++ ((qs.drop j).map st').flatten := by rw [← List.flatten_append, ← List.map_append, List.take_append_drop]
                rw [e, List.length_append]
                omega
              omega
            have HUN : Hid (∀ W a p j n, qs[j]? = some n → Um.Txs W a (ofS ((qs.take j).map st').flatten) → Um.Txs W p (st' n) → Calls Tryz.prog 59 #[a, p] W fun e w' => ∃ u, e = .returned u ∧ Um.OwnT W.heap.size w' u (ofS ((qs.take (j + 1)).map st').flatten) ∧ Below W.heap.size W w') := fun W a p j n hj ha hp => by
              have q := dunion ha hp (Sm.ofS_rs _) (hqs.std n (List.mem_of_getElem? hj)).rs (by have := hjl j; have := hsl j n hj; omega)
              rw [jl_snoc hj] at q
              exact q
            obtain ⟨cB, mB, nB, hbat⟩ : ∃ cB mB nB, bat m' (ofS ((qs.take fan).map st').flatten) = (cB, mB, nB) := ⟨_, _, _, rfl⟩
            have hjL : jL fan st' qs = ofS ((qs.take fan).map st').flatten := by unfold jL; rw [htk]
            obtain ⟨R, hR⟩ : ∃ R : World → World → Prop, R = fun W W' => DRes F' W sb mB W' ∧ Below wr.heap.size wr W := ⟨_, rfl⟩
            have HWR : Hid (∀ W v, P W → Um.OwnT B0 W v (ofS ((qs.take fan).map st').flatten) → Calls Tryz.prog 57 #[.pointer (some ⟨sb, 0, none⟩), v] W fun e w' => e = .returned (.tuple #[.int .i64 nB, .int .i64 cB]) ∧ R W w') := fun W v hW hv => by
              rw [hP] at hW
              refine (written_any (din_below hd hW) (fun W' hc => ?_) (hjl _) (fun x hx => ?_) hbat).mono ?_
              · refine (own_chg hv hc fun g hg q => ?_).txs
                have := hd.lt g q
                omega
              · rw [← hjL] at hx
                exact jL_fit hqs x hx
              · rintro e w' ⟨rfl, hr⟩
                rw [hR]
                exact ⟨rfl, hr, hW⟩
            obtain ⟨f1, rfl⟩ : ∃ f1, f = f1 + 1 := ⟨f - 1, by omega⟩
            have hcap := unhide HCU
            rw [hQ] at hcap
            have row7 : ∀ W w7, R W w7 → w7.ownsRow w.heap.size 3 1 (.slice (some ⟨gu, 0, none⟩) qs.length cu) qs.length (nts qs) ∧ Chg F' W w7 ∧ Below wr.heap.size wr W ∧ (∃ rv sl, DIn w7 sb mB (Up F' W w7) rv sl) ∧ Off (Up F' W w7) (.slice (some ⟨gu, 0, none⟩) qs.length cu) := fun W w7 hr => by
              rw [hR] at hr
              obtain ⟨hr, hW⟩ := hr
              refine ⟨own_kept hrow fun g hg => ?_, hr.2, hW, hr.1, fun g off n c e q => ?_⟩
              · have hgl := (hrow.lt g hg).2
                rw [hr.2.block g (by have := hW.size; omega) (hof g hg), hW.block g hgl]
              · injection e with e _ _
                injection e with e
                injection e with e _ _
                subst e
                rcases q with q | q
                · exact hof gu rfl q
                · have := hW.size; omega
            have HRA : Hid (cB ≠ 0 → ∀ W w7, R W w7 → Calls Tryz.prog 60 #[.pointer (some ⟨sb, 0, none⟩), .slice (some ⟨gu, 0, none⟩) Q cu] w7 fun e w8 => e = .returned (.tuple #[]) ∧ DRes F w sb A.2.1 w8 ∧ A.1 = cB ∧ A.2.2 = 0) := fun hc W w7 hr => by
              obtain ⟨q1, q2, q3, ⟨rv7, sl7, q4⟩, q5⟩ := row7 W w7 hr
              have q6 := nums_pre q1 (Nat.le_refl _)
              rw [List.take_length] at q6
              have eA : mgA fan (f1 + 1) m' st' qs = (cB, remAll mB qs, 0) := by
                rw [mgA_no (by omega) (by rw [hjL, hbat]; exact hc), hjL, hbat]
              rw [← hmg, eA]
              rw [hQ] at q5 q6
              refine (dremove_go q4 q6 q5 hqz).mono ?_
              rintro e w8 ⟨rfl, r8⟩
              exact ⟨rfl, dres_up hFl hup hchg q3 q2 r8, rfl, rfl⟩
            obtain ⟨S8, hS8⟩ : ∃ S8 : World → Prop, S8 = fun w8 => ∃ W w7, R W w7 ∧ DRes (Up F' W w7) w7 sb (remAll mB (qs.take fan)) w8 := ⟨_, rfl⟩
            have HRB : Hid (∀ W w7, R W w7 → Calls Tryz.prog 60 #[.pointer (some ⟨sb, 0, none⟩), .slice (some ⟨gu, 0, none⟩) fan cu] w7 fun e w8 => e = .returned (.tuple #[]) ∧ S8 w8) := fun W w7 hr => by
              obtain ⟨q1, q2, q3, ⟨rv7, sl7, q4⟩, q5⟩ := row7 W w7 hr
              have q6 := nums_pre (k := fan) q1 (by omega)
              refine (dremove_go q4 q6 (fun g off n c e q => ?_) (by rw [List.length_take]; omega)).mono ?_
              · injection e with e _ _
                injection e with e
                injection e with e _ _
                subst e
                exact q5 gu 0 _ _ rfl q
              · rintro e w8 ⟨rfl, r8⟩
                rw [hS8]
                exact ⟨rfl, W, w7, hr, r8⟩
            have HC8 : Hid (∀ w8, S8 w8 → ∀ V, Below w8.heap.size w8 V → ∀ j n, qs[j]? = some n → V.cell? ⟨gu, j, none⟩ = some (.int .i64 (n : Nat))) := fun w8 h8 V hV j n hj => by
              rw [hS8] at h8
              obtain ⟨W, w7, hr, r8⟩ := h8
              obtain ⟨q1, q2, q3, -, q5⟩ := row7 W w7 hr
              have h7 : gu < w7.heap.size := (q1.lt gu rfl).2
              have h8 : gu < w8.heap.size := Nat.lt_of_lt_of_le h7 r8.2.size
              rw [hV.cell (p := ⟨gu, j, none⟩) h8, World.cell?_of_block (a := ⟨gu, j, none⟩) (r8.2.block gu h7 fun q => q5 gu 0 _ _ rfl q)]
              exact nums_cell (own_mono q1 (Nat.zero_le _)) hj
            have HMN : Hid (cB = 0 → ∀ w8 V u', S8 w8 → Below w8.heap.size w8 V → V.ownsRow w8.heap.size 3 1 u' (qs.drop fan ++ [nB]).length (nts (qs.drop fan ++ [nB])) → MD w F sb fan A u' V) := fun hc w8 V u' h8 hV hu => by
              rw [hS8] at h8
              obtain ⟨W, w7, hr, r8⟩ := h8
              obtain ⟨q1, q2, q3, -, q5⟩ := row7 W w7 hr
              have rr := dres_up hFl hup hchg q3 q2 r8
              obtain ⟨⟨rv8, sl8, d8⟩, c8⟩ := rr
              have hok := hd.ok
              have hb0 : (bat m' (jL fan st' qs)).1 = 0 := by rw [hjL, hbat]; exact hc
              obtain ⟨-, b2, -⟩ := bat_ls hok hb0
              rw [hjL, hbat] at b2
              have b2 : nB = m'.made + 1 := b2
              have eA := mgA_go (f := f1) (show ¬ qs.length ≤ 1 by omega) hb0
              have eQ := hqs.go hok hb0
              rw [hjL, hbat, htk, hdr] at eA eQ
              have hs8 := hV.size
              have hw8 := c8.size
              refine ⟨⟨qs.drop fan ++ [nB], f1, remAll mB (qs.take fan), stU st' nB (ofS ((qs.take fan).map st').flatten), Up F w w8, rv8, sl8, own_mono hu hw8, din_below d8 hV, fun b q => ?_, fun g hg q => ?_, eQ, by rw [← eA]; exact hmg, by simp, ?_, Nat.le_trans (next_len fun k hk => ?_) hql, ?_⟩, ⟨hV.os.trans c8.os, hV.tape.trans c8.tape, hV.output.trans c8.output, by omega, fun k hk hn => (hV.block k (by omega)).trans (c8.block k hk hn)⟩⟩
              · rcases q with q | q
                · exact .inl q
                · exact .inr ⟨q.1, by omega⟩
              · have hg1 := (hu.lt g hg).1
                rcases q with q | q
                · have := hFl g q; omega
                · omega
              · rw [List.length_append, List.length_drop]
                simp only [List.length_cons, List.length_nil]
                omega
              · have := (hqs.std k hk).le hok; omega
              · rw [List.length_append, List.length_drop]
                simp only [List.length_cons, List.length_nil]
                omega
            have hQb : Q ≤ 16777216 := by omega
            have HQG : Hid (∀ j, j < Q → ∃ n, qs[j]? = some n) := fun j hj => ⟨_, List.getElem?_eq_getElem (by omega)⟩
            have HDL : Hid ((qs.drop fan).length = Q - fan) := by show _ = _; rw [List.length_drop, hQ]
            have HDG : Hid (∀ j n, qs[fan + j]? = some n → (qs.drop fan).take (j + 1) = (qs.drop fan).take j ++ [n]) := fun j n hj => by
              rw [List.take_add_one, List.getElem?_drop, hj]
              rfl
            clear hrow hd hup hof hqs hmg hqe hqf hql hqz hchg hqp hP hR hS8 row7 hbat hjL htk hdr hsl hjl hgu
            go_wp2
            go_loopw [12, 13] (fun s12 s13 wr => ∃ (j : Nat) (a : Value), a = s12 ∧ s13 = .int .i64 (j : Int) ∧ j ≤ fan ∧ Hid (P wr) ∧ Hid (Um.OwnT B0 wr a (ofS ((qs.take j).map st').flatten))) (fun _ s13 _ => fan - (intOf s13).toNat)
            case atStart => exact ⟨0, _, rfl, rfl, Nat.zero_le _, HP0, by show Um.OwnT _ _ _ _; rw [show ofS ((qs.take 0).map st').flatten = [] from ofS_nil]; exact Um.ownT_nil _ _⟩
            case round =>
              clear HP0
              obtain ⟨j, a, rfl, rfl, hj, HPw, HOa⟩ := hrel
              by_cases hjK : j < fan
              · have hjz : (j : Int) < (fan : Int) := by omega
                have hj0 : 0 ≤ (j : Int) := by omega
                have hjQ : (j : Int) < (Q : Int) := by omega
                obtain ⟨n, hn⟩ := unhide HQG j (by omega)
                have y0 := unhide HCL wr j n (unhide HPw) hn
                have HS := hide (unhide HST wr j n (unhide HPw) hn)
                have HUU : Hid (∀ w5 p, Um.OwnT wr.heap.size w5 p (st' n) → Below wr.heap.size wr w5 → Calls Tryz.prog 59 #[a, p] w5 fun e w' => ∃ u, e = .returned u ∧ Hid (P w') ∧ Hid (Um.OwnT B0 w' u (ofS ((qs.take (j + 1)).map st').flatten))) := fun w5 p op b5 => by
                  refine (unhide HUN w5 a p j n hn ((unhide HOa).below b5).txs op.txs).mono ?_
                  rintro e w6 ⟨u, rfl, o6, b6⟩
                  have p5 := unhide HPn _ _ (unhide HPw) b5
                  exact ⟨u, rfl, unhide HPn _ _ p5 b6, ownT_low o6 (unhide HPs w5 p5)⟩
                clear hn
                go_wp2_with fail
                refine (unhide HS).mono ?_
                rintro e w5 ⟨p, rfl, op, b5⟩
                have HU5 := hide (unhide HUU w5 p op b5)
                clear op b5 HS HUU y0
                go_wp2_with fail
                refine (unhide HU5).mono ?_
                rintro e w6 ⟨u6, rfl, HP6, HO6⟩
                clear HU5
                go_wp2
                go_roundw
                case rel => exact ⟨j + 1, u6, rfl, by go_num, by omega, HP6, HO6⟩
                case measure => simp [intOf]; omega
              · have hjz : ¬ (j : Int) < (fan : Int) := by omega
                have HWW : Hid (Calls Tryz.prog 57 #[.pointer (some ⟨sb, 0, none⟩), a] wr fun e w' => e = .returned (.tuple #[.int .i64 nB, .int .i64 cB]) ∧ ∃ W, R W w') := by
                  have hh := unhide HOa
                  rw [show j = fan by omega] at hh
                  exact (unhide HWR wr a (unhide HPw) hh).mono fun e w' q => ⟨q.1, wr, q.2⟩
                clear HWR HCL HST HUN HPn HPs HPw HOa
                go_wp2_with fail
                refine (unhide HWW).mono ?_
                rintro e w7 ⟨rfl, W7, r7⟩
                have HR7 := hide r7
                clear r7 HWW
                by_cases hc : cB = 0
                · have hcz : ((cB : Int) != 0) = false := by rw [hc]; rfl
                  have HRM := hide (unhide HRB W7 w7 (unhide HR7))
                  have HMN2 := hide (unhide HMN hc)
                  clear HRA HRB HMN hc
                  go_wp2_with fail
                  refine (unhide HRM).mono ?_
                  rintro e w8 ⟨rfl, s8⟩
                  obtain ⟨P8, hP8⟩ : ∃ P8 : World → Prop, P8 = fun W => Below w8.heap.size w8 W := ⟨_, rfl⟩
                  obtain ⟨B8, hB8⟩ : ∃ B8, w8.heap.size = B8 := ⟨_, rfl⟩
                  have HP80 : Hid (P8 w8) := by rw [hP8]; exact Below.refl _ _
                  have HP8c : Hid (∀ V j n, P8 V → qs[j]? = some n → V.cell? ⟨gu, j, none⟩ = some (.int .i64 (n : Nat))) := fun V j n hV hj => by
                    rw [hP8] at hV
                    exact unhide HC8 w8 s8 V hV j n hj
                  have HP8m : Hid (∀ V u', P8 V → V.ownsRow B8 3 1 u' (qs.drop fan ++ [nB]).length (nts (qs.drop fan ++ [nB])) → MD w F sb fan A u' V) := fun V u' hV hu => by
                    rw [hP8] at hV
                    rw [← hB8] at hu
                    exact unhide HMN2 w8 V u' s8 hV hu
                  have HP8g : Hid (∀ (V V' : World) (o : Obj) (x : Value) n xs, P8 V → V.ownsRow B8 3 1 x n xs → (V.alloc o).grownBy V' x.ownBlock → P8 V') := fun V V' o x n xs hV hx hg => by
                    rw [hP8] at hV ⊢
                    rw [← hB8] at hx
                    exact Um.push1 hx hV (Nat.le_refl _) hg
                  have HP8s : Hid (∀ V, P8 V → B8 ≤ V.heap.size) := fun V hV => by rw [hP8] at hV; rw [← hB8]; exact hV.size
                  clear s8 hP8 hB8 HC8 HMN2 HRM HR7
                  go_wp2
                  go_loopw [17, 18] (fun s17 s18 wr => ∃ (i : Nat) (x : Value), x = s17 ∧ s18 = .int .i64 ((fan + i : Nat) : Int) ∧ fan + i ≤ Q ∧ Hid (P8 wr) ∧ Hid (wr.ownsRow B8 3 1 x ((qs.drop fan).take i).length (nts ((qs.drop fan).take i)))) (fun _ s18 _ => Q - (intOf s18).toNat)
                  case atStart => exact ⟨0, _, rfl, rfl, by omega, HP80, World.ownsRow_nil _ _ _ _⟩
                  case round =>
                    clear HP80
                    obtain ⟨i, x, rfl, rfl, hi2, HPx, HOx⟩ := hrel
                    obtain ⟨ki, hki⟩ : ∃ ki, fan + i = ki := ⟨_, rfl⟩
                    have HKI := hide hki
                    rw [hki] at hi2 ⊢
                    have hib : i ≤ Q := by omega
                    have hil : ((qs.drop fan).take i).length = i := by rw [List.length_take, unhide HDL]; omega
                    by_cases hiQ : ki < Q
                    · have hiz : (ki : Int) < (Q : Int) := by omega
                      have hi0 : 0 ≤ (ki : Int) := by omega
                      obtain ⟨n, hn⟩ := unhide HQG ki hiQ
                      have y0 := unhide HP8c wr ki n (unhide HPx) hn
                      have HPU : Hid (∀ v' (w6 : World), w6.ownsRow B8 3 1 v' (((qs.drop fan).take i).length + 1) (nts ((qs.drop fan).take i) ++ [.int .i64 (n : Int)]) → w6.ownsRow B8 3 1 v' ((qs.drop fan).take (i + 1)).length (nts ((qs.drop fan).take (i + 1)))) := fun v' w6 h => by
                        rw [unhide HDG i n (by rw [unhide HKI]; exact hn)]
                        exact row_push h
                      clear hn hki
                      go_wp2_with (at_builtin; refine wpList_append_own _ rfl _ _ 28 rfl B8 3 i0 (.int .i64 0) 1 8 Tryz.underlying28 hi hz0 hz1 hz2 rfl (by decide) _ _ _ rfl (World.ownsRow.alloc (unhide HOx) _) ⟨wr.heap.size, 0, none⟩ 1 1 [.int .i64 (n : Int)] rfl rfl (Um.new_cells _ #[.int .i64 (n : Int)] _) (by simp [Value.oneCell']) (by rw [hil]; unfold maxLen; omega) (by rw [hil]; omega) (by have := unhide HP8s wr (unhide HPx); simp; omega) ?_; intro v' w6 hown' hgrow hnil; clear hnil; have HO6 := hide (unhide HPU v' w6 hown'); have HP6 := hide (unhide HP8g wr w6 _ _ _ _ (unhide HPx) (unhide HOx) hgrow); clear hown' hgrow)
                      go_roundw
                      case rel => exact ⟨i + 1, v', rfl, by rw [← unhide HKI]; go_num, by rw [← unhide HKI] at hiQ; omega, HP6, HO6⟩
                      case measure => simp [intOf]; omega
                    · have hiz : ¬ (ki : Int) < (Q : Int) := by omega
                      have hie : i = Q - fan := by omega
                      have hO := unhide HOx
                      rw [List.take_of_length_le (by rw [unhide HDL]; omega)] at hO
                      have HOD := hide hO
                      have HPE : Hid (∀ v' (w6 : World), P8 w6 → w6.ownsRow B8 3 1 v' ((qs.drop fan).length + 1) (nts (qs.drop fan) ++ [.int .i64 (nB : Int)]) → MD w F sb fan A v' w6 ∧ lenOf v' = Q - fan + 1) := fun v' w6 hp h => by
                        refine ⟨unhide HP8m w6 v' hp (row_push h), ?_⟩
                        rcases h.2 with ⟨_, e⟩ | ⟨g, c, cur, e, _⟩
                        · omega
                        · rw [e, unhide HDL]; rfl
                      have hdl := unhide HDL
                      clear hO hki HOx hie
                      go_wp2_with (at_builtin; refine wpList_append_own _ rfl _ _ 28 rfl B8 3 i0 (.int .i64 0) 1 8 Tryz.underlying28 hi hz0 hz1 hz2 rfl (by decide) _ _ _ rfl (World.ownsRow.alloc (unhide HOD) _) ⟨wr.heap.size, 0, none⟩ 1 1 [.int .i64 (nB : Int)] rfl rfl (Um.new_cells _ #[.int .i64 (nB : Int)] _) (by simp [Value.oneCell']) (by rw [hdl]; unfold maxLen; omega) (by rw [hdl]; omega) (by have := unhide HP8s wr (unhide HPx); simp; omega) ?_; intro v' w6 hown' hgrow hnil; clear hnil; have HMD6 := hide (unhide HPE v' w6 (unhide HP8g wr w6 _ _ _ _ (unhide HPx) (unhide HOD) hgrow) hown'); clear hown' hgrow)
                      go_roundw
                      case rel => exact ⟨v', rfl, (unhide HMD6).1⟩
                      case measure => rw [(unhide HMD6).2]; show Q - fan + 1 < Q; omega
                · have hcz : ((cB : Int) != 0) = true := by simpa using hc
                  have HRM := hide (unhide HRA hc W7 w7 (unhide HR7))
                  clear HRA HRB HMN HC8 hc
                  go_wp2_with fail
                  refine (unhide HRM).mono ?_
                  rintro e w8 ⟨rfl, r8, e1, e2⟩
                  have HFI := hide r8
                  have HE1 := hide e1
                  have HE2 := hide e2
                  clear r8 e1 e2 HRM
                  go_wp2
                  go_ret2
                  exact ⟨by rw [unhide HE1, unhide HE2]; rfl, unhide HFI⟩
end Rs
end Go.Proofs.YtohfhkdhccpoaaaGreatDoor
