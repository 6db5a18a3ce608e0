/- Layer 10: the document's Rising, Stands, remove, Look, where what stands in the runs is known. -/
import Derived.Laws.Cover1
import Derived.Test.YtohfhkdhccpoaaaGreatDoorNb
import Derived.Test.YtohfhkdhccpoaaaGreatDoorUvh
import Derived.Test.YtohfhkdhccpoaaaGreatDoorGv
namespace Go.Proofs.YtohfhkdhccpoaaaGreatDoor
open Go.RowKit Go.Shelf
namespace Rs
open Sm (Tx ofS)
set_option maxRecDepth 100000 in
set_option maxHeartbeats 2000000 in
theorem rising_ok {w : World} {v : Value} {L : List Tx} (hT : Um.Txs w v L) (hr : Sm.Rs L) (hn : L.length ≤ 1073741824) :
    Calls Tryz.prog 91 #[v] w fun e w' => ∃ u, e = .returned u ∧ Um.OwnT w.heap.size w' u L ∧ Below w.heap.size w w' := by
  obtain ⟨i0, hi, hz0, hz1, hz2⟩ := Um.info_parts Um.infoT
  obtain ⟨ao, cap, rfl, hcap, hnn, hat⟩ := hT
  have HAT := hide hat
  have HRS := hide hr
  obtain ⟨N, hN⟩ : ∃ N, L.length = N := ⟨_, rfl⟩
  have HN := hide hN
  rw [hN] at hn hcap ⊢
  clear hat hN hnn hr
  go_enter Tryz.func91, Tryz.ntmps91
  go_wp2
  go_loopw [3, 4] (fun s3 s4 wr => ∃ (k : Nat) (u : Value), u = s3 ∧ s4 = .int .i64 (k : Int) ∧ k ≤ N ∧ Hid (Um.OwnT w.heap.size wr u (L.take k)) ∧ Hid (Below w.heap.size w wr)) (fun _ s4 _ => N - (intOf s4).toNat)
  case atStart => exact ⟨0, _, rfl, rfl, Nat.zero_le _, Um.ownT_nil _ _, Below.refl _ _⟩
  case round =>
    obtain ⟨k, u, rfl, rfl, hk, HO, HB⟩ := hrel
    by_cases hlt : k < N
    · have hltz : (k : Int) < (N : Int) := by omega
      have hk0 : 0 ≤ (k : Int) := by omega
      obtain ⟨g, off, rfl, hg, hc⟩ := unhide HAT (by rw [unhide HN]; omega)
      obtain ⟨x, hx⟩ : ∃ x, L[k]? = some x := ⟨_, List.getElem?_eq_getElem (by rw [unhide HN]; exact hlt)⟩
      have x0 : wr.cell? ⟨g, off + k, none⟩ = some (.string x) := ((unhide HB).cell (p := ⟨g, off + k, none⟩) hg).trans (hc k x hx)
      have hlen : (L.take k).length = k := by rw [List.length_take, unhide HN]; omega
      have HPU : Hid (∀ v' w6, w6.ownsRow w.heap.size 9 1 v' ((L.take k).length + 1) (Um.texts (L.take k) ++ [.string x]) → Um.OwnT w.heap.size w6 v' (L.take (k + 1))) := fun v' w6 h => by
        have e : L.take (k + 1) = L.take k ++ [x] := by rw [List.take_add_one, hx]; rfl
        rw [e]
        exact Um.ownT_push h
      have HO' : Hid (∀ q, Um.OwnT w.heap.size (wr.drewN q) u (L.take k)) := fun q => unhide HO
      by_cases hk1 : 0 < k
      · have hkz : (0 : Int) < (k : Int) := by omega
        obtain ⟨i, hii⟩ : ∃ i, i = k - 1 := ⟨_, rfl⟩
        have hik : (k : Int) - 1 = (i : Int) := by omega
        have hin2 : (i : Int) < (N : Int) := by omega
        have hi0 : 0 ≤ (i : Int) := by omega
        obtain ⟨y, hy⟩ : ∃ y, L[i]? = some y := ⟨_, List.getElem?_eq_getElem (by rw [unhide HN]; omega)⟩
        have y0 : wr.cell? ⟨g, off + i, none⟩ = some (.string y) := ((unhide HB).cell (p := ⟨g, off + i, none⟩) hg).trans (hc i y hy)
        have hltt : Sm.lt y x = true := by
          obtain ⟨l1, e1⟩ := List.getElem?_eq_some_iff.1 hy
          obtain ⟨l2, e2⟩ := List.getElem?_eq_some_iff.1 hx
          have := List.pairwise_iff_getElem.1 (unhide HRS) i k l1 l2 (by omega)
          rw [e1, e2] at this
          exact this
        have f1 : Op.bytesLess y.toList x.toList = true := hltt
        have f2 : Op.bytesLess x.toList y.toList = false := Sm.lt_asym hltt
        have f3 : (x.toList == y.toList) = false := by
          cases q : (x.toList == y.toList) with
          | false => rfl
          | true => exact absurd (Sm.tx_beq.1 q).symm (Sm.lt_ne hltt)
        clear hc hx hy hii hltt
        go_wp2
        go_quiet (fail)
        obtain ⟨V, hV⟩ : ∃ V, V = wr.drewN nq := ⟨_, rfl⟩
        rw [← hV]
        have bV : Below wr.heap.size wr V := by rw [hV]; exact ⟨rfl, rfl, rfl, Nat.le_refl _, fun _ _ => rfl⟩
        have hgw : g < wr.heap.size := Nat.lt_of_lt_of_le hg (unhide HB).size
        have x1 : V.cell? ⟨g, off + k, none⟩ = some (.string x) := (bV.cell (p := ⟨g, off + k, none⟩) hgw).trans x0
        have HOV : Hid (Um.OwnT w.heap.size V u (L.take k)) := (unhide HO).below bV
        have HBV : Hid (Below w.heap.size w V) := (unhide HB).trans (bV.mono (unhide HB).size)
        clear hV bV x0 hgw HO HB HO'
        go_wp2_with (at_builtin; refine wpList_append_own _ rfl _ _ 29 rfl w.heap.size 9 i0 (.string ByteArray.empty) 1 16 Tryz.underlying29 hi hz0 hz1 hz2 rfl (by decide) _ _ _ rfl ((unhide HOV).below ((Below.refl _ _).alloc (Nat.le_refl _) _)) ⟨V.heap.size, 0, none⟩ 1 1 [.string x] rfl rfl (Um.new_cells _ #[.string x] _) (by simp [Value.oneCell']) (by rw [hlen]; unfold maxLen; omega) (by rw [hlen]; omega) (by have := (unhide HBV).size; simp; omega) ?_; intro v' w6 hown' hgrow hnil; clear hnil; have HO6 := hide (unhide HPU v' w6 hown'); have HB6 := hide (Um.push1 (unhide HOV) (unhide HBV) (Nat.le_refl _) hgrow); clear hown' hgrow)
        go_roundw
        case rel => exact ⟨k + 1, v', rfl, by go_num, by omega, HO6, HB6⟩
        case measure => simp [intOf]; omega
      · have hkz : ¬ (0 : Int) < (k : Int) := by omega
        clear hc hx
        go_wp2
        go_quiet (fail)
        obtain ⟨V, hV⟩ : ∃ V, V = wr.drewN nq := ⟨_, rfl⟩
        rw [← hV]
        have bV : Below wr.heap.size wr V := by rw [hV]; exact ⟨rfl, rfl, rfl, Nat.le_refl _, fun _ _ => rfl⟩
        have hgw : g < wr.heap.size := Nat.lt_of_lt_of_le hg (unhide HB).size
        have x1 : V.cell? ⟨g, off + k, none⟩ = some (.string x) := (bV.cell (p := ⟨g, off + k, none⟩) hgw).trans x0
        have HOV : Hid (Um.OwnT w.heap.size V u (L.take k)) := (unhide HO).below bV
        have HBV : Hid (Below w.heap.size w V) := (unhide HB).trans (bV.mono (unhide HB).size)
        clear hV bV x0 hgw HO HB HO'
        go_wp2_with (at_builtin; refine wpList_append_own _ rfl _ _ 29 rfl w.heap.size 9 i0 (.string ByteArray.empty) 1 16 Tryz.underlying29 hi hz0 hz1 hz2 rfl (by decide) _ _ _ rfl ((unhide HOV).below ((Below.refl _ _).alloc (Nat.le_refl _) _)) ⟨V.heap.size, 0, none⟩ 1 1 [.string x] rfl rfl (Um.new_cells _ #[.string x] _) (by simp [Value.oneCell']) (by rw [hlen]; unfold maxLen; omega) (by rw [hlen]; omega) (by have := (unhide HBV).size; simp; omega) ?_; intro v' w6 hown' hgrow hnil; clear hnil; have HO6 := hide (unhide HPU v' w6 hown'); have HB6 := hide (Um.push1 (unhide HOV) (unhide HBV) (Nat.le_refl _) hgrow); clear hown' hgrow)
        go_roundw
        case rel => exact ⟨k + 1, v', rfl, by go_num, by omega, HO6, HB6⟩
        case measure => simp [intOf]; omega
    · have hltz : ¬ (k : Int) < (N : Int) := by omega
      have HOF : Hid (Um.OwnT w.heap.size wr u L) := by
        have h := unhide HO
        rw [List.take_of_length_le (by rw [unhide HN]; omega)] at h
        exact h
      obtain ⟨a2, c2, rfl⟩ := own_slice (unhide HOF)
      go_wp2
      go_ret
      exact ⟨_, rfl, unhide HOF, unhide HB⟩
/-- what stands in a run -/
theorem stands_ok {w : World} {sb k : Nat} {m : Sto} {F : Nat → Prop} {rv : Value} {sl : Nat → Value} {L : List Tx} (h : DIn w sb m F rv sl) (hs : Std m k L) :
    Calls Tryz.prog 58 #[.pointer (some ⟨sb, 0, none⟩), .int .i64 k] w fun e w' => ∃ u, e = .returned u ∧ Um.OwnT w.heap.size w' u L ∧ Below w.heap.size w w' := by
  have hfw := hs.few h.ok
  obtain ⟨⟨r, hl, hsh, ht⟩, hr, hf⟩ := hs
  have htl : r.txt.length ≤ 67108864 := by
    have h1 := txt_le (look_mem hl).1
    have h2 := h.ok.used
    have h3 := h.ok.cap
    omega
  have HSZ : Hid (Calls Tryz.prog 89 #[.pointer (some ⟨sb, 0, none⟩), .int .i64 k] w fun e w' => e = .returned (.tuple #[.int .i64 (r.txt.length : Nat), .int .i64 0]) ∧ w' = w) := by
    have q := size_doc h k
    rw [show siz m k = ((r.txt.length : Int), 0) by unfold siz; rw [hl]] at q
    exact q
  have HRD : Hid (Calls Tryz.prog 84 #[.pointer (some ⟨sb, 0, none⟩), .int .i64 k, .int .i64 0, .int .i64 (r.txt.length : Nat)] w fun e w' => e = .returned (.tuple #[.string (strB r.txt), .int .i64 0]) ∧ w' = w) := by
    have q := read_doc h k 0 (r.txt.length : Nat) (by omega) (by omega)
    rw [show rea m k 0 (r.txt.length : Nat) = (r.txt, 0) by
      have := rea_ok (m := m) (k := k) (a := 0) (n := r.txt.length) hl hsh (by omega)
      simpa using this] at q
    exact q
  have hfit : Um.fit (Um.rl L) = true := Um.fit_yes fun _ y hy => hf y (List.mem_of_getElem? hy)
  have he := Um.heads_frs hfit
  have hls : Um.lst (strB r.txt) = Um.frs (Um.rl L) := by rw [ht]; simp [Um.lst, strB]
  have hLl : L.length ≤ 1073741824 := by omega
  have HHD : Hid (Calls Tryz.prog 90 #[.string (strB r.txt)] w fun e w' => ∃ v, e = .returned (.tuple #[v, .int .i64 0]) ∧ Um.Txs w' v L ∧ Below w.heap.size w w') := by
    refine (Um.heads_any (strB r.txt) w (by rw [strB_sz]; omega) 0 (Um.rl L) (by show _ = _; rw [hls, he]; rfl) (by show _ = _; rw [hls, he])).mono ?_
    rintro e w' ⟨v, D, rfl, hT, hD, hb⟩
    rw [rl_inj hD] at hT
    exact ⟨v, rfl, hT, hb⟩
  have HRI : Hid (∀ w1 v, Um.Txs w1 v L → Calls Tryz.prog 91 #[v] w1 fun e w' => ∃ u, e = .returned u ∧ Um.OwnT w1.heap.size w' u L ∧ Below w1.heap.size w1 w') := fun w1 v hT => rising_ok hT hr hLl
  obtain ⟨S, hS⟩ : ∃ S, strB r.txt = S := ⟨_, rfl⟩
  obtain ⟨n, hn⟩ : ∃ n, r.txt.length = n := ⟨_, rfl⟩
  rw [hS] at HRD HHD
  rw [hn] at HSZ HRD
  clear h hl hsh ht hr hf htl hfit he hls hLl hS hn hfw
  go_enter Tryz.func58, Tryz.ntmps58
  go_wp2_with (first
    | (go_at_call 89; refine (unhide HSZ).mono ?_; rintro e w1 ⟨rfl, hw⟩; have hw' := hw.symm; subst hw'; clear hw)
    | (go_at_call 84; refine (unhide HRD).mono ?_; rintro e w1 ⟨rfl, hw⟩; have hw' := hw.symm; subst hw'; clear hw)
    | (go_at_call 90; refine (unhide HHD).mono ?_; rintro e w1 ⟨v, rfl, hT, b1⟩; have HR1 := hide (unhide HRI w1 v hT); have HB1 := hide b1; clear hT b1)
    | (go_at_call 91; refine (unhide HR1).mono ?_; rintro e w2 ⟨u, rfl, o2, b2⟩; have HO2 := hide o2; have HB2 := hide b2; clear o2 b2))
  go_ret
  have hb := (unhide HB1).trans ((unhide HB2).mono (unhide HB1).size)
  refine ⟨_, rfl, ?_, hb⟩
  have ho := unhide HO2
  refine ⟨ho.1, ?_⟩
  rcases ho.2 with q | ⟨g, cap, cur, e, hg, r⟩
  · exact .inl q
  · exact .inr ⟨g, cap, cur, e, Nat.le_trans (unhide HB1).size hg, r⟩
end Rs
end Go.Proofs.YtohfhkdhccpoaaaGreatDoor
