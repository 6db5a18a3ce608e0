/- Layer 5: the document's Append. -/
import Derived.Test.YtdcffkahijpcbabDoorDj
import Derived.BigQuiet
namespace Go.Proofs.YtdcffkahijpcbabDoor
open Go.RowKit
namespace Rs
theorem DRes.of {F : Nat → Prop} {w w1 : World} {sb : Nat} {m : Sto} {rv : Value} {sl : Nat → Value} (h : DIn w1 sb m F rv sl) (hc : Chg F w w1) : DRes F w sb m w1 := ⟨⟨rv, sl, h.up⟩, hc⟩
theorem DRes.drewN {F : Nat → Prop} {w w1 : World} {sb : Nat} {m : Sto} (h : DRes F w sb m w1) (n : Nat) : DRes F w sb m (w1.drewN n) := by
  obtain ⟨⟨rv, sl, hd⟩, hc⟩ := h
  exact ⟨⟨rv, sl, hd.kept (fun _ _ => rfl) (fun _ x => x) (fun b hb => hd.lt b hb)⟩, ⟨hc.os, hc.tape, hc.output, hc.size, hc.block⟩⟩
theorem new_cell1 {W : World} {x u : Value} {t : TypeId} {j : Nat} (hu : [x][j]? = some u) : (W.alloc (.cells #[x] t)).cell? ((⟨W.heap.size, 0, none⟩ : Addr).add j) = some u := by
  have : j = 0 := by
    have := (List.getElem?_eq_some_iff.1 hu).1
    simpa using this
  subst this
  simp at hu
  subst hu
  rw [Go.WideShapes.add_plain, Nat.zero_add, World.cell?_alloc_at _ _ _ _ rfl]
  rfl
set_option maxRecDepth 100000 in
set_option maxHeartbeats 2000000 in
theorem append_doc {w : World} {sb : Nat} {m : Sto} {F : Nat → Prop} {rv : Value} {sl : Nat → Value} (h : DIn w sb m F rv sl) (k : Int) {v : Value} {L : List ByteArray} (hL : Parts w v L F) (c : Nat) (m' : Sto) (HA : Hid (app m k L = (c, m'))) :
    Calls Tryd.prog 53 #[.pointer (some ⟨sb, 0, none⟩), .int .i64 k, v] w fun e w' => e = .returned (.int .i64 (c : Int)) ∧ DRes F w sb m' w' := by
  have HR := hide (refused_any h)
  by_cases ha : m.ahead = 1
  · have e := unhide HA
    unfold app at e
    rw [if_pos ha] at e
    injection e with e1 e2
    subst e1 e2
    rw [show decide (m.ahead = 1) = true by simp [ha]] at HR
    clear h HA
    go_enter Tryd.func53, Tryd.ntmps53
    go_wp2_with (go_at_call 65; refine (unhide HR).mono ?_; rintro e w1 ⟨rfl, hd1⟩; have HD := hide hd1; clear hd1)
    go_ret
    exact ⟨rfl, DRes.of (unhide HD).1 (unhide HD).2.1⟩
  rw [show decide (m.ahead = 1) = false by simp [ha]] at HR
  rcases hl : look m.runs k with _ | r
  · have e := unhide HA
    unfold app at e
    rw [if_neg ha, hl] at e
    injection e with e1 e2
    subst e1 e2
    have HL := hide hl
    clear h HA hl
    go_enter Tryd.func53, Tryd.ntmps53
    go_wp2_with (first | (go_at_call 65; refine (unhide HR).mono ?_; rintro e w1 ⟨rfl, hd1⟩; have HD := hide hd1; clear hd1) | (go_at_call 69; refine (fit_none (unhide HD).1 (unhide HL)).mono ?_; rintro e w2 ⟨rfl, rfl⟩))
    go_ret
    exact ⟨rfl, DRes.of (unhide HD).1 (unhide HD).2.1⟩
  obtain ⟨i, hi, hn, hil⟩ := look_at_i hl
  have HI := hide hi
  cases hs : r.shut
  · have HAPP : Hid ((if tot m.runs + sz L ≤ m.cap then (0, m.tick.app r L) else (7, m.tick)) = (c, m')) := by
      show _ = _
      have e := unhide HA
      unfold app at e
      rw [if_neg ha, hl] at e
      simpa [hs] using e
    have HSH := hide hs
    have HP := hide hL
    have hcap : m.cap ≤ 67108864 := h.ok.cap
    have hus : tot m.runs ≤ m.cap := h.ok.used
    have HLT := hide h.lt
    have HOWN := hide h.own
    have HOK := hide h.ok
    have HTXF := hide h.txF
    have HAPT := hide h.apart
    obtain ⟨ro, rc, rfl, hat⟩ := h.at
    obtain ⟨g, rfl, hg, hF, -⟩ := hat (by omega)
    have HGF := hide hF
    have hbl : m.runs.length ≤ 16777216 := by have := h.ok.len; have := h.ok.made; omega
    obtain ⟨a1, k1, e1⟩ := txt_slice h hi
    obtain ⟨ao, cp, rfl, hn2, -⟩ := hL
    obtain ⟨N, hN⟩ : ∃ N, N = L.length := ⟨_, rfl⟩
    have HN := hide hN
    rw [← hN] at hn2 ⊢
    have HP2 : Hid (Parts w (.slice ao N cp) L F) := by rw [hN]; exact HP
    have HE1 := hide e1
    have hiz : (i : Int) < (m.runs.length : Int) := by omega
    have hi0 : 0 ≤ (i : Int) := by omega
    clear h HA hl hs hi hat hN e1 HP
    subst hn
    have HFIT : Hid (∀ w1, DIn w1 sb m.tick F (.slice (some ⟨g, 0, none⟩) m.runs.length rc) sl → Calls Tryd.prog 69 #[.pointer (some ⟨sb, 0, none⟩), .int .i64 r.num] w1 fun e w' => e = .returned (.tuple #[.int .i64 i, .int .i64 0]) ∧ w' = w1) := fun w1 d1 => by
      have q := fit_some d1 (unhide HI)
      rw [unhide HSH] at q
      simpa using q
    go_enter Tryd.func53, Tryd.ntmps53
    go_wp2_with (first | (go_at_call 65; refine (unhide HR).mono ?_; rintro e w1 ⟨rfl, hd1⟩; have HD := hide hd1; obtain ⟨x0, x1, x2, x3, x4, xf⟩ := dcells hd1.1.sto; have hsz1 : sb < w1.heap.size := hd1.1.lt sb hd1.1.own; clear hd1) | (go_at_call 69; refine (unhide HFIT _ (unhide HD).1).mono ?_; rintro e w2 ⟨rfl, hw2⟩; have hw3 := hw2.symm; subst hw3; clear hw2))
    have HUS : Hid (∀ n, Calls Tryd.prog 37 #[.pointer (some ⟨sb, 0, none⟩)] (w1.drewN n) fun e w' => e = .returned (.int .i64 (tot m.runs)) ∧ w' = w1.drewN n) := fun n => used_doc (m := m.tick) ((unhide HD).1.kept (w' := w1.drewN n) (fun _ _ => rfl) (fun _ x => x) (fun b hb => (unhide HD).1.lt b hb))
    have x0' : w1.cell? ⟨sb, 0, none⟩ = some (.int .i64 (m.cap : Int)) := x0
    obtain ⟨U, hU⟩ : ∃ U, tot m.runs = U := ⟨_, rfl⟩
    rw [hU] at HUS hus
    have HUE := hide hU
    clear hU x0
    go_quiet ((go_at_call 37; exact Calls.quiet_of_same (unhide HUS _)))
    have HDq : Hid (DIn (w1.drewN nq) sb m.tick F (.slice (some ⟨g, 0, none⟩) m.runs.length rc) sl ∧ Chg F w (w1.drewN nq)) := ⟨(unhide HD).1.kept (fun _ _ => rfl) (fun _ x => x) (fun b hb => (unhide HD).1.lt b hb), ⟨(unhide HD).2.1.os, (unhide HD).2.1.tape, (unhide HD).2.1.output, (unhide HD).2.1.size, (unhide HD).2.1.block⟩⟩
    clear HUS HD HFIT HR x0' x1 x2 x3 x4 xf hsz1
    generalize w1.drewN nq = V at *
    go_wp2
    go_loopw [10, 11] (fun s10 s11 wr => ∃ (j rm : Nat), s11 = .int .i64 (j : Int) ∧ j ≤ N ∧ s10 = .int .i64 (rm : Int) ∧ rm ≤ 67108864 ∧ Hid (rm + sz (L.take j) + U = m.cap) ∧ wr = V) (fun _ j _ => N - (intOf j).toNat)
    case atStart => exact ⟨0, m.cap - U, rfl, Nat.zero_le _, by rw [show ((m.cap - U : Nat) : Int) = (m.cap : Int) - (U : Int) by omega], by omega, (by show _ = _; simp [sz]; omega), rfl⟩
    case round =>
      obtain ⟨j, rm, rfl, hj, rfl, hrm, HRM, hwr⟩ := hrel
      subst hwr
      by_cases hlt : j < N
      · obtain ⟨x, hx⟩ : ∃ x, L[j]? = some x := ⟨_, List.getElem?_eq_getElem (by rw [← unhide HN]; exact hlt)⟩
        obtain ⟨ao', cp', ea, -, hcc⟩ := (unhide HP2).chg (unhide HDq).2
        obtain ⟨rfl, -⟩ : ao = ao' ∧ cp = cp' := by injection ea with e1 e2 e3; exact ⟨e1, e3⟩
        obtain ⟨g2, off, rfl, hg2, -, hc⟩ := hcc (by rw [← unhide HN]; omega)
        have hcx : wr.cell? ⟨g2, off + j, none⟩ = some (.string x) := hc j x hx
        have hltz : (j : Int) < (N : Int) := by omega
        have HSX := hide (sz_take hx)
        clear hcc hc hx ea
        by_cases hfit : x.size ≤ rm
        · have hfz : ¬ (rm : Int) < (x.size : Int) := by omega
          go_wp2
          go_roundw
          case rel => exact ⟨j + 1, rm - x.size, by go_num, by omega, by rw [show ((rm - x.size : Nat) : Int) = (rm : Int) - (x.size : Int) by omega], by omega, (by show _ = _; have := unhide HRM; have := unhide HSX; omega), (by first | rfl | trivial)⟩
          case measure => simp [intOf]; omega
        · have hfz : (rm : Int) < (x.size : Int) := by omega
          go_wp2
          go_ret
          have e := unhide HAPP
          rw [if_neg (by have := unhide HRM; have := unhide HSX; have := sz_le L (j + 1); have := unhide HUE; omega)] at e
          injection e with e1 e2
          subst e1 e2
          exact ⟨rfl, DRes.of (unhide HDq).1 (unhide HDq).2⟩
      · have hltz : ¬ (j : Int) < (N : Int) := by omega
        have HF2 : Hid (tot m.runs + sz L ≤ m.cap) := by
          show _ ≤ _
          have h1 := unhide HRM
          rw [List.take_of_length_le (by rw [← unhide HN]; omega)] at h1
          have := unhide HUE
          omega
        have e := unhide HAPP
        rw [if_pos (unhide HF2)] at e
        injection e with e1 e2
        subst e1 e2
        have HSZ : Hid (sz L ≤ 67108864) := by show _ ≤ _; have := unhide HF2; omega
        have hrt : r.txt.length ≤ 67108864 := by have := tot_mem (List.mem_of_getElem? (unhide HI)); have := unhide HUE; omega
        have HDP0 : Hid (Dp w wr F sb m.tick (.slice (some ⟨g, 0, none⟩) m.runs.length rc) sl r (.slice a1 r.txt.length k1) (r.txt ++ bytes (L.take 0))) := by
          have d := Dp.start (unhide HDq).1 (unhide HDq).2 (List.mem_of_getElem? (unhide HI))
          rw [unhide HE1] at d
          simpa [bytes, Hid] using d
        obtain ⟨d0, d1, d2, d3, d4, df⟩ := dcells (unhide HDq).1.sto
        have q1 : wr.cell? ⟨g, i * 3 + 1, none⟩ = some (.slice a1 r.txt.length k1) := by
          have := (unhide HDq).1.row.cellAt (i * 3 + 1) (by show i * 3 + 1 < m.runs.length * 3; omega)
          rw [this, ← unhide HE1]
          exact (rowD_get (sl := sl) (unhide HI)).2.1
        have hgw : g < wr.heap.size := (unhide HDq).1.lt g (unhide HGF)
        have hsw : sb < wr.heap.size := (unhide HDq).1.lt sb (unhide HOWN)
        go_wp2
        clear d0 d1 d2 d3 d4 df q1 hgw hsw HRM
        obtain ⟨wo, rfl⟩ : ∃ x : World, x = wr := ⟨_, rfl⟩
        go_loopw [12, 13] (fun s12 s13 wr => ∃ (q : Nat) (u : Value), u = s12 ∧ s13 = .int .i64 (q : Int) ∧ q ≤ N ∧ Hid (Dp w wr F sb m.tick (.slice (some ⟨g, 0, none⟩) m.runs.length rc) sl r u (r.txt ++ bytes (L.take q)))) (fun _ q _ => N - (intOf q).toNat)
        case atStart => exact ⟨0, _, rfl, rfl, Nat.zero_le _, HDP0⟩
        case round =>
          obtain ⟨q, u, rfl, rfl, hq, HDP⟩ := hrel
          by_cases hqn : q < N
          · obtain ⟨x, hx⟩ : ∃ x, L[q]? = some x := ⟨_, List.getElem?_eq_getElem (by rw [← unhide HN]; exact hqn)⟩
            have hqz : (q : Int) < (N : Int) := by omega
            have HCX : Hid (∃ g2 off, ao = some ⟨g2, off, none⟩ ∧ ∀ W, Chg F w W → g2 < W.heap.size ∧ W.cell? ⟨g2, off + q, none⟩ = some (.string x)) := by
              obtain ⟨ao', cp', ea, -, hcc⟩ := unhide HP2
              obtain ⟨rfl, -⟩ : ao = ao' ∧ cp = cp' := by injection ea with e1 e2 e3; exact ⟨e1, e3⟩
              obtain ⟨g2, off, rfl, hg2, hgF, hc⟩ := hcc (by rw [← unhide HN]; omega)
              exact ⟨g2, off, rfl, fun W hW => ⟨Nat.lt_of_lt_of_le hg2 hW.size, (World.cell?_of_block (a := ⟨g2, off + q, none⟩) (hW.block g2 hg2 hgF)).trans (hc q x hx)⟩⟩
            obtain ⟨g2, off, rfl, hcW⟩ := unhide HCX
            have HCW := hide hcW
            have HSX := hide (sz_take hx)
            have HBX := hide (bytes_take hx)
            have hszq : sz (L.take q) + x.size ≤ 67108864 := by have := sz_le L (q + 1); have := unhide HSX; have := unhide HSZ; omega
            have HDP1 : Hid (Dp w wr F sb m.tick (.slice (some ⟨g, 0, none⟩) m.runs.length rc) sl r u ((r.txt ++ bytes (L.take q)) ++ (x.data.toList).take 0)) := by
              rw [List.take_zero, List.append_nil]; exact HDP
            clear hcW HCX hx HDP
            go_wp2
            obtain ⟨wq, rfl⟩ : ∃ x : World, x = wr := ⟨_, rfl⟩
            go_loopw [12, 14] (fun s12 s14 wr => ∃ (y : Nat) (u : Value), u = s12 ∧ s14 = .int .i64 (y : Int) ∧ y ≤ x.size ∧ Hid (Dp w wr F sb m.tick (.slice (some ⟨g, 0, none⟩) m.runs.length rc) sl r u ((r.txt ++ bytes (L.take q)) ++ (x.data.toList).take y))) (fun _ y _ => x.size - (intOf y).toNat)
            case atStart => exact ⟨0, _, rfl, rfl, Nat.zero_le _, HDP1⟩
            case round =>
              obtain ⟨y, u2, rfl, rfl, hy, HDPy⟩ := hrel
              obtain ⟨hg2, hcx⟩ := unhide HCW wr (unhide HDPy).chg
              by_cases hyx : y < x.size
              · have hyz : (y : Int) < (x.size : Int) := by omega
                obtain ⟨b, hb⟩ : ∃ b, x[y] = b := ⟨_, rfl⟩
                have HTK : Hid (x.data.toList.take (y + 1) = x.data.toList.take y ++ [b]) := by
                  show _ = _
                  rw [List.take_succ_eq_append_getElem (by simpa using hyx), ← hb]
                  rfl
                have hlen : ((r.txt ++ bytes (L.take q)) ++ (x.data.toList).take y).length = r.txt.length + sz (L.take q) + y := by
                  rw [List.length_append, List.length_append, bytes_len, List.length_take]
                  have : x.data.toList.length = x.size := by simp
                  omega
                obtain ⟨i0, hi00, hz0⟩ := Option.map_eq_some_iff.1 infoB
                simp only [Prod.mk.injEq] at hz0
                obtain ⟨hz0, hz1, hz2⟩ := hz0
                go_wp2_with (at_builtin; refine wpList_append_own_at _ rfl _ _ 99 rfl 0 5 i0 (.int .u8 0) 1 1 Tryd.underlying99 hi00 hz0 hz1 hz2 rfl (by decide) _ _ _ rfl (own_kept (unhide HDPy).own fun g' hg' => Below.heap_alloc _ _ _ ((unhide HDPy).own.lt g' hg').2) ⟨wr.heap.size, 0, none⟩ 1 1 [.int .u8 (b.toNat : Int)] rfl rfl (fun j u hu => new_cell1 hu) (by simp [Value.oneCell']) (by unfold maxLen; rw [hlen]; omega) (by rw [hlen]; omega) (Nat.zero_le _) ?_; intro v' w2 hown' hgrow hnil hat; clear hnil; have HDP2 := hide ((unhide HDPy).push (c := b) hgrow hown' hat); clear hown' hgrow hat)
                go_roundw
                case rel => exact ⟨y + 1, v', rfl, by go_num, by omega, (by rw [unhide HTK, ← List.append_assoc]; exact HDP2)⟩
                case measure => simp [intOf]; omega
              · have hyz : ¬ (y : Int) < (x.size : Int) := by omega
                have HDP3 : Hid (Dp w wr F sb m.tick (.slice (some ⟨g, 0, none⟩) m.runs.length rc) sl r u2 (r.txt ++ bytes (L.take (q + 1)))) := by
                  have d := unhide HDPy
                  have e0 : x.data.toList.take y = x.data.toList := List.take_of_length_le (by have : x.data.toList.length = x.size := by simp
                                                                                               omega)
                  rw [e0, List.append_assoc, ← unhide HBX] at d
                  exact d
                go_wp2
                go_roundw
                case rel => exact ⟨q + 1, u2, rfl, by go_num, by omega, HDP3⟩
                case measure => simp [intOf]; omega
          · have hqz : ¬ (q : Int) < (N : Int) := by omega
            have HDPF : Hid (Dp w wr F sb m.tick (.slice (some ⟨g, 0, none⟩) m.runs.length rc) sl r u (r.txt ++ bytes L)) := by
              have d := unhide HDP
              rw [List.take_of_length_le (by rw [← unhide HN]; omega)] at d
              exact d
            obtain ⟨au, cu, eu⟩ := own_slice (unhide HDPF).own
            subst eu
            clear HDP
            obtain ⟨d0, d1, d2, d3, d4, df⟩ := dcells (unhide HDPF).sto
            have q1 : wr.cell? ⟨g, i * 3 + 1, none⟩ = some (sl r.num) := ((unhide HDPF).row.cellAt (i * 3 + 1) (by show i * 3 + 1 < m.runs.length * 3; omega)).trans (rowD_get (sl := sl) (unhide HI)).2.1
            have qf := (unhide HDPF).row.frozenAt (i * 3 + 1)
            have hsb := (Array.getElem?_eq_some_iff.1 (unhide HDPF).sto).1
            have hgl := ((unhide HDPF).row.lt g rfl).2
            have hgs : ¬ g = sb := kind_ne (unhide HDPF).sto (by decide) (unhide HDPF).row g rfl
            have hsg : ¬ sb = g := fun e => hgs e.symm
            have okT : m.tick.Ok := (unhide HOK).tick
            obtain ⟨l1, l2, l3⟩ := (unhide HDPF).laid okT.sorted (unhide HI)
            have hrm2 := List.mem_of_getElem? (unhide HI)
            have htt : tot (repl m.runs { r with txt := r.txt ++ bytes L }) = tot m.runs + sz L := app_tot okT hrm2 L
            have HUS2 := hide (used_row (dcells l1).2.2.2.2.1 l2 l3 (by show (repl m.runs _).length ≤ _; unfold repl; rw [List.length_map]; exact hbl) (by show tot (repl m.runs _) ≤ _; rw [htt]; have := unhide HF2; omega))
            rw [show tot (repl m.tick.runs { r with txt := r.txt ++ bytes L }) = tot m.runs + sz L from htt] at HUS2
            obtain ⟨T, hT⟩ : ∃ T, tot m.runs + sz L = T := ⟨_, rfl⟩
            have hTl : T ≤ 67108864 := by have := unhide HF2; omega
            rw [hT] at HUS2
            have HTT := hide hT
            have HOKA := hide (app_ok okT hrm2 (L := L) (unhide HF2))
            have HL1 := hide l1
            have d1' : wr.cell? ⟨sb, 1, none⟩ = some (.int .i64 (m.peak : Int)) := d1
            clear l1 l2 l3 htt hT okT d0 d2 d3 d1
            generalize (r.txt ++ bytes L).length = ln at *
            obtain ⟨P, hP⟩ : ∃ P, m.peak = P := ⟨_, rfl⟩
            have hPl : P ≤ 67108864 := by have := (unhide HOK).peakle; omega
            rw [hP] at d1'
            have HPE := hide hP
            clear hP
            have HCH : Hid (Chg F w (wr.setCell ⟨g, i * 3 + 1, none⟩ (.slice au ln cu))) := (unhide HDPF).chg.setCell (.inl (unhide HGF)) _
            have HFIN : Hid (∀ W, W.heap[sb]? = some (.cells (stoD (m.tick.app r L) (.slice (some ⟨g, 0, none⟩) m.runs.length rc)) 84 (0, 0)) → (∀ b, b ≠ sb → W.heap[b]? = (wr.setCell ⟨g, i * 3 + 1, none⟩ (.slice au ln cu)).heap[b]?) → W.heap.size = wr.heap.size → Chg F w W → DRes F w sb (m.tick.app r L) W) := fun W h1 h2 h3 h4 =>
              (unhide HDPF).fin (unhide HLT) (unhide HOWN) (unhide HGF) (unhide HTXF) (unhide HAPT) (unhide HOK).tick.sorted (unhide HI) (m' := m.tick.app r L) rfl (unhide HOKA) h1 h2 h3 h4
            by_cases hpk : P < T
            · have hpz : (P : Int) < (T : Int) := by omega
              have HEND : Hid (DRes F w sb (m.tick.app r L) ((wr.setCell ⟨g, i * 3 + 1, none⟩ (.slice au ln cu)).setCell ⟨sb, 1, none⟩ (.int .i64 (T : Int)))) := by
                refine unhide HFIN _ ?_ (fun b hb => Below.heap_setCell _ _ _ _ hb) (by simp) ((unhide HCH).setCell (.inl (unhide HOWN)) _)
                rw [set_heap1 (unhide HL1)]
                have e3 : max m.peak (tot m.runs + sz L) = T := by rw [unhide HTT, unhide HPE]; omega
                simp [stoD, Sto.app, Sto.tick, e3]
              go_wp2_with (go_at_call 37; refine (unhide HUS2).mono ?_; rintro e w5 ⟨rfl, hw5⟩; subst hw5)
              go_ret
              exact ⟨rfl, unhide HEND⟩
            · have hpz : ¬ (P : Int) < (T : Int) := by omega
              have HEND : Hid (DRes F w sb (m.tick.app r L) (wr.setCell ⟨g, i * 3 + 1, none⟩ (.slice au ln cu))) := by
                refine unhide HFIN _ ?_ (fun b _ => rfl) (by simp) (unhide HCH)
                rw [unhide HL1]
                have e3 : max m.peak (tot m.runs + sz L) = m.peak := by rw [unhide HTT, unhide HPE]; omega
                simp [stoD, Sto.app, Sto.tick, e3]
              go_wp2_with (go_at_call 37; refine (unhide HUS2).mono ?_; rintro e w5 ⟨rfl, hw5⟩; subst hw5)
              go_ret
              exact ⟨rfl, unhide HEND⟩
  · have e := unhide HA
    unfold app at e
    rw [if_neg ha, hl] at e
    simp [hs] at e
    obtain ⟨e1, e2⟩ := e
    subst e1 e2
    have HSH := hide hs
    clear h HA hl hi hs
    subst hn
    go_enter Tryd.func53, Tryd.ntmps53
    go_wp2_with (first | (go_at_call 65; refine (unhide HR).mono ?_; rintro e w1 ⟨rfl, hd1⟩; have HD := hide hd1; clear hd1) | (go_at_call 69; have q := fit_some (unhide HD).1 (unhide HI); rw [unhide HSH] at q; simp only [if_true] at q; refine q.mono ?_; clear q; rintro e w2 ⟨rfl, rfl⟩))
    go_ret
    exact ⟨rfl, DRes.of (unhide HD).1 (unhide HD).2.1⟩
end Rs
end Go.Proofs.YtdcffkahijpcbabDoor
