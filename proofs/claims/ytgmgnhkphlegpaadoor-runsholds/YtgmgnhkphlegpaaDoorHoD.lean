/- Layer 5: RunsHolds. -/
import Derived.Test.YtgmgnhkphlegpaaDoorHoC
import Derived.BigQuiet
namespace Go.Proofs.YtgmgnhkphlegpaaDoor
open Go.RowKit
namespace Rs
set_option maxRecDepth 100000 in
set_option maxHeartbeats 4000000 in
theorem hold_script {w : World} {v : Value} {c : Int} {os : List (Op5 × Value)} {E : Nat → Addr} (V : Env w E w.heap.size) (hs : Script w v os) (hc1 : -9223372036854775808 ≤ c) (hc2 : c ≤ 9223372036854775807) :
    Calls Tryd.prog 6 #[.int .i64 c, v] w fun e w' => e = .returned (.bool true) ∧ Below w.heap.size w w' := by
  have HSN := hide (sit_new V.g c hc1 hc2)
  have HCP : Hid (((newS c).cap : Int) ≤ max 0 c) := by simp only [newS, Hid]; omega
  have HTL0 : Hid (Tells (newS c) []) := ⟨by simp [newS], fun j t hj => by simp at hj, fun j t hj => by simp at hj⟩
  have HSC := hide hs
  obtain ⟨ao, cap, rfl, hn, hok, hat⟩ := hs
  have HAT := hide hat
  have HOK := hide hok
  have HV := hide V
  obtain ⟨N, hN⟩ : ∃ N, N = os.length := ⟨_, rfl⟩
  have HN := hide hN
  rw [← hN] at hn ⊢
  clear hat hok hN V hc1 hc2
  go_enter Tryd.func6, Tryd.ntmps6
  go_wp2_with (first | (go_at_call 9; refine (unhide HSN).mono ?_; clear HSN; rintro e w1 ⟨rfl, hb1⟩; have HS1 := hide hb1; clear hb1) | (go_at_call 11; refine (wakes_any _ ((unhide HV).below (unhide HS1).old).g).mono ?_; rintro e w2 ⟨rfl, hb2⟩; have HS2 := hide ((unhide HS1).below hb2); clear HS1 hb2))
  have HB0 : Hid (Hb w w.heap.size (newS c) (.slice none 0 0) [] w2) := by
    obtain ⟨F, a1, a2, a3, a4⟩ := unhide HS2
    exact ⟨F, a1, a3, World.ownsRow_nil _ _ _ _, fun g hg => (by cases hg), a4⟩
  generalize newS c = m0 at *
  clear HS2
  go_loopw [6, 22] (fun bv i wr => ∃ (k : Nat) (m : Sto) (bk : List (List UInt8 × Bool)) (ba : Option Addr) (bc : Nat), k ≤ N ∧ i = .int .i64 k ∧ bv = .slice ba bk.length bc ∧ Hid (Hb w w.heap.size m (.slice ba bk.length bc) bk wr) ∧ Hid (Tells m bk) ∧ Hid ((m.cap : Int) ≤ max 0 c)) (fun _ i _ => N - (intOf i).toNat)
  case atStart => exact ⟨0, m0, [], none, 0, Nat.zero_le _, rfl, rfl, HB0, HTL0, HCP⟩
  case round =>
    obtain ⟨k, m, bk, ba, bc, hk, rfl, rfl, HB, HTL, HCM⟩ := hrel
    clear HB0 HTL0 HCP
    by_cases hlt : k < N
    · have hltz : (k : Int) < (N : Int) := by omega
      have hk0 : 0 ≤ (k : Int) := by omega
      obtain ⟨p, hp⟩ : ∃ p, os[k]? = some p := ⟨_, List.getElem?_eq_getElem (by rw [← unhide HN]; exact hlt)⟩
      obtain ⟨g, off, rfl, hg, hc⟩ := unhide HAT (by rw [← unhide HN]; omega)
      have q := hc k p hp
      have hin := unhide HOK p (List.mem_of_getElem? hp)
      have l : ∀ o, wr.cell? ⟨g, o, none⟩ = w.cell? ⟨g, o, none⟩ := fun o => (unhide HB).old.cell (p := ⟨g, o, none⟩) hg
      have d0 := (l _).trans q.c0
      have d1 := (l _).trans q.c1
      have d2 := (l _).trans q.c2
      have d3 := (l _).trans q.c3
      have d4 := (l _).trans q.c4
      have HST := hide hin.st
      have HPL : Hid (∀ W, Below wr.heap.size wr W → Calls Tryd.prog 12 #[.pointer (some ⟨w.heap.size, 0, none⟩), opV p.1 p.2] W fun e w' => ∃ lv, e = .returned (ansV (ply m p.1).1 lv) ∧ Hb w w.heap.size (ply m p.1).2 (.slice ba bk.length bc) bk w' ∧ IntsN W.heap.size w' lv (ply m p.1).1.l ∧ W.heap.size ≤ w'.heap.size ∧ ∀ b, wr.heap.size ≤ b → b < W.heap.size → w'.heap[b]? = W.heap[b]?) := fun W hb => hb_play (unhide HV) (unhide HB) hb hin
      have HCP2 : Hid (((ply m p.1).2.cap : Int) ≤ max 0 c) := by rw [ply_cap]; exact HCM
      have HTS := hide (fun h => tells_stay (o := p.1) (unhide HTL) h)
      have HTC := hide (fun h1 h2 => tells_create (o := p.1) (unhide HTL) (unhide HB).ok h1 h2)
      have HTA := hide (fun h1 h2 => tells_append (o := p.1) (unhide HTL) (unhide HB).ok h1 h2)
      have HTR := hide (fun h1 h2 => tells_remove (o := p.1) (unhide HTL) (unhide HB).ok h1 h2)
      have hll := hin.ok.len
      have HLB0 : Hid (bk.length ≤ 16777216) := by have := (unhide HTL).len; have := (unhide HB).ok.made; show bk.length ≤ 16777216; omega
      obtain ⟨pa, pc, epv, -, -⟩ := hin.st
      unfold opV ansV at HPL
      rw [epv] at HPL d4 HST
      clear q hc l hin epv hp HTL
      generalize p.1.kd = kd at *
      by_cases hcode : (ply m p.1).1.c = 0
      · by_cases h1 : kd = 1
        · obtain ⟨hnn, hmd, htl⟩ := unhide HTC h1 hcode
          have HTL2 := hide htl
          have HLB : Hid (bk.length ≤ 16777216) := by have := HLB0; exact this
          clear HTS HTC HTA HTR htl
          subst h1
          generalize ply m p.1 = R at *
          obtain ⟨⟨rn, rc, rt, K⟩, rm⟩ := R
          dsimp only at HPL HTL2 HCP2 hcode hnn hmd
          subst hcode
          subst hnn
          have HMD := hide hmd
          clear hmd
          obtain ⟨i0, hi, hz0⟩ := Option.map_eq_some_iff.1 info_held
          simp only [Prod.mk.injEq] at hz0
          obtain ⟨hz0, hz1, hz2⟩ := hz0
          go_upto_region 11 with (first | (go_at_call 12; refine (unhide HPL _ (by (repeat (first | exact Below.refl _ _ | refine Below.drew ?_ | refine Below.alloc ?_ (by first | (simp; done) | (simp; omega)) _ | refine Below.setCell ?_ (by first | (simp; done) | (simp; omega)) _)))).mono ?_; clear HPL; rintro e w3 ⟨lv, rfl, ht3, hi3, hs3, hk3⟩; obtain ⟨la, lc, rfl⟩ := hi3.sliced; have hO := (hk3 wr.heap.size (Nat.le_refl _) (by simp)).trans (MapKept.heap_alloc wr _).1; obtain ⟨o0, o1, o4⟩ := op_cells hO; have hz3 : wr.heap.size < w3.heap.size := (by simp at hs3; omega); have HT3 := hide ht3; have HO3 := hide hO; clear ht3 hi3 hs3 hk3 hO) | (at_builtin; refine wpList_append_own_at _ rfl _ _ 40 rfl w.heap.size 42 i0 (.agg #[.string ByteArray.empty, .bool false]) 2 24 Tryd.underlying40 hi hz0 hz1 hz2 rfl (by decide) _ _ _ rfl ((unhide HT3).below (W := (w3.alloc _).alloc _) (by (repeat (first | exact Below.refl _ _ | refine Below.drew ?_ | refine Below.alloc ?_ (by first | (simp; done) | (simp; omega)) _ | refine Below.setCell ?_ (by first | (simp; done) | (simp; omega)) _)))).own ⟨w3.heap.size + 1, 0, none⟩ 1 1 [.string ⟨#[]⟩, .bool true] rfl rfl (cell_two_at _ _ _ _ _) (by simp [Value.oneCell']) (by unfold maxLen; have := unhide HLB; omega) (by have := unhide HLB; omega) (by have := (unhide HT3).old.size; simp; omega) ?_; intro v5 w5 hown5 hgrow5 hnil5 hat5; obtain ⟨a5, c5, rfl⟩ := own_slice hown5; have HT5 := hide (Hb.push ((unhide HT3).below (by (repeat (first | exact Below.refl _ _ | refine Below.drew ?_ | refine Below.alloc ?_ (by first | (simp; done) | (simp; omega)) _ | refine Below.setCell ?_ (by first | (simp; done) | (simp; omega)) _)))) hown5 hgrow5 hat5); obtain ⟨kA, kO⟩ := book_keeps (unhide HB) hz3 hgrow5; obtain ⟨p0, p1, p2, p3, pf⟩ := ans_cells kA; obtain ⟨s0, s1, s4⟩ := op_cells (kO.trans (unhide HO3)); have HMC : Hid (∀ n, Calls Tryd.prog 15 #[.pointer (some ⟨w.heap.size, 0, none⟩)] (w5.drewN n) fun e w' => e = .returned (.int .i64 ((bk.length + 1 : Nat) : Int)) ∧ w' = w5.drewN n) := (fun n => by have q := hb_made ((unhide HT5).below (below_drewN w5 n _)); rw [unhide HMD] at q; exact q); clear kA kO o0 o1 o4; clear hown5 hgrow5 hnil5 hat5))
          have hK5 : ∀ x : Int, (x != x) = false := fun x => by simp
          go_quiet ((go_at_call 15; exact Calls.quiet_of_same (unhide HMC _)))
          go_wp2_with (go_at_call 16; refine (hb_holds (unhide HV) ((unhide HT5).below (by first | exact below_drewN _ _ _ | (repeat (first | exact Below.refl _ _ | refine Below.drew ?_ | refine Below.alloc ?_ (by first | (simp; done) | (simp; omega)) _ | refine Below.setCell ?_ (by first | (simp; done) | (simp; omega)) _)))) (unhide HTL2) (unhide HCP2)).mono ?_; rintro e w6 ⟨rfl, hx6⟩; have HT6 := hide hx6; clear hx6)
          refine ⟨⟨k + 1, rm, bk ++ [([], true)], a5, c5, by omega, by go_num, by rw [List.length_append]; rfl, ?_, HTL2, HCP2⟩, by simp [intOf]; omega⟩
          rw [List.length_append]
          exact HT6
        · by_cases h2 : kd = 2
          · obtain ⟨i, t, e1, e2, e3, hsz, htl⟩ := unhide HTA h2 hcode
            have HTL2 := hide htl
            obtain ⟨gb, rfl, hgb⟩ := (unhide HB).at (by omega)
            have HE2 := hide e2
            rw [e1] at HPL d1
            clear HTS HTC HTA HTR htl
            subst h2
            generalize hL : p.1.L = L at *
            generalize ply m p.1 = R at *
            obtain ⟨⟨rn, rc, rt, K⟩, rm⟩ := R
            dsimp only at HPL HTL2 HCP2 hcode
            subst hcode
            have hib : (i : Int) < (bk.length : Int) := by omega
            have hlb : bk.length ≤ 16777216 := unhide HLB0
            have hi0 : 0 ≤ (i : Int) := by omega
            have hnb : ¬ (bk.length : Int) < (i : Int) + 1 := by omega
            have hn1 : ¬ (i : Int) + 1 < 1 := by omega
            have hne1 : ¬ gb = wr.heap.size := by omega
            have hne2 : ¬ wr.heap.size = gb := by omega
            have hp0 : 0 ≤ p.1.run := by omega
            clear hp0
            go_wp2_with (go_at_call 12; refine (unhide HPL _ (by (repeat (first | exact Below.refl _ _ | refine Below.drew ?_ | refine Below.alloc ?_ (by first | (simp; done) | (simp; omega)) _ | refine Below.setCell ?_ (by first | (simp; done) | (simp; omega)) _)))).mono ?_; clear HPL; rintro e w3 ⟨lv, rfl, ht3, hi3, hs3, hk3⟩; obtain ⟨la, lc, rfl⟩ := hi3.sliced; have hO := (hk3 wr.heap.size (Nat.le_refl _) (by simp)).trans (MapKept.heap_alloc wr _).1; obtain ⟨o0, o1, o4⟩ := op_cells hO; have hz3 : wr.heap.size < w3.heap.size := (by simp at hs3; omega); have HT3 := hide ht3; have HO3 := hide hO; clear ht3 hi3 hs3 hk3 hO; have hgb3 : gb < w3.heap.size := (by omega); obtain ⟨c0, c1, cf⟩ := (unhide HT3).cells rfl e2)
            obtain ⟨wo, rfl⟩ : ∃ x : World, x = wr := ⟨_, rfl⟩
            go_loopw [11, 89] (fun _ jv wx => ∃ q : Nat, q ≤ L.length ∧ jv = .int .i64 q ∧ Hid (Hb w w.heap.size rm (.slice (some ⟨gb, 0, none⟩) bk.length bc) (bk.set i (t ++ bytes (L.take q), true)) wx) ∧ wx.cell? ⟨wo.heap.size, 0, none⟩ = some (.int .i64 2) ∧ wx.cell? ⟨wo.heap.size, 1, none⟩ = some (.int .i64 ((i : Int) + 1)) ∧ Hid (wo.heap.size < wx.heap.size)) (fun _ jv _ => L.length - (intOf jv).toNat)
            case atStart =>
              refine ⟨0, Nat.zero_le _, rfl, hide ?_, cell?_alloc_old _ o0, cell?_alloc_old _ o1, hide (by simp; omega)⟩
              rw [List.take_zero, show t ++ bytes [] = t by simp [bytes], set_same (unhide HE2)]
              exact (unhide HT3).below (by (repeat (first | exact Below.refl _ _ | refine Below.drew ?_ | refine Below.alloc ?_ (by first | (simp; done) | (simp; omega)) _ | refine Below.setCell ?_ (by first | (simp; done) | (simp; omega)) _)))
            case round =>
              obtain ⟨q, hq, rfl, HX, x0, x1, HXS⟩ := hrel
              clear o0 o1 o4 c0 c1 cf
              have hxs := unhide HXS
              have hbl : (bk.set i (t ++ bytes (L.take q), true)).length = bk.length := by simp
              have hgt := set_get (l := bk) (x := (t ++ bytes (L.take q), true)) e3
              obtain ⟨y0, y1, yf⟩ := (unhide HX).cells hbl.symm hgt
              by_cases hql : q < L.length
              · have hqz : (q : Int) < (L.length : Int) := by omega
                have hq0 : 0 ≤ (q : Int) := by omega
                obtain ⟨sx, hsx⟩ : ∃ sx, L[q]? = some sx := ⟨_, List.getElem?_eq_getElem hql⟩
                obtain ⟨pa', pc', ep, -, hpc⟩ := unhide HST
                obtain ⟨rfl, rfl⟩ : pa = pa' ∧ pc = pc' := by injection ep with e1 _ e2; exact ⟨e1, e2⟩
                obtain ⟨gp, op, rfl, hgp, hcp⟩ := hpc (by omega)
                have z0 : wr.cell? ⟨gp, op + q, none⟩ = some (.string sx) := ((unhide HX).old.cell (p := ⟨gp, op + q, none⟩) hgp).trans (hcp q sx hsx)
                clear hcp hpc ep
                have HBT := hide (bytes_take hsx)
                obtain ⟨T, hT⟩ : ∃ T, T = strB (t ++ bytes (L.take q)) := ⟨_, rfl⟩
                rw [← hT] at y0
                have HTT := hide hT
                have HGT := hide hgt
                have hTs : T.size + sx.size ≤ 67108864 := by
                  have a1 := sz_app (L.take (q + 1)) (L.drop (q + 1))
                  rw [List.take_append_drop] at a1
                  have a2 := congrArg List.length (unhide HBT)
                  rw [List.length_append, bytes_len, bytes_len] at a2
                  have a3 : T.size = t.length + sz (L.take q) := by rw [hT]; simp [strB, ByteArray.size, bytes_len]
                  have a4 : sx.data.toList.length = sx.size := by rw [Array.length_toList]; rfl
                  omega
                clear hT hgt hbl hsx
                go_wp2
                refine ⟨⟨q + 1, by omega, by go_num, hide ?_, by go_simp, by go_simp, hide (by simpa using hxs)⟩, by simp [intOf]; omega⟩
                rw [unhide HBT, ← List.append_assoc]
                refine (unhide HX).setb (by simp) (i * 2) _ (by simp) ?_
                rw [unhide HTT, strB_app, bkC_set0 (unhide HGT), List.set_set]
              · have hqz : ¬ (q : Int) < (L.length : Int) := by omega
                obtain rfl : q = L.length := by omega
                rw [List.take_length] at HX hgt
                have HGT := hide hgt
                have HXF : Hid (Hb w w.heap.size rm (.slice (some ⟨gb, 0, none⟩) bk.length bc) (bk.set i (t ++ bytes L, true)) (wr.setCell ⟨gb, i * 2 + 1, none⟩ (.bool true))) := by
                  refine (unhide HX).setb (by simp) (i * 2 + 1) _ (by simp) ?_
                  rw [bkC_set1 (unhide HGT), List.set_set]
                clear hgt hbl
                go_wp2_with (go_at_call 16; refine (hb_holds (unhide HV) (unhide HXF) (unhide HTL2) (unhide HCP2)).mono ?_; rintro e w6 ⟨rfl, hx6⟩; have HT6 := hide hx6; clear hx6)
                refine ⟨⟨k + 1, rm, bk.set i (t ++ bytes L, true), some ⟨gb, 0, none⟩, bc, by omega, by go_num, by rw [List.length_set], ?_, HTL2, HCP2⟩, by simp [intOf]; omega⟩
                rw [List.length_set]
                exact HT6
          · by_cases h6 : kd = 6
            · obtain ⟨i, t, e1, e2, e3, htl⟩ := unhide HTR h6 hcode
              have HTL2 := hide htl
              obtain ⟨gb, rfl, hgb⟩ := (unhide HB).at (by omega)
              have HE2 := hide e2
              rw [e1] at HPL d1
              clear HTS HTC HTA HTR htl
              subst h6
              generalize hL : p.1.L = L at *
              generalize ply m p.1 = R at *
              obtain ⟨⟨rn, rc, rt, K⟩, rm⟩ := R
              dsimp only at HPL HTL2 HCP2 hcode
              subst hcode
              have hib : (i : Int) < (bk.length : Int) := by omega
              have hlb : bk.length ≤ 16777216 := unhide HLB0
              have hi0 : 0 ≤ (i : Int) := by omega
              have hnb : ¬ (bk.length : Int) < (i : Int) + 1 := by omega
              have hn1 : ¬ (i : Int) + 1 < 1 := by omega
              have hne1 : ¬ gb = wr.heap.size := by omega
              have hne2 : ¬ wr.heap.size = gb := by omega
              have hp0 : 0 ≤ p.1.run := by omega
              clear hp0
              go_wp2_with (go_at_call 12; refine (unhide HPL _ (by (repeat (first | exact Below.refl _ _ | refine Below.drew ?_ | refine Below.alloc ?_ (by first | (simp; done) | (simp; omega)) _ | refine Below.setCell ?_ (by first | (simp; done) | (simp; omega)) _)))).mono ?_; clear HPL; rintro e w3 ⟨lv, rfl, ht3, hi3, hs3, hk3⟩; obtain ⟨la, lc, rfl⟩ := hi3.sliced; have hO := (hk3 wr.heap.size (Nat.le_refl _) (by simp)).trans (MapKept.heap_alloc wr _).1; obtain ⟨o0, o1, o4⟩ := op_cells hO; have hz3 : wr.heap.size < w3.heap.size := (by simp at hs3; omega); have HT3 := hide ht3; have HO3 := hide hO; clear ht3 hi3 hs3 hk3 hO; have hgb3 : gb < w3.heap.size := (by omega); obtain ⟨c0, c1, cf⟩ := (unhide HT3).cells rfl e2)
              obtain ⟨wo, rfl⟩ : ∃ x : World, x = wr := ⟨_, rfl⟩
              go_loopw [11, 89] (fun _ jv wx => ∃ q : Nat, q ≤ L.length ∧ jv = .int .i64 q ∧ Hid (Hb w w.heap.size rm (.slice (some ⟨gb, 0, none⟩) bk.length bc) bk wx) ∧ wx.cell? ⟨wo.heap.size, 0, none⟩ = some (.int .i64 6) ∧ wx.cell? ⟨wo.heap.size, 1, none⟩ = some (.int .i64 ((i : Int) + 1)) ∧ Hid (wo.heap.size < wx.heap.size)) (fun _ jv _ => L.length - (intOf jv).toNat)
              case atStart =>
                refine ⟨0, Nat.zero_le _, rfl, hide ?_, cell?_alloc_old _ o0, cell?_alloc_old _ o1, hide (by simp; omega)⟩
                exact (unhide HT3).below (by (repeat (first | exact Below.refl _ _ | refine Below.drew ?_ | refine Below.alloc ?_ (by first | (simp; done) | (simp; omega)) _ | refine Below.setCell ?_ (by first | (simp; done) | (simp; omega)) _)))
              case round =>
                obtain ⟨q, hq, rfl, HX, x0, x1, HXS⟩ := hrel
                clear o0 o1 o4 c0 c1 cf
                have hxs := unhide HXS
                obtain ⟨y0, y1, yf⟩ := (unhide HX).cells rfl (unhide HE2)
                by_cases hql : q < L.length
                · have hqz : (q : Int) < (L.length : Int) := by omega
                  have hq0 : 0 ≤ (q : Int) := by omega
                  obtain ⟨sx, hsx⟩ : ∃ sx, L[q]? = some sx := ⟨_, List.getElem?_eq_getElem hql⟩
                  obtain ⟨pa', pc', ep, -, hpc⟩ := unhide HST
                  obtain ⟨rfl, rfl⟩ : pa = pa' ∧ pc = pc' := by injection ep with e1 _ e2; exact ⟨e1, e2⟩
                  obtain ⟨gp, op, rfl, hgp, hcp⟩ := hpc (by omega)
                  have z0 : wr.cell? ⟨gp, op + q, none⟩ = some (.string sx) := ((unhide HX).old.cell (p := ⟨gp, op + q, none⟩) hgp).trans (hcp q sx hsx)
                  clear hcp hpc ep
                  clear hsx
                  go_wp2
                  exact ⟨⟨q + 1, by omega, by go_num, HX, x0, x1, HXS⟩, by simp [intOf]; omega⟩
                · have hqz : ¬ (q : Int) < (L.length : Int) := by omega
                  have HXF : Hid (Hb w w.heap.size rm (.slice (some ⟨gb, 0, none⟩) bk.length bc) (bk.set i (t, false)) (wr.setCell ⟨gb, i * 2 + 1, none⟩ (.bool false))) := by
                    refine (unhide HX).setb rfl (i * 2 + 1) _ (by simp) ?_
                    rw [bkC_set1 (unhide HE2)]
                  go_wp2_with (go_at_call 16; refine (hb_holds (unhide HV) (unhide HXF) (unhide HTL2) (unhide HCP2)).mono ?_; rintro e w6 ⟨rfl, hx6⟩; have HT6 := hide hx6; clear hx6)
                  refine ⟨⟨k + 1, rm, bk.set i (t, false), some ⟨gb, 0, none⟩, bc, by omega, by go_num, by rw [List.length_set], ?_, HTL2, HCP2⟩, by simp [intOf]; omega⟩
                  rw [List.length_set]
                  exact HT6
            · have HTL2 := hide (unhide HTS (.inr ⟨h1, h2, h6⟩))
              clear HTS HTC HTA HTR
              generalize ply m p.1 = R at *
              obtain ⟨⟨rn, rc, rt, K⟩, rm⟩ := R
              dsimp only at HPL HTL2 HCP2 hcode
              subst hcode
              have hb1 : (kd == 1) = false := by simp [h1]
              have hb2 : (kd == 2) = false := by simp [h2]
              have hb6 : (kd == 6) = false := by simp [h6]
              go_wp2_with (first | (go_at_call 12; refine (unhide HPL _ (by (repeat (first | exact Below.refl _ _ | refine Below.drew ?_ | refine Below.alloc ?_ (by first | (simp; done) | (simp; omega)) _ | refine Below.setCell ?_ (by first | (simp; done) | (simp; omega)) _)))).mono ?_; clear HPL; rintro e w3 ⟨lv, rfl, ht3, hi3, hs3, hk3⟩; obtain ⟨la, lc, rfl⟩ := hi3.sliced; have hO := (hk3 wr.heap.size (Nat.le_refl _) (by simp)).trans (MapKept.heap_alloc wr _).1; obtain ⟨o0, o1, o4⟩ := op_cells hO; have hz3 : wr.heap.size < w3.heap.size := (by simp at hs3; omega); have HT3 := hide ht3; have HO3 := hide hO; clear ht3 hi3 hs3 hk3 hO) | (go_at_call 16; refine (hb_holds (unhide HV) ((unhide HT3).below (by (repeat (first | exact Below.refl _ _ | refine Below.drew ?_ | refine Below.alloc ?_ (by first | (simp; done) | (simp; omega)) _ | refine Below.setCell ?_ (by first | (simp; done) | (simp; omega)) _)))) (unhide HTL2) (unhide HCP2)).mono ?_; rintro e w6 ⟨rfl, hx6⟩; have HT6 := hide hx6; clear hx6))
              refine ⟨⟨k + 1, rm, bk, ba, bc, by omega, by go_num, rfl, HT6, HTL2, HCP2⟩, by simp [intOf]; omega⟩
      · have HTL2 := hide (unhide HTS (.inl hcode))
        clear HTS HTC HTA HTR
        generalize ply m p.1 = R at *
        obtain ⟨⟨rn, rc, rt, K⟩, rm⟩ := R
        dsimp only at HPL HTL2 HCP2 hcode
        go_wp2_with (first | (go_at_call 12; refine (unhide HPL _ (by (repeat (first | exact Below.refl _ _ | refine Below.drew ?_ | refine Below.alloc ?_ (by first | (simp; done) | (simp; omega)) _ | refine Below.setCell ?_ (by first | (simp; done) | (simp; omega)) _)))).mono ?_; clear HPL; rintro e w3 ⟨lv, rfl, ht3, hi3, hs3, hk3⟩; obtain ⟨la, lc, rfl⟩ := hi3.sliced; have hO := (hk3 wr.heap.size (Nat.le_refl _) (by simp)).trans (MapKept.heap_alloc wr _).1; obtain ⟨o0, o1, o4⟩ := op_cells hO; have hz3 : wr.heap.size < w3.heap.size := (by simp at hs3; omega); have HT3 := hide ht3; have HO3 := hide hO; clear ht3 hi3 hs3 hk3 hO) | (go_at_call 16; refine (hb_holds (unhide HV) ((unhide HT3).below (by (repeat (first | exact Below.refl _ _ | refine Below.drew ?_ | refine Below.alloc ?_ (by first | (simp; done) | (simp; omega)) _ | refine Below.setCell ?_ (by first | (simp; done) | (simp; omega)) _)))) (unhide HTL2) (unhide HCP2)).mono ?_; rintro e w6 ⟨rfl, hx6⟩; have HT6 := hide hx6; clear hx6))
        refine ⟨⟨k + 1, rm, bk, ba, bc, by omega, by go_num, rfl, HT6, HTL2, HCP2⟩, by simp [intOf]; omega⟩
    · have hltz : ¬ (k : Int) < (N : Int) := by omega
      go_wp2
      go_ret
      exact ⟨rfl, (unhide HB).old⟩
end Rs
end Go.Proofs.YtgmgnhkphlegpaaDoor
