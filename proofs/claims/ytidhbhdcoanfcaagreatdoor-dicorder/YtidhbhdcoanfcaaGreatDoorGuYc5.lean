import Derived.Test.YtidhbhdcoanfcaaGreatDoorGq38
import Derived.Test.YtidhbhdcoanfcaaGreatDoorGq39
namespace Go.Proofs.YtidhbhdcoanfcaaGreatDoor
open Go.RowKit
namespace Af
open RowB FldW
structure OrdD (F : Fil) (E : List Ent) (fs : List Bs) (s : ByteArray) (n : Nat) : Prop where
 rows : ∀ W, Calls Tryz.prog 22 #[.string s] W fun e w' => ∃ v, e = .returned (.tuple #[v, .int .i64 0]) ∧ RwAt w' v fs ∧ Below W.heap.size W w'
 flen : fs.length = n
 elen : E.length = n
 few : n ≤ 8192
 lens : lens fs ≤ 65536
 fl : ∀ x ∈ E, x.flags.length ≤ 1048577
 turn : ∀ i j, i < n → j < n → ∃ fi fj E2, TurnE F E E2 fs i j fi fj
 sd : Np Sd F
theorem ordD {a s : ByteArray} {F : Fil} {E : List Ent} (ha : affR a.data.toList = .ok F) (hd : dicR F s.data.toList = .ok E) : ∃ fs, OrdD F E fs s E.length := by
 have hs : s.size ≤ 65536 := by
  by_cases h : 65536 < s.data.toList.length
  ·unfold dicR at hd
   rw [if_pos h] at hd
   cases hd
  ·have : s.data.toList.length = s.size := by simp
   omega
 obtain ⟨p, t, fs, h1, h2, h3, h4, h5⟩ := dic_inv hd
 have h6 := rows_len h1 h2
 have hsl : s.data.toList.length = s.size := by simp
 refine ⟨fs, fun W => ?_, h5.1, rfl, h4, by omega, dicR_len (affR_sets ha) hd, fun i j hi hj => turn_law h5 h3 hi hj, affR_sets ha⟩
 refine (RowR.rows_short s W hs).mono ?_
 rintro e w' ⟨v, rfl, q, b⟩
 rw [h1] at q
 exact ⟨v, rfl, rows_rw q h2, b⟩
set_option maxRecDepth 100000 in
set_option maxHeartbeats 8000000 in
theorem dord_ok (a s : ByteArray) (I J : Int) (w : World) (hM : Mx w.heap.size w) {F : Fil} (hx : affR a.data.toList = .ok F) {E : List Ent} (hd : dicR F s.data.toList = .ok E) : DOrd a s I J w := by
 obtain ⟨fs, hO⟩ := ordD hx hd
 have HO := hide hO
 have b0 : Below w.heap.size w (w.alloc (.cells #[.string a, .string s, .int .i64 I, .int .i64 J] TurnT)) := (Below.refl _ _).alloc (Nat.le_refl _) _
 have HWk := hide (wakes12_any _ (hM.up b0))
 have HA := hide (fun W (b : Below w.heap.size w W) => affOk (hM.up b) hx)
 unfold AffOk at HA
 have HB := hide (fun W b => box4 (w := w) (W := W) (a := a) (s := s) (I := I) (J := J) b)
 have HDR := hide hd
 obtain ⟨i0, hi, hz'⟩ := Option.map_eq_some_iff.1 infoS
 simp only [Prod.mk.injEq] at hz'
 obtain ⟨hz0, hz1, hz2⟩ := hz'
 have hfew := hO.few
 have HFL := hide hO.flen
 clear hM hx b0 hd hO
 generalize hnn : E.length = n at *
 have HEL := hide hnn
 clear hnn
 go_enter Tryz.func5, Tryz.ntmps5
 go_wp2_with fail
 refine (unhide HWk).mono ?_
 rintro e w1 ⟨rfl, b1⟩
 have B1 := hide b1
 obtain ⟨e0, e1, -, -, lt1⟩ := unhide HB _ b1
 clear b1 HWk
 go_wp2_with fail
 refine (unhide HA _ (box_low _ _ (unhide B1))).mono ?_
 rintro e w2 ⟨fb, rfl, b2, hD⟩
 have HD := hide hD
 have B2 := hide (btr (unhide B1) b2)
 obtain ⟨f0, f1, -, -, lt2⟩ := unhide HB _ (unhide B2)
 clear b2 e0 e1 lt1 hD
 go_wp2_with fail
 refine ((unhide HD).yesW ((Below.refl _ _).alloc (Nat.le_refl _) _) (unhide HDR)).mono ?_
 rintro e w3 ⟨wb, n3, Q3, rfl, b3, hwa⟩
 have HWA := hide hwa
 have b23 := box_low _ _ b3
 have B3 := hide (btr (unhide B2) b23)
 have B23 := hide b23
 obtain ⟨g0, g1, -, -, lt3⟩ := unhide HB _ (unhide B3)
 have b33 : Below w3.heap.size w3 (w3.alloc (.cells #[.int .i64 0, .int .i64 0, .int .i64 0] 31)) := (Below.refl _ _).alloc (Nat.le_refl _) _
 have B33 := hide b33
 clear b3 b23 b33 hwa f0 f1 lt2 HDR
 go_wp2_with fail
 refine ((unhide HO).rows _).mono ?_
 rintro e w4 ⟨v4, rfl, hr4, b4⟩
 have hfb := b4.block w3.heap.size (by simp)
 rw [alloc_new] at hfb
 have HFB := hide hfb
 have HRW4 := hide hr4
 have B34 := hide (btr (unhide B33) b4)
 have HEN := hide (entries_any ((unhide HWA).below (unhide B34)) (unhide HO).fl)
 clear hr4 b4 hfb g0 g1 lt3 B33 HWA
 go_wp2_with fail
 refine (unhide HEN).mono ?_
 rintro e w5 ⟨b5, v5, fv5, rfl, hE5⟩
 have hen := hE5.ena
 obtain ⟨a5, c5, rfl, hc5, hm5, -⟩ := id hen
 have HE5 := hide hen
 have HRW := hide ((unhide HRW4).below b5)
 obtain ⟨gr, cr, rfl, hcr, hmr, -, -⟩ := id (unhide HRW)
 have hf5 := (b5.block _ (lt_some (unhide HFB))).trans (unhide HFB)
 have HF5 := hide hf5
 have B25 := hide (btr (unhide B23) (btr (unhide B34) b5))
 have B5 := hide (btr (unhide B3) (btr (unhide B34) b5))
 clear hen b5 hE5 hf5 HEN HRW4 HFB B34 B23 B3
 rw [unhide HFL] at hcr
 rw [unhide HEL] at hc5
 rw [unhide HFL, unhide HEL]
 unfold maxLen at hmr
 by_cases hn0 : n = 0
 ·subst hn0
  go_wp2
  go_ret
  exact ⟨rfl, box_low _ _ (unhide B5)⟩
 ·have hnz : ((n : Int) == 0) = false := by simp; omega
  have hn1 : ((n : Int) + 1 != (n : Int) + 1) = false := by simp
  by_cases hn8 : n = 8192
  ·subst hn8
   go_wp2
   go_ret
   exact ⟨rfl, box_low _ _ (unhide B5)⟩
  ·have hn8z : ((n : Int) == 8192) = false := by simp; omega
   obtain ⟨ii, hii, hiv⟩ := within I n (by omega)
   obtain ⟨jj, hjj, hjv⟩ := within J n (by omega)
   obtain ⟨-, -, x2, x3, xlt⟩ := unhide HB _ (unhide B5)
   go_wp2
   refine Lst.region_last (ops1 := ?opsa) (o := ?opa) (S := fun w' => w'.cell? ⟨w.heap.size, 2, none⟩ = some (.int .i64 I) ∧ w'.cell? ⟨w.heap.size, 3, none⟩ = some (.int .i64 J)) (by kernel_rfl) ?hpa ?hba ?hka (by exact ⟨x2, x3⟩) ?hna
   case hpa => (simp only [List.pop_toArray, List.dropLast_cons_cons, List.dropLast_singleton]; rfl)
   case hba => (simp only [List.back?_toArray, List.getLast?_cons_cons, List.getLast?_singleton]; rfl)
   case hka => kernel_rfl
   intro hHeld
   refine wpAnyH_take (i := 0) (v := ?va0) (by simp only [List.getElem?_toArray, List.getElem?_cons_zero]; rfl) (by kernel_rfl) (by kernel_rfl) (by kernel_rfl) (by exact fun _ _ _ h => h) (Or.inl ⟨by rfl, ?hya0⟩) (by assumption) ?_
   case hya0 => (intro w hSw; (try dsimp only at hSw); go_simp; first | done | (with_reducible rfl))
   (try simp only [Act.put, List.setIfInBounds_toArray, List.set_cons_zero, List.set_cons_succ])
   refine wpAnyH_take (i := 1) (v := ?va1) (by simp only [List.getElem?_toArray, List.getElem?_cons_succ, List.getElem?_cons_zero]; rfl) (by kernel_rfl) (by kernel_rfl) (by kernel_rfl) (by exact fun _ _ _ h => h) (Or.inl ⟨by rfl, ?hya1⟩) (by assumption) ?_
   case hya1 => (intro w hSw; (try dsimp only at hSw); go_simp; first | done | (with_reducible rfl))
   (try simp only [Act.put, List.setIfInBounds_toArray, List.set_cons_zero, List.set_cons_succ])
   refine wpAnyH_take (i := 2) (v := ?va2) (by simp only [List.getElem?_toArray, List.getElem?_cons_succ, List.getElem?_cons_zero]; rfl) (by kernel_rfl) (by kernel_rfl) (by kernel_rfl) (by exact fun _ _ _ h => h) (Or.inl ⟨by rfl, ?hya2⟩) (by assumption) ?_
   case hya2 => (intro w hSw; (try dsimp only at hSw); go_simp; first | done | (with_reducible rfl))
   (try simp only [Act.put, List.setIfInBounds_toArray, List.set_cons_zero, List.set_cons_succ])
   refine wpAnyH_take (i := 3) (v := ?va3) (by simp only [List.getElem?_toArray, List.getElem?_cons_succ, List.getElem?_cons_zero]; rfl) (by kernel_rfl) (by kernel_rfl) (by kernel_rfl) (by exact fun _ _ _ h => h) (Or.inl ⟨by rfl, ?hya3⟩) (by assumption) ?_
   case hya3 => (intro w hSw; (try dsimp only at hSw); go_simp; first | done | (with_reducible rfl))
   (try simp only [Act.put, List.setIfInBounds_toArray, List.set_cons_zero, List.set_cons_succ])
   refine wpAnyH_take (i := 4) (v := ?va4) (by simp only [List.getElem?_toArray, List.getElem?_cons_succ, List.getElem?_cons_zero]; rfl) (by kernel_rfl) (by kernel_rfl) (by kernel_rfl) (by exact fun _ _ _ h => h) (Or.inl ⟨by rfl, ?hya4⟩) (by assumption) ?_
   case hya4 => (intro w hSw; (try dsimp only at hSw); go_simp; first | done | (with_reducible rfl))
   (try simp only [Act.put, List.setIfInBounds_toArray, List.set_cons_zero, List.set_cons_succ])
   refine wpAnyH_take (i := 5) (v := ?va5) (by simp only [List.getElem?_toArray, List.getElem?_cons_succ, List.getElem?_cons_zero]; rfl) (by kernel_rfl) (by kernel_rfl) (by kernel_rfl) (by exact fun _ _ _ h => h) (Or.inl ⟨by rfl, ?hya5⟩) (by assumption) ?_
   case hya5 => (intro w hSw; (try dsimp only at hSw); go_simp; first | done | (with_reducible rfl))
   (try simp only [Act.put, List.setIfInBounds_toArray, List.set_cons_zero, List.set_cons_succ])
   refine wpAnyH_take (i := 6) (v := ?va6) (by simp only [List.getElem?_toArray, List.getElem?_cons_succ, List.getElem?_cons_zero]; rfl) (by kernel_rfl) (by kernel_rfl) (by kernel_rfl) (by exact fun _ _ _ h => h) (Or.inl ⟨by rfl, ?hya6⟩) (by assumption) ?_
   case hya6 => (intro w hSw; (try dsimp only at hSw); go_simp; first | done | (with_reducible rfl))
   (try simp only [Act.put, List.setIfInBounds_toArray, List.set_cons_zero, List.set_cons_succ])
   refine wpAnyH_take (i := 7) (v := ?va7) (by simp only [List.getElem?_toArray, List.getElem?_cons_succ, List.getElem?_cons_zero]; rfl) (by kernel_rfl) (by kernel_rfl) (by kernel_rfl) (by exact fun _ _ _ h => h) (Or.inl ⟨by rfl, ?hya7⟩) (by assumption) ?_
   case hya7 => (intro w hSw; (try dsimp only at hSw); go_simp; first | done | (with_reducible rfl))
   (try simp only [Act.put, List.setIfInBounds_toArray, List.set_cons_zero, List.set_cons_succ])
   refine wpAnyH_take (i := 8) (v := ?va8) (by simp only [List.getElem?_toArray, List.getElem?_cons_succ, List.getElem?_cons_zero]; rfl) (by kernel_rfl) (by kernel_rfl) (by kernel_rfl) (by exact fun _ _ _ h => h) (Or.inl ⟨by rfl, ?hya8⟩) (by assumption) ?_
   case hya8 => (intro w hSw; (try dsimp only at hSw); go_simp; first | done | (with_reducible rfl))
   (try simp only [Act.put, List.setIfInBounds_toArray, List.set_cons_zero, List.set_cons_succ])
   refine wpAnyH_take (i := 9) (v := ?va9) (by simp only [List.getElem?_toArray, List.getElem?_cons_succ, List.getElem?_cons_zero]; rfl) (by kernel_rfl) (by kernel_rfl) (by kernel_rfl) (by exact fun _ _ _ h => h) (Or.inl ⟨by rfl, ?hya9⟩) (by assumption) ?_
   case hya9 => (intro w hSw; (try dsimp only at hSw); go_simp; first | done | (with_reducible rfl))
   (try simp only [Act.put, List.setIfInBounds_toArray, List.set_cons_zero, List.set_cons_succ])
   refine wpAnyH_take (i := 10) (v := ?va10) (by simp only [List.getElem?_toArray, List.getElem?_cons_succ, List.getElem?_cons_zero]; rfl) (by kernel_rfl) (by kernel_rfl) (by kernel_rfl) (by exact fun _ _ _ h => h) (Or.inl ⟨by rfl, ?hya10⟩) (by assumption) ?_
   case hya10 => (intro w hSw; (try dsimp only at hSw); go_simp; first | done | (with_reducible rfl))
   (try simp only [Act.put, List.setIfInBounds_toArray, List.set_cons_zero, List.set_cons_succ])
   refine wpAnyH_done (by kernel_rfl) ?_ _
   show Oper.wp _ _ _ _ _ _
   go_simp
   have hcr1 : ¬ cr = 1 := by omega
   clear x2 x3 xlt hiv hjv HB HA hn1
   go_wp2
   go_loopw [13, 82] (fun s13 s82 wr => ∃ (k : Nat) (a : Option Addr) (c : Nat), k ≤ n ∧ s82 = .int .i64 k ∧ s13 = .slice a k c ∧ Hid (wr.ownsRow w5.heap.size 9 1 s13 k (vals (fs.take k))) ∧ Hid (Below w5.heap.size w5 wr)) (fun _ s82 _ => n - (intOf s82).toNat)
   case atStart => exact ⟨0, none, 0, Nat.zero_le _, rfl, rfl, World.ownsRow_nil _ _ _ _, (Below.refl _ _).drew⟩
   case round =>
    obtain ⟨k, a13, c13, hk, rfl, rfl, HRo, HBl⟩ := hrel
    by_cases hlt : k < n
    ·have hltz : (k : Int) < (n : Int) := by omega
     obtain ⟨f, hf⟩ : ∃ f, fs[k]? = some f := ⟨_, List.getElem?_eq_getElem (by rw [unhide HFL]; exact hlt)⟩
     obtain ⟨l, gf, cf, q0, q1, hgf, q2, hgr⟩ : ∃ l gf cf, wr.cell? ⟨gr, 2 + k * 2, none⟩ = some (.int .i64 ((l : Nat) : Int)) ∧ wr.cell? ⟨gr, 2 + k * 2 + 1, none⟩ = some (.slice (some ⟨gf, 0, none⟩) 1 cf) ∧ gf < wr.heap.size ∧ wr.cell? ⟨gf, 0, none⟩ = some (.string (Fld.str f)) ∧ gr < wr.heap.size := by
      obtain ⟨g', cap', e, -, -, hg, hc⟩ := (unhide HRW).below (unhide HBl)
      injection e with e
      injection e with e
      injection e with e
      subst e
      obtain ⟨l, gf, cf, z0, z1, z2, z3⟩ := hc k f hf
      exact ⟨l, gf, cf, z0, z1, z2, z3, hg⟩
     have hts : fs.take (k + 1) = fs.take k ++ [f] := by
      have hk1 := (List.getElem?_eq_some_iff.1 hf).1
      rw [List.take_succ_eq_append_getElem hk1, (List.getElem?_eq_some_iff.1 hf).2]
     clear hf
     go_upto_region 17 with fail
     obtain ⟨V, hV⟩ : ∃ V, V = wr.alloc (.cells #[.int .i64 (l : Nat), .slice (some ⟨gf, 0, none⟩) 1 cf] 64) := ⟨_, rfl⟩
     have hb : V.heap[wr.heap.size]? = some (.cells #[.int .i64 (l : Nat), .slice (some ⟨gf, 0, none⟩) 1 cf] 64 (0, 0)) := by rw [hV]; exact alloc_new _ _
     have bV : Below wr.heap.size wr V := by rw [hV]; exact (Below.refl _ _).alloc (Nat.le_refl _) _
     have e1 : V.cell? ⟨wr.heap.size, 1, none⟩ = some (.slice (some ⟨gf, 0, none⟩) 1 cf) := by simp [World.cell?, hb]
     have e2 := cell_bel hgf bV q2
     have hgfV := Nat.lt_of_lt_of_le hgf bV.size
     have hbV := lt_some hb
     have HRV : Hid (V.ownsRow w5.heap.size 9 1 (.slice a13 k c13) k (vals (fs.take k))) := by rw [hV]; exact (unhide HRo).alloc _
     have HBV := hide (btr (unhide HBl) bV)
     have hsz5 := (unhide HBV).size
     refine gen_world ?_
     intro V' hV'
     obtain rfl : V' = V := hV'.trans hV.symm
     clear hV hV' hb bV q0 q1 q2 hgf hgr HRo HBl
     generalize wr.heap.size = bx at *
     generalize hfv : Fld.str f = sf at *
     go_wp2_with (at_builtin; refine wpList_append_own _ rfl _ _ 23 rfl w5.heap.size 9 i0 (.string ⟨#[]⟩) 1 16 Tryz.underlying23 hi hz0 hz1 hz2 rfl (by decide) _ _ _ rfl ((unhide HRV).alloc _) ⟨V'.heap.size, 0, none⟩ 1 1 [.string sf] rfl rfl (cell_one_new _ _ _) (fun y hy => by simp at hy; subst hy; rfl) (by unfold maxLen; omega) (by omega) (by simp; omega) ?_; intro v' w2 hown' hgrow _; have HO1 := hide hown'; have HB1 := hide (So.irow_push (unhide HRV) (unhide HBV) hgrow); clear hown' hgrow)
     obtain ⟨a14, c14, rfl, -, -⟩ := own_len (unhide HO1)
     go_roundw
     case rel => exact ⟨k + 1, a14, c14, by omega, by go_num, rfl, hide (by rw [hts]; subst hfv; simpa [vals] using unhide HO1), HB1⟩
     case measure => simp [intOf]; omega
    ·obtain rfl : k = n := by omega
     have hltz : ¬ (k : Int) < (k : Int) := by omega
     obtain ⟨fi, fj, E2, hT⟩ := (unhide HO).turn ii jj hii hjj
     have HT := hide hT
     have et : fs.take k = fs := by rw [← unhide HFL]; exact List.take_length
     rw [et] at HRo
     obtain ⟨g13, c13', e13, hg13a, hg13, hc13, -, ⟨cur13, hbl13⟩, hcell⟩ := own_at (unhide HRo) (by omega)
     injection e13 with e13 e14 e15
     subst e13
     subst e15
     have y1 : wr.cell? ⟨g13, ii, none⟩ = some (.string (Fld.str fi)) := by rw [hcell ii (by omega)]; simp [vals, hT.gi]
     have y2 : wr.cell? ⟨g13, jj, none⟩ = some (.string (Fld.str fj)) := by rw [hcell jj (by omega)]; simp [vals, hT.gj]
     have hiz : (ii : Int) < (k : Int) := by omega
     have hjz : (jj : Int) < (k : Int) := by omega
     have fz : ∀ q, wr.frozen? ⟨g13, q, none⟩ = false := fun q => by simp [World.frozen?, hbl13]
     have hbl14 := set_heap1 hbl13 (k := ii) (.string (Fld.str fj))
     have fz2 : ∀ q, (wr.setCell ⟨g13, ii, none⟩ (.string (Fld.str fj))).frozen? ⟨g13, q, none⟩ = false := fun q => by simp [World.frozen?, hbl14]
     have y3 : (wr.setCell ⟨g13, ii, none⟩ (.string (Fld.str fj))).cell? ⟨g13, jj, none⟩ ≠ none := by
      simp only [World.cell?, hbl14]
      have : wr.cell? ⟨g13, jj, none⟩ ≠ none := by rw [y2]; simp
      simp only [World.cell?, hbl13] at this
      simpa using this
     have HSW := hide (swap_own (fi := fi) (fj := fj) (i := ii) (j := jj) (by rw [unhide HFL]; exact unhide HRo) (by rw [unhide HFL]; exact hii) (by rw [unhide HFL]; exact hjj))
     have HBS := hide ((((unhide HBl).setCell (p := ⟨g13, ii, none⟩) hg13a (.string (Fld.str fj))).setCell (p := ⟨g13, jj, none⟩) hg13a (.string (Fld.str fi))).drew)
     clear et hcell e14
     go_upto_region 20 with fail
     go_cut [] from 98 (fun wc => Hid (wc.ownsRow w5.heap.size 9 1 (.slice (some ⟨g13, 0, none⟩) (k : Nat) c13) k (vals ((fs.set ii fj).set jj fi))) ∧ Hid (Below w5.heap.size w5 wc))
     case first =>
      go_wp2_with fail
      refine Lst.region_last (ops1 := ?opsd) (o := ?opd) (S := fun _ => True) (by kernel_rfl) ?hpd ?hbd ?hkd trivial ?hnd
      case hpd => (simp only [List.pop_toArray, List.dropLast_cons_cons, List.dropLast_singleton]; rfl)
      case hbd => (simp only [List.back?_toArray, List.getLast?_cons_cons, List.getLast?_singleton]; rfl)
      case hkd => kernel_rfl
      intro hHeld
      refine wpAnyH_take (i := 0) (v := ?vd0) (by simp only [List.getElem?_toArray, List.getElem?_cons_zero]; rfl) (by kernel_rfl) (by kernel_rfl) (by kernel_rfl) (by exact fun _ _ _ h => h) (Or.inl ⟨by rfl, ?hyd0⟩) (by assumption) ?_
      case hyd0 => (intro w hSw; (try dsimp only at hSw); go_simp; first | done | (with_reducible rfl))
      (try simp only [Act.put, List.setIfInBounds_toArray, List.set_cons_zero, List.set_cons_succ])
      refine wpAnyH_take (i := 1) (v := ?vd1) (by simp only [List.getElem?_toArray, List.getElem?_cons_succ, List.getElem?_cons_zero]; rfl) (by kernel_rfl) (by kernel_rfl) (by kernel_rfl) (by exact fun _ _ _ h => h) (Or.inl ⟨by rfl, ?hyd1⟩) (by assumption) ?_
      case hyd1 => (intro w hSw; (try dsimp only at hSw); go_simp; first | done | (with_reducible rfl))
      (try simp only [Act.put, List.setIfInBounds_toArray, List.set_cons_zero, List.set_cons_succ])
      refine wpAnyH_take (i := 2) (v := ?vd2) (by simp only [List.getElem?_toArray, List.getElem?_cons_succ, List.getElem?_cons_zero]; rfl) (by kernel_rfl) (by kernel_rfl) (by kernel_rfl) (by exact fun _ _ _ h => h) (Or.inl ⟨by rfl, ?hyd2⟩) (by assumption) ?_
      case hyd2 => (intro w hSw; (try dsimp only at hSw); go_simp; first | done | (with_reducible rfl))
      (try simp only [Act.put, List.setIfInBounds_toArray, List.set_cons_zero, List.set_cons_succ])
      refine wpAnyH_take (i := 3) (v := ?vd3) (by simp only [List.getElem?_toArray, List.getElem?_cons_succ, List.getElem?_cons_zero]; rfl) (by kernel_rfl) (by kernel_rfl) (by kernel_rfl) (by exact fun _ _ _ h => h) (Or.inl ⟨by rfl, ?hyd3⟩) (by assumption) ?_
      case hyd3 => (intro w hSw; (try dsimp only at hSw); go_simp; first | done | (with_reducible rfl))
      (try simp only [Act.put, List.setIfInBounds_toArray, List.set_cons_zero, List.set_cons_succ])
      refine wpAnyH_take (i := 4) (v := ?vd4) (by simp only [List.getElem?_toArray, List.getElem?_cons_succ, List.getElem?_cons_zero]; rfl) (by kernel_rfl) (by kernel_rfl) (by kernel_rfl) (by exact fun _ _ _ h => h) (Or.inl ⟨by rfl, ?hyd4⟩) (by assumption) ?_
      case hyd4 => (intro w hSw; (try dsimp only at hSw); go_simp; first | done | (with_reducible rfl))
      (try simp only [Act.put, List.setIfInBounds_toArray, List.set_cons_zero, List.set_cons_succ])
      refine wpAnyH_take (i := 5) (v := ?vd5) (by simp only [List.getElem?_toArray, List.getElem?_cons_succ, List.getElem?_cons_zero]; rfl) (by kernel_rfl) (by kernel_rfl) (by kernel_rfl) (by exact fun _ _ _ h => h) (Or.inl ⟨by rfl, ?hyd5⟩) (by assumption) ?_
      case hyd5 => (intro w hSw; (try dsimp only at hSw); go_simp; first | done | (with_reducible rfl))
      (try simp only [Act.put, List.setIfInBounds_toArray, List.set_cons_zero, List.set_cons_succ])
      refine wpAnyH_take (i := 6) (v := ?vd6) (by simp only [List.getElem?_toArray, List.getElem?_cons_succ, List.getElem?_cons_zero]; rfl) (by kernel_rfl) (by kernel_rfl) (by kernel_rfl) (by exact fun _ _ _ h => h) (Or.inl ⟨by rfl, ?hyd6⟩) (by assumption) ?_
      case hyd6 => (intro w hSw; (try dsimp only at hSw); go_simp; first | done | (with_reducible rfl))
      (try simp only [Act.put, List.setIfInBounds_toArray, List.set_cons_zero, List.set_cons_succ])
      refine wpAnyH_take (i := 8) (v := ?vd8) (by simp only [List.getElem?_toArray, List.getElem?_cons_succ, List.getElem?_cons_zero]; rfl) (by kernel_rfl) (by kernel_rfl) (by kernel_rfl) (by exact fun _ _ _ h => h) (Or.inl ⟨by rfl, ?hyd8⟩) (by assumption) ?_
      case hyd8 => (intro w hSw; (try dsimp only at hSw); go_simp; first | done | (with_reducible rfl))
      (try simp only [Act.put, List.setIfInBounds_toArray, List.set_cons_zero, List.set_cons_succ])
      refine wpAnyH_take (i := 9) (v := ?vd9) (by simp only [List.getElem?_toArray, List.getElem?_cons_succ, List.getElem?_cons_zero]; rfl) (by kernel_rfl) (by kernel_rfl) (by kernel_rfl) (by exact fun _ _ _ h => h) (Or.inl ⟨by rfl, ?hyd9⟩) (by assumption) ?_
      case hyd9 => (intro w hSw; (try dsimp only at hSw); go_simp; first | done | (with_reducible rfl))
      (try simp only [Act.put, List.setIfInBounds_toArray, List.set_cons_zero, List.set_cons_succ])
      refine wpAnyH_take (i := 10) (v := ?vd10) (by simp only [List.getElem?_toArray, List.getElem?_cons_succ, List.getElem?_cons_zero]; rfl) (by kernel_rfl) (by kernel_rfl) (by kernel_rfl) (by exact fun _ _ _ h => h) (Or.inl ⟨by rfl, ?hyd10⟩) (by assumption) ?_
      case hyd10 => (intro w hSw; (try dsimp only at hSw); go_simp; first | done | (with_reducible rfl))
      (try simp only [Act.put, List.setIfInBounds_toArray, List.set_cons_zero, List.set_cons_succ])
      refine wpAnyH_ready (rs := [7, 11]) (by kernel_rfl) (by simp) ?_
      refine AllReadyH.cons (by simp only [List.getElem?_toArray, List.getElem?_cons_succ, List.getElem?_cons_zero]; rfl) (fun K hK => ?_) (AllReadyH.cons (by simp only [List.getElem?_toArray, List.getElem?_cons_succ, List.getElem?_cons_zero]; rfl) (fun K hK => ?_) AllReadyH.nil)
      ·go_simp
       refine hK.out _ _ trivial (fun hh => ?_)
       clear hK K
       (try simp only [Act.put, List.setIfInBounds_toArray, List.set_cons_zero, List.set_cons_succ])
       refine wpAnyH_ready (rs := [11]) (by kernel_rfl) (by simp) ?_
       refine AllReadyH.cons (by simp only [List.getElem?_toArray, List.getElem?_cons_succ, List.getElem?_cons_zero]; rfl) (fun K hK => ?_) AllReadyH.nil
       go_simp
       refine hK.out _ _ trivial (fun hh => ?_)
       clear hK K
       (try simp only [Act.put, List.setIfInBounds_toArray, List.set_cons_zero, List.set_cons_succ])
       refine wpAnyH_take (i := 12) (v := ?ve112) (by simp only [List.getElem?_toArray, List.getElem?_cons_succ, List.getElem?_cons_zero]; rfl) (by kernel_rfl) (by kernel_rfl) (by kernel_rfl) (by exact fun _ _ _ h => h) (Or.inl ⟨by rfl, ?hye112⟩) (by assumption) ?_
       case hye112 => (intro w hSw; (try dsimp only at hSw); go_simp; first | done | (with_reducible rfl))
       (try simp only [Act.put, List.setIfInBounds_toArray, List.set_cons_zero, List.set_cons_succ])
       refine wpAnyH_ready (rs := [13]) (by kernel_rfl) (by simp) ?_
       refine AllReadyH.cons (by simp only [List.getElem?_toArray, List.getElem?_cons_succ, List.getElem?_cons_zero]; rfl) (fun K hK => ?_) AllReadyH.nil
       go_simp
       refine hK.out _ _ trivial (fun hh => ?_)
       clear hK K
       (try simp only [Act.put, List.setIfInBounds_toArray, List.set_cons_zero, List.set_cons_succ])
       refine wpAnyH_take (i := 14) (v := ?ve214) (by simp only [List.getElem?_toArray, List.getElem?_cons_succ, List.getElem?_cons_zero]; rfl) (by kernel_rfl) (by kernel_rfl) (by kernel_rfl) (by exact fun _ _ _ h => h) (Or.inl ⟨by rfl, ?hye214⟩) (by assumption) ?_
       case hye214 => (intro w hSw; (try dsimp only at hSw); go_simp; first | done | (with_reducible rfl))
       (try simp only [Act.put, List.setIfInBounds_toArray, List.set_cons_zero, List.set_cons_succ])
       refine wpAnyH_done (by kernel_rfl) ?_ _
       show Oper.wp _ _ _ _ _ _
       go_simp
       go_wp2_with fail
       go_meet
       exact ⟨by rw [show ((fs.set ii fj).set jj fi).length = k by simp; exact unhide HFL] at HSW; exact HSW, HBS⟩
      ·go_simp
       refine hK.out _ _ trivial (fun hh => ?_)
       clear hK K
       (try simp only [Act.put, List.setIfInBounds_toArray, List.set_cons_zero, List.set_cons_succ])
       refine wpAnyH_ready (rs := [7]) (by kernel_rfl) (by simp) ?_
       refine AllReadyH.cons (by simp only [List.getElem?_toArray, List.getElem?_cons_succ, List.getElem?_cons_zero]; rfl) (fun K hK => ?_) AllReadyH.nil
       go_simp
       refine hK.out _ _ trivial (fun hh => ?_)
       clear hK K
       (try simp only [Act.put, List.setIfInBounds_toArray, List.set_cons_zero, List.set_cons_succ])
       refine wpAnyH_take (i := 12) (v := ?ve312) (by simp only [List.getElem?_toArray, List.getElem?_cons_succ, List.getElem?_cons_zero]; rfl) (by kernel_rfl) (by kernel_rfl) (by kernel_rfl) (by exact fun _ _ _ h => h) (Or.inl ⟨by rfl, ?hye312⟩) (by assumption) ?_
       case hye312 => (intro w hSw; (try dsimp only at hSw); go_simp; first | done | (with_reducible rfl))
       (try simp only [Act.put, List.setIfInBounds_toArray, List.set_cons_zero, List.set_cons_succ])
       refine wpAnyH_ready (rs := [13]) (by kernel_rfl) (by simp) ?_
       refine AllReadyH.cons (by simp only [List.getElem?_toArray, List.getElem?_cons_succ, List.getElem?_cons_zero]; rfl) (fun K hK => ?_) AllReadyH.nil
       go_simp
       refine hK.out _ _ trivial (fun hh => ?_)
       clear hK K
       (try simp only [Act.put, List.setIfInBounds_toArray, List.set_cons_zero, List.set_cons_succ])
       refine wpAnyH_take (i := 14) (v := ?ve414) (by simp only [List.getElem?_toArray, List.getElem?_cons_succ, List.getElem?_cons_zero]; rfl) (by kernel_rfl) (by kernel_rfl) (by kernel_rfl) (by exact fun _ _ _ h => h) (Or.inl ⟨by rfl, ?hye414⟩) (by assumption) ?_
       case hye414 => (intro w hSw; (try dsimp only at hSw); go_simp; first | done | (with_reducible rfl))
       (try simp only [Act.put, List.setIfInBounds_toArray, List.set_cons_zero, List.set_cons_succ])
       refine wpAnyH_done (by kernel_rfl) ?_ _
       show Oper.wp _ _ _ _ _ _
       go_simp
       go_wp2_with fail
       go_meet
       exact ⟨by rw [show ((fs.set ii fj).set jj fi).length = k by simp; exact unhide HFL] at HSW; exact HSW, HBS⟩
     case rest =>
      obtain ⟨HSW2, HBS2⟩ := hcut
      obtain ⟨D, hDg, hDC⟩ := dec_dg (k + 1) (by omega)
      have HDC : Hid (∀ w, Calls Tryz.prog 19 #[.int .i64 ((k : Int) + 1)] w fun e w' => e = .returned (.string (Fld.str D)) ∧ Below w.heap.size w w') := hDC
      have HDG := hide hDg
      have hdl := hDg.len
      clear hDg hDC HSW HBS fz fz2 y1 y2 y3 hbl13 hbl14 HRo HBl HRW
      go_wp2_with fail
      refine (unhide HDC _).mono ?_
      rintro e w6 ⟨rfl, b6⟩
      have HS6 := hide (own_kq (unhide HSW2) (T := []) (M := noM) (Kq.below b6) (by simp))
      have HB6 := hide (btr (unhide HBS2) b6)
      have hsz6 := (unhide HB6).size
      have HC8 : Hid (∀ j u, [Value.string (Fld.str fi)][j]? = some u → ((w6.alloc (.cells #[.string (Fld.str D)] 9)).alloc (.cells #[.string (Fld.str fi)] 9)).cell? ((⟨w6.heap.size + 1, 0, none⟩ : Addr).add j) = some u) := by
       have := cell_one_new (w6.alloc (.cells #[.string (Fld.str D)] 9)) (.string (Fld.str fi)) 9
       rwa [World.size_alloc] at this
      have tok1 : True := trivial
      clear b6 HSW2 HBS2 HDC
      go_wp2_with (first
       | (at_builtin; have _t := tok1; refine wpList_append_own _ rfl _ _ 23 rfl w5.heap.size 9 i0 (.string ⟨#[]⟩) 1 16 Tryz.underlying23 hi hz0 hz1 hz2 rfl (by decide) _ _ _ rfl (((unhide HS6).alloc _).alloc _) ⟨w6.heap.size + 1, 0, none⟩ 1 1 [.string (Fld.str fi)] rfl rfl (unhide HC8) (fun y hy => by simp at hy; subst hy; rfl) (by unfold maxLen; omega) (by omega) (by simp; omega) ?_; clear tok1 _t; intro v9 w9 hown9 hgrow9 _; have HN9 := hide (ord9 (unhide HS6) (unhide HB6) hgrow9); have HO9 := hide hown9; obtain ⟨g9, c9, rfl, -, hg9, -, -, -, hcell9⟩ := own_at hown9 (by omega); have HC9 := hide hcell9; clear hown9 hgrow9 hcell9)
       | (at_builtin; refine wpList_append_own _ rfl _ _ 23 rfl w6.heap.size 9 i0 (.string ⟨#[]⟩) 1 16 Tryz.underlying23 hi hz0 hz1 hz2 rfl (by decide) _ _ _ rfl (unhide HN9).1 ⟨g9, 0, none⟩ (k + 1) c9 (vals ((fs.set ii fj).set jj fi) ++ [.string (Fld.str fi)]) rfl (unhide HO9).1 (fun j u hj => by rw [add0, Nat.zero_add, unhide HC9 j (by have := (List.getElem?_eq_some_iff.1 hj).1; have h2 := (unhide HO9).1; omega)]; exact hj) (vals_one _ _) (by unfold maxLen; omega) (by omega) (by have := (unhide HN9).2.2; omega) ?_; intro v10 w10 hown10 hgrow10 _; have HO10 := hide hown10; have HB10 := hide ((unhide HN9).2.1.grown hgrow10 (unhide HN9).2.1.size (fun q e => by cases e; exact hsz6)); clear hown10 hgrow10))
      have hM : [Value.string (Fld.str D)] ++ (vals ((fs.set ii fj).set jj fi) ++ [.string (Fld.str fi)]) = vals (D :: turnF fs ii jj fi fj) := by simp [vals, turnF]
      have hML : (D :: turnF fs ii jj fi fj).length = 1 + (k + 1) := by simp [turnF_len, unhide HFL]; omega
      have hjl : (joinL (D :: turnF fs ii jj fi fj)).length ≤ 900000 := by
       rw [joinL_sum, hML]
       have h1 : ((D :: turnF fs ii jj fi fj).map List.length).sum = D.length + lens (turnF fs ii jj fi fj) := by simp [lens]
       have h2 := (unhide HT).size
       have h3 := (unhide HO).lens
       omega
      have ho10 := unhide HO10
      rw [hM] at ho10
      have ho10' := ho10
      rw [← hML] at ho10'
      obtain ⟨a10, c10, e10, -, hst10⟩ := StrAt.of_own ho10'
      rw [hML] at e10
      subst e10
      have HST10 := hide hst10
      clear ho10 ho10' hst10 hM HO10 HN9 HC9 HO9
      go_wp2_with fail
      refine (joined_any a10 c10 _ (D :: turnF fs ii jj fi fj) _ hML (by omega) (by omega) (unhide HST10)).mono ?_
      rintro e w11 ⟨rfl, hw11⟩
      obtain rfl := hw11.symm
      have hos : (Fld.str (joinL (D :: turnF fs ii jj fi fj))).size = (joinL (D :: turnF fs ii jj fi fj)).length := str_size _
      have HRD : Hid (¬ 65536 < (Fld.str (joinL (D :: turnF fs ii jj fi fj))).size → dicR F (Fld.str (joinL (D :: turnF fs ii jj fi fj))).data.toList = .ok E2) := fun h => by
       rw [show (Fld.str (joinL (D :: turnF fs ii jj fi fj))).data.toList = joinL (D :: turnF fs ii jj fi fj) by simp [Fld.str]]
       exact (unhide HT).read (by rw [unhide HEL]; omega) D (by rw [unhide HEL]; exact unhide HDG) (by rw [← hos]; exact h)
      clear HST10 hjl hML
      generalize Fld.str (joinL (D :: turnF fs ii jj fi fj)) = oth at *
      by_cases hz : 65536 < oth.size
      ·have hzz : (65536 : Int) < (oth.size : Int) := by omega
       go_wp2
       go_ret
       exact ⟨rfl, box_low _ _ (btr (unhide B5) (unhide HB10))⟩
      ·have hzz : ¬ (65536 : Int) < (oth.size : Int) := by omega
       have hr2 := unhide HRD hz
       have hfl2 := dicR_len (unhide HO).sd hr2
       have hfd := ((unhide HB10).block _ (lt_some (unhide HF5))).trans (unhide HF5)
       have HF10 := hide hfd
       clear hfd
       go_wp2_with fail
       refine ((unhide HD).yesW (btr (unhide B25) (unhide HB10)) hr2).mono ?_
       rintro e w12 ⟨wb2, n12, Q12, rfl, b12, hwa12⟩
       have hf12 := (b12.block _ (lt_some (unhide HF10))).trans (unhide HF10)
       obtain ⟨p0, p1, p2, pz⟩ := fault3 hf12
       have lf := lt_some hf12
       have HF12 := hide hf12
       have HB12 := hide (btr (unhide HB10) b12)
       have HE2 := hide (entries_any hwa12 hfl2)
       clear hf12 b12 hwa12 hr2 hfl2 HF10 HRD HB10 HD
       go_upto_region 25 with fail
       refine gen_world ?_
       intro V hV
       rw [set_zero3 (unhide HF12)] at hV
       subst hV
       go_wp2_with fail
       refine (unhide HE2).mono ?_
       rintro e w13 ⟨b13, v13, fv13, rfl, hE13⟩
       have HB13 := hide (btr (unhide HB12) b13)
       obtain ⟨p0, p1, p2, pz⟩ := fault3 ((b13.block _ lf).trans (unhide HF12))
       have lf13 := Nat.lt_of_lt_of_le lf b13.size
       have hE2l : E2.length = k + 1 := by rw [(unhide HT).len, unhide HEL]
       obtain ⟨gg, cg, rfl, hcg, hgg, hG⟩ := hE13.ena.two (by omega) hE2l
       obtain ⟨gl, cl, el, hcl, hgl, hL⟩ := ((unhide HE5).below (unhide HB13)).two (by omega) (unhide HEL)
       injection el with el1 el2 el3
       subst el1
       subst el3
       obtain ⟨xi, hxi⟩ : ∃ x, E[ii]? = some x := ⟨_, List.getElem?_eq_getElem (by rw [unhide HEL]; exact hii)⟩
       obtain ⟨xj, hxj⟩ : ∃ x, E[jj]? = some x := ⟨_, List.getElem?_eq_getElem (by rw [unhide HEL]; exact hjj)⟩
       have hek := (unhide HT).en
       rw [unhide HEL] at hek
       obtain ⟨u1, d1, s1, t1, F1⟩ := hG ii xj ((unhide HT).ei.trans hxj)
       obtain ⟨u2, d2, s2, t2, F2⟩ := hG jj xi ((unhide HT).ej.trans hxi)
       obtain ⟨u3, d3, s3, t3, F3⟩ := hG k xi (hek.trans hxi)
       obtain ⟨u4, d4, s4, t4, F4⟩ := hL jj xj hxj
       obtain ⟨u5, d5, s5, t5, F5⟩ := hL ii xi hxi
       have HIS1 := hide (fun W (b : Below w13.heap.size w13 W) => entryIs_any (s := Wd.str xj.word) (F1.below b) (F4.below b))
       have HIS2 := hide (fun W (b : Below w13.heap.size w13 W) => entryIs_any (s := Wd.str xi.word) (F2.below b) (F5.below b))
       have HIS3 := hide (fun W (b : Below w13.heap.size w13 W) => entryIs_any (s := Wd.str xi.word) (F3.below b) (F5.below b))
       have HG := hide hG
       have HL := hide hL
       clear F1 F2 F3 F4 F5 hG hL hxi hxj hek hE13 b13 HE2 HF12 HB12 lf HF5
       generalize Wd.str xi.word = si at *
       generalize Wd.str xj.word = sj at *
       generalize xi.flags.length = ni at *
       generalize xj.flags.length = nj at *
       generalize w3.heap.size = bf at *
       have HSP : Hid (∀ W, Below w13.heap.size w13 W → W.cell? ⟨bf, 0, none⟩ = some (.int .i64 0) ∧ W.cell? ⟨bf, 1, none⟩ = some (.int .i64 0) ∧ W.cell? ⟨bf, 2, none⟩ = some (.int .i64 0) ∧ W.cell? ⟨gg, ii * 2, none⟩ = some (.string sj) ∧ W.cell? ⟨gg, ii * 2 + 1, none⟩ = some (.slice u1 nj d1) ∧ W.cell? ⟨gg, jj * 2, none⟩ = some (.string si) ∧ W.cell? ⟨gg, jj * 2 + 1, none⟩ = some (.slice u2 ni d2) ∧ W.cell? ⟨gg, k * 2, none⟩ = some (.string si) ∧ W.cell? ⟨gg, k * 2 + 1, none⟩ = some (.slice u3 ni d3) ∧ W.cell? ⟨gl, jj * 2, none⟩ = some (.string sj) ∧ W.cell? ⟨gl, jj * 2 + 1, none⟩ = some (.slice u4 nj d4) ∧ W.cell? ⟨gl, ii * 2, none⟩ = some (.string si) ∧ W.cell? ⟨gl, ii * 2 + 1, none⟩ = some (.slice u5 ni d5)) := fun W b => ⟨cell_bel lf13 b p0, cell_bel lf13 b p1, cell_bel lf13 b p2, cell_bel hgg b s1, cell_bel hgg b t1, cell_bel hgg b s2, cell_bel hgg b t2, cell_bel hgg b s3, cell_bel hgg b t3, cell_bel hgl b s4, cell_bel hgl b t4, cell_bel hgl b s5, cell_bel hgl b t5⟩
       have h4 := unhide HSP _ ((Below.refl w13.heap.size w13).drew)
       have hwr : IntKind.i64.wrap ((k : Int) + 1) = (k : Int) + 1 := wrap_suc k (by omega)
       have hkk1 : ((k : Int) + 1 != IntKind.i64.wrap ((k : Int) + 1)) = false := by rw [hwr]; simp
       have hkz : (k : Int) < (k : Int) + 1 := by omega
       have hiz1 : (ii : Int) < (k : Int) + 1 := by omega
       have hjz1 : (jj : Int) < (k : Int) + 1 := by omega
       clear hE2l p0 p1 p2 pz s1 t1 s2 t2 s3 t3 s4 t4 s5 t5
       have tk1 : True := trivial
       have tk2 : True := trivial
       go_wp2
       go_region_held2 (fun w' => w'.cell? ⟨bf, 0, none⟩ = some (.int .i64 0) ∧ w'.cell? ⟨bf, 1, none⟩ = some (.int .i64 0) ∧ w'.cell? ⟨bf, 2, none⟩ = some (.int .i64 0) ∧ w'.cell? ⟨gg, ii * 2, none⟩ = some (.string sj) ∧ w'.cell? ⟨gg, ii * 2 + 1, none⟩ = some (.slice u1 nj d1) ∧ w'.cell? ⟨gg, jj * 2, none⟩ = some (.string si) ∧ w'.cell? ⟨gg, jj * 2 + 1, none⟩ = some (.slice u2 ni d2) ∧ w'.cell? ⟨gg, k * 2, none⟩ = some (.string si) ∧ w'.cell? ⟨gg, k * 2 + 1, none⟩ = some (.slice u3 ni d3) ∧ w'.cell? ⟨gl, jj * 2, none⟩ = some (.string sj) ∧ w'.cell? ⟨gl, jj * 2 + 1, none⟩ = some (.slice u4 nj d4) ∧ w'.cell? ⟨gl, ii * 2, none⟩ = some (.string si) ∧ w'.cell? ⟨gl, ii * 2 + 1, none⟩ = some (.slice u5 ni d5)) (first | (with_reducible exact h7) | (with_reducible exact h6) | (with_reducible exact h5) | (with_reducible exact h4)) (first
        | (go_at_call 21; have _t := tk1; refine (unhide HIS1 _ ((Below.refl w13.heap.size w13).drew)).mono ?_; rintro e w14 ⟨rfl, b14⟩; clear tk1 _t; have B14 := hide (((Below.refl w13.heap.size w13).drew).trans b14); have h5 := unhide HSP _ (unhide B14); clear b14)
        | (go_at_call 21; have _t := tk2; refine (unhide HIS2 _ (unhide B14)).mono ?_; rintro e w15 ⟨rfl, b15⟩; clear tk2 _t; have B15 := hide (btr (unhide B14) b15); have h6 := unhide HSP _ (unhide B15); clear b15)
        | (go_at_call 21; refine (unhide HIS3 _ (unhide B15)).mono ?_; rintro e w16 ⟨rfl, b16⟩; have B16 := hide (btr (unhide B15) b16); have h7 := unhide HSP _ (unhide B16); clear b16))
       go_wp2
       clear HIS1 HIS2 HIS3 HSP h4 h5 h6 h7 B14 B15
       have HB16 := hide (btr (unhide HB13) (unhide B16))
       go_loopw [181] (fun s181 wr => ∃ q : Nat, q ≤ k ∧ s181 = .int .i64 q ∧ Hid (Below w13.heap.size w13 wr)) (fun s181 _ => k - (intOf s181).toNat)
       case atStart => exact ⟨0, Nat.zero_le _, rfl, B16⟩
       case round =>
        obtain ⟨q, hq, rfl, HBq⟩ := hrel
        by_cases hqk : q < k
        ·have hqz : (q : Int) < (k : Int) := by omega
         by_cases hqi : q = ii
         ·subst hqi
          have hz1 : ((q : Int) != (q : Int)) = false := by simp
          go_wp2
          go_quiet (fail)
          go_wp2
          go_roundw
          case rel => exact ⟨q + 1, by omega, by go_num, by first | exact hide (unhide HBq).drew | exact hide (btr (unhide HBq) (So.drew_below _ _ _)) | exact HBq⟩
          case measure => simp [intOf]; omega
         ·have hz1 : ((q : Int) != (ii : Int)) = true := by simp; omega
          by_cases hqj : q = jj
          ·subst hqj
           have hz2 : ((q : Int) != (q : Int)) = false := by simp
           go_wp2
           go_quiet (fail)
           go_wp2
           go_roundw
           case rel => exact ⟨q + 1, by omega, by go_num, by first | exact hide (unhide HBq).drew | exact hide (btr (unhide HBq) (So.drew_below _ _ _)) | exact HBq⟩
           case measure => simp [intOf]; omega
          ·have hz2 : ((q : Int) != (jj : Int)) = true := by simp; omega
           obtain ⟨x, hx⟩ : ∃ x, E[q]? = some x := ⟨_, List.getElem?_eq_getElem (by rw [unhide HEL]; exact hqk)⟩
           obtain ⟨v1, m1, c0, c1, F1⟩ := unhide HG q x (((unhide HT).ek q (by rw [unhide HEL]; exact hqk) hqi hqj).trans hx)
           obtain ⟨v2, m2, c2, c3, F2⟩ := unhide HL q x hx
           have HIS := hide (fun W (b : Below w13.heap.size w13 W) => entryIs_any (s := Wd.str x.word) (F1.below b) (F2.below b))
           have d0 := cell_bel hgg (unhide HBq) c0
           have d1' := cell_bel hgg (unhide HBq) c1
           have d2' := cell_bel hgl (unhide HBq) c2
           have d3' := cell_bel hgl (unhide HBq) c3
           have hggr := Nat.lt_of_lt_of_le hgg (unhide HBq).size
           have hglr := Nat.lt_of_lt_of_le hgl (unhide HBq).size
           clear F1 F2 hx c0 c1 c2 c3
           generalize Wd.str x.word = sx at *
           generalize x.flags.length = nx at *
           have hqk1 : (q : Int) < (k : Int) + 1 := by omega
           have h4 : wr.drew.cell? ⟨gg, q * 2, none⟩ = some (.string sx) ∧ wr.drew.cell? ⟨gg, q * 2 + 1, none⟩ = some (.slice v1 nx m1) ∧ wr.drew.cell? ⟨gl, q * 2, none⟩ = some (.string sx) ∧ wr.drew.cell? ⟨gl, q * 2 + 1, none⟩ = some (.slice v2 nx m2) := ⟨d0, d1', d2', d3'⟩
           go_wp2
           go_region_held2 (fun w' => w'.cell? ⟨gg, q * 2, none⟩ = some (.string sx) ∧ w'.cell? ⟨gg, q * 2 + 1, none⟩ = some (.slice v1 nx m1) ∧ w'.cell? ⟨gl, q * 2, none⟩ = some (.string sx) ∧ w'.cell? ⟨gl, q * 2 + 1, none⟩ = some (.slice v2 nx m2)) (first | (with_reducible exact h5) | (with_reducible exact h4)) (first | (go_at_call 21; refine (unhide HIS _ ((unhide HBq).drew)).mono ?_; rintro e w8 ⟨rfl, b8⟩; have HB8 := hide (((Below.refl wr.heap.size wr).drew).trans b8); have h5 : w8.cell? ⟨gg, q * 2, none⟩ = some (.string sx) ∧ w8.cell? ⟨gg, q * 2 + 1, none⟩ = some (.slice v1 nx m1) ∧ w8.cell? ⟨gl, q * 2, none⟩ = some (.string sx) ∧ w8.cell? ⟨gl, q * 2 + 1, none⟩ = some (.slice v2 nx m2) := ⟨cell_bel hggr (unhide HB8) d0, cell_bel hggr (unhide HB8) d1', cell_bel hglr (unhide HB8) d2', cell_bel hglr (unhide HB8) d3'⟩))
           go_wp2
           go_roundw
           case rel => exact ⟨q + 1, by omega, by go_num, btr (unhide HBq) (unhide HB8)⟩
           case measure => simp [intOf]; omega
        ·obtain rfl : q = k := by omega
         have hqz : ¬ (q : Int) < (q : Int) := by omega
         go_wp2
         go_ret
         exact ⟨rfl, box_low _ _ (btr (unhide B5) (btr (unhide HB13) (unhide HBq)))⟩
theorem dord_walk (a s : ByteArray) (I J : Int) (w : World) (hM : Mx w.heap.size w) : DOrd a s I J w := by
 cases hx : affR a.data.toList with
 | error er => exact dord_nil a s I J w hM hx
 | ok F =>
  cases hd : dicR F s.data.toList with
  | error er => exact dord_err a s I J w hM hx (l := er.1) (c := er.2) hd
  | ok E => exact dord_ok a s I J w hM hx hd
end Af
end Go.Proofs.YtidhbhdcoanfcaaGreatDoor
