import Derived.Test.YtidhbhdcoanfcaaGreatDoorGq37
set_option maxHeartbeats 8000000
set_option maxRecDepth 100000
namespace Go.Proofs.YtidhbhdcoanfcaaGreatDoor
open Go.RowKit
namespace FldW

theorem blank_eql (c : UInt8) (h : Fld.blank c = true) : (((c.toNat : Int) == 32) = true) ∨ (((c.toNat : Int) == 32) = false ∧ ((c.toNat : Int) == 9) = true) := by
 simp only [Fld.blank, Bool.or_eq_true, beq_iff_eq] at h
 rcases h with h | h
 ·left; rw [h]; rfl
 ·right; rw [h]; exact ⟨rfl, rfl⟩
theorem plain_eql (c : UInt8) (h : Fld.blank c = false) : ((c.toNat : Int) == 32) = false ∧ ((c.toNat : Int) == 9) = false := by
 simp only [Fld.blank, Bool.or_eq_false_iff, beq_eq_false_iff_ne] at h
 constructor <;> (rw [beq_eq_false_iff_ne]; omega)

theorem ref_fields_any (s : ByteArray) (w : World) (hs : s.size * 16 ≤ 140737488355328) :
  Calls Tryz.prog 49 #[.string s] w fun e w' => ∃ v, e = .returned v ∧ w'.ownsRow w.heap.size 9 1 v (Fld.fieldsOf s.data.toList).length (vals (Fld.fieldsOf s.data.toList)) ∧ Below w.heap.size w w' := by
 obtain ⟨i0, hi, hz0, hz1, hz2⟩ := info_parts info9
 go_enter Tryz.func49, Tryz.ntmps49
 go_wp2
 go_loopw [3, 4] (fun v i wr => ∃ k : Nat, k ≤ s.size ∧ i = .int .i64 k ∧ wr.ownsRow w.heap.size 9 1 v (Fld.fieldsOf (Fld.pre s k)).length (vals (Fld.fieldsOf (Fld.pre s k))) ∧ Below w.heap.size w wr ∧ Hid (∀ h : k < s.size, 0 < Fld.op (Fld.pre s k) → Fld.blank s[k] = true)) (fun _ i _ => s.size - (intOf i).toNat)
 case atStart => exact ⟨0, Nat.zero_le _, rfl, World.ownsRow_nil _ _ _ _, Below.refl _ _, fun _ h => absurd (show 0 < 0 from h) (Nat.lt_irrefl 0)⟩
 case round =>
  obtain ⟨k, hk, rfl, hown, hB, HBL⟩ := hrel
  by_cases hlt : k < s.size
  ·cases hb : Fld.blank s[k] with
   | true =>
    have HFB := hide (Fld.fields_blank s k hlt hb)
    have HST := hide (Fld.step_blank s k hlt hb)
    rcases blank_eql _ hb with h32 | ⟨h32, h9⟩
    all_goals
     clear hb
     go_wp2
     go_roundw
     case rel => exact ⟨k + 1, by omega, by go_num, by rw [unhide HFB]; exact hown, hB, fun _ h => absurd h (by rw [(unhide HST).2]; omega)⟩
     case measure => simp [intOf]; omega
   | false =>
    have hop0 : Fld.op (Fld.pre s k) = 0 := by
     by_cases h0 : 0 < Fld.op (Fld.pre s k)
     ·have := HBL.out hlt h0; rw [hb] at this; cases this
     ·omega
    have HOP := hide hop0
    have HF0 := hide (Fld.fields_zero s k hop0)
    have HPL := hide hb
    obtain ⟨h32, h9⟩ := plain_eql _ hb
    have hlen : (Fld.fieldsOf (Fld.pre s k)).length ≤ k := by have := Fld.fieldsOf_len (Fld.pre s k); rw [Fld.pre_len s k hk] at this; exact this
    clear hop0 hb HBL
    go_wp2
    go_loop [5] (fun j => ∃ m : Nat, k ≤ m ∧ m ≤ s.size ∧ j = .int .i64 m ∧ Hid (Fld.op (Fld.pre s m) = m - k ∧ Fld.closed (Fld.pre s m) = Fld.closed (Fld.pre s k))) (fun j => s.size - (intOf j).toNat)
    case atStart => exact ⟨k, Nat.le_refl _, hk, rfl, by rw [unhide HOP]; omega, rfl⟩
    case round =>
     obtain ⟨m, hkm, hm, rfl, HM⟩ := hrel
     by_cases hml : m < s.size
     ·cases hbm : Fld.blank s[m] with
      | false =>
       have HST := hide (Fld.step_plain s m hml hbm)
       obtain ⟨g32, g9⟩ := plain_of _ hbm
       clear hbm
       go_wp2
       go_round
       case rel => exact ⟨m + 1, by omega, by omega, by go_num, by rw [(unhide HST).2, HM.out.1]; omega, by rw [(unhide HST).1]; exact HM.out.2⟩
       case measure => simp [intOf]; omega
      | true =>
       have hkm2 : k < m := by
        rcases Nat.lt_or_ge k m with h | h
        ·exact h
        ·have e : m = k := by omega
         subst e
         rw [unhide HPL] at hbm
         cases hbm
       have HBM : Hid (∀ h : m < s.size, 0 < Fld.op (Fld.pre s m) → Fld.blank s[m] = true) := fun _ _ => hbm
       rcases blank_cases _ hbm with g32 | ⟨g32, g9⟩
       all_goals
        clear hbm
        have hpos : 0 < Fld.op (Fld.pre s m) := by rw [HM.out.1]; omega
        have HP : Hid (s.extract k m = Fld.str (Fld.st (Fld.pre s m)).2) := by
         have := Fld.piece s m hm
         rw [HM.out.1, show m - (m - k) = k from by omega] at this
         exact this
        have HQ : Hid (Fld.fieldsOf (Fld.pre s m) = Fld.fieldsOf (Fld.pre s k) ++ [(Fld.st (Fld.pre s m)).2]) := by
         show Fld.fieldsOf (Fld.pre s m) = Fld.fieldsOf (Fld.pre s k) ++ [(Fld.st (Fld.pre s m)).2]
         rw [Fld.fields_pos s m hpos, HM.out.2, unhide HF0]
        clear hpos
        go_wp2_with (at_builtin; refine wpList_append_own _ rfl _ _ 23 rfl w.heap.size 9 i0 (.string ByteArray.empty) 1 16 Tryz.underlying23 hi hz0 hz1 hz2 rfl (by decide) _ _ _ rfl (hown.alloc _) ⟨wr.heap.size, 0, none⟩ 1 1 [.string (s.extract k m)] rfl rfl (cell_one_new _ _ _) (fun x hx => by simp at hx; subst hx; rfl) (by unfold maxLen; omega) (by omega) (by have := hB.size; simp; omega) ?_; intro v' w1 hown' hgrow _)
        have HB1 := hide (below_push hown hB hgrow)
        have HO1 : Hid (w1.ownsRow w.heap.size 9 1 v' (Fld.fieldsOf (Fld.pre s m)).length (vals (Fld.fieldsOf (Fld.pre s m)))) := by
         show w1.ownsRow w.heap.size 9 1 v' (Fld.fieldsOf (Fld.pre s m)).length (vals (Fld.fieldsOf (Fld.pre s m)))
         rw [unhide HQ, vals_snoc, List.length_append, ← unhide HP]
         exact hown'
        clear hown' hgrow hown hB
        go_wp2
        go_roundw
        case rel => exact ⟨m, by omega, by go_num, unhide HO1, unhide HB1, HBM⟩
        case measure => simp [intOf]; omega
     ·have hkm2 : k < m := by omega
      have hnl : ¬ ((m : Int) < (s.size : Int)) := by omega
      have hpos : 0 < Fld.op (Fld.pre s m) := by rw [HM.out.1]; omega
      have HP : Hid (s.extract k m = Fld.str (Fld.st (Fld.pre s m)).2) := by
       have := Fld.piece s m hm
       rw [HM.out.1, show m - (m - k) = k from by omega] at this
       exact this
      have HQ : Hid (Fld.fieldsOf (Fld.pre s m) = Fld.fieldsOf (Fld.pre s k) ++ [(Fld.st (Fld.pre s m)).2]) := by
       show Fld.fieldsOf (Fld.pre s m) = Fld.fieldsOf (Fld.pre s k) ++ [(Fld.st (Fld.pre s m)).2]
       rw [Fld.fields_pos s m hpos, HM.out.2, unhide HF0]
      clear hpos
      go_wp2_with (at_builtin; refine wpList_append_own _ rfl _ _ 23 rfl w.heap.size 9 i0 (.string ByteArray.empty) 1 16 Tryz.underlying23 hi hz0 hz1 hz2 rfl (by decide) _ _ _ rfl (hown.alloc _) ⟨wr.heap.size, 0, none⟩ 1 1 [.string (s.extract k m)] rfl rfl (cell_one_new _ _ _) (fun x hx => by simp at hx; subst hx; rfl) (by unfold maxLen; omega) (by omega) (by have := hB.size; simp; omega) ?_; intro v' w1 hown' hgrow _)
      have HB1 := hide (below_push hown hB hgrow)
      have HO1 : Hid (w1.ownsRow w.heap.size 9 1 v' (Fld.fieldsOf (Fld.pre s m)).length (vals (Fld.fieldsOf (Fld.pre s m)))) := by
       show w1.ownsRow w.heap.size 9 1 v' (Fld.fieldsOf (Fld.pre s m)).length (vals (Fld.fieldsOf (Fld.pre s m)))
       rw [unhide HQ, vals_snoc, List.length_append, ← unhide HP]
       exact hown'
      clear hown' hgrow hown hB
      go_wp2
      go_roundw
      case rel => exact ⟨m, by omega, by go_num, unhide HO1, unhide HB1, fun h => absurd h hml⟩
      case measure => simp [intOf]; omega
  ·have HF := hide (Fld.fields_full s k (by omega))
   have hnl : ¬ ((k : Int) < (s.size : Int)) := by omega
   go_wp2
   go_ret
   exact ⟨_, rfl, by rw [← unhide HF]; exact hown, hB⟩
end FldW
namespace RowR
open FldW RowB

theorem infoRow : (Tryz.prog.info? 64).map (fun i => (i.zero, i.size, i.bytes)) = some (some (.agg #[.int .i64 0, .slice none 0 0]), 2, 32) := by kernel_rfl

theorem rows_push2 {n₀ : Nat} {eR : TypeId} {W W1 w1 : World} {v v' r : Value} {R : List (Nat × List (List UInt8))} {E : List (Nat × Value)} {k : Nat} {ks : List (List UInt8)} {o : Obj} (he : eR ≠ 9) (hne : eR ≠ 135)
  (hW : Below W.heap.size W W1) (hF : Fits n₀ W E R) (hO : W1.ownsRow n₀ eR 2 v E.length (cellsE E)) (hN : (E.map fun e => e.2.ownBlock).Nodup ∧ Exact eR E)
  (hr : StrRow W.heap.size W1 r (ks.map Fld.str)) (hn : n₀ ≤ W.heap.size)
  (hown' : w1.ownsRow n₀ eR 2 v' (E.length + 1) (cellsE E ++ [.int .i64 (k : Int), r])) (hgrow : (W1.alloc o).grownBy w1 v.ownBlock) :
  RowsAre n₀ eR w1 v' (R ++ [(k, ks)]) ∧ Below n₀ W w1 := by
 have k9 : Keep9 W1 w1 := (Keep9.alloc W1 o).trans (Keep9.grown_own (hO.alloc o) he hgrow)
 refine ⟨⟨E ++ [(k, r)], ?_, ?_, ?_⟩, ?_⟩
 ·exact Fits.snoc rfl ((hr.mono hn).kept k9) (hF.kept ((Keep9.below hW).trans k9))
 ·rw [cellsE_snoc, List.length_append]
  exact hown'
 ·refine ⟨?_, hN.2.snoc fun h => absurd h hne⟩
  rw [List.map_append]
  refine nodup_snoc hN.1 ?_
  intro hm
  obtain ⟨g2, e2, _, h2⟩ := hF.blocks _ hm
  obtain ⟨g3, cap3, cur3, e3, h3, _⟩ := hr
  rw [e3] at e2
  simp [Value.ownBlock] at e2
  omega
 ·exact ((hW.mono hn).alloc (Nat.le_trans hn hW.size) o).grown hgrow (by have := hW.size; simp; omega) (fun k e => (hO.lt k e).1)

theorem strs_cell {w : World} {B : Nat} {v : Value} {L : List (List UInt8)} (h : w.ownsRow B 9 1 v L.length (vals L)) (h0 : 0 < L.length) :
  ∃ g cap, v = .slice (some ⟨g, 0, none⟩) L.length cap ∧ L.length ≤ cap ∧ B ≤ g ∧ g < w.heap.size ∧ ∀ (j : Nat) f, L[j]? = some f → w.cell? ⟨g, j, none⟩ = some (.string (Fld.str f)) := by
 obtain ⟨g, cap, cur, rfl, hg, hh, hc, hm, hz, ht⟩ := strRow_of_owns h (List.length_pos_iff.1 h0)
 rw [List.length_map] at hc ht
 refine ⟨g, cap, by simp, hc, hg, (Array.getElem?_eq_some_iff.1 hh).1, fun j f hf => ?_⟩
 have h1 : (cur.toList.take L.length)[j]? = some (.string (Fld.str f)) := by rw [ht]; simp [hf]
 have hjl : j < L.length := (List.getElem?_eq_some_iff.1 hf).1
 rw [List.getElem?_take, if_pos hjl] at h1
 simp only [World.cell?, hh]
 simpa using h1

theorem items_take_succ (L : List (List UInt8)) : ∀ (k j : Nat) l, L[j]? = some l → (Ln.num k L).take (j + 1) = (Ln.num k L).take j ++ [(k + j, Fld.str l)] := by
 induction L with
 | nil => intro k j l h; simp at h
 | cons x t ih =>
  intro k j l h
  cases j with
  | zero => simp at h; subst h; simp [Ln.num]
  | succ j =>
   have := ih (k + 1) j l (by simpa using h)
   simp only [Ln.num, List.take_succ_cons, this]
   simp
   omega

theorem rows_long (s : ByteArray) (w : World) (hs : 65536 < (s.size : Int)) :
  Calls Tryz.prog 22 #[.string s] w fun e w' => e = .returned (.tuple #[.slice none 0 0, .int .i64 10]) ∧ w' = w := by
 go_enter Tryz.func22, Tryz.ntmps22
 go_wp2
 go_ret2
 exact ⟨rfl, rfl⟩

theorem rows_short (s : ByteArray) (w : World) (hs : s.size ≤ 65536) :
  Calls Tryz.prog 22 #[.string s] w fun e w' => ∃ v, e = .returned (.tuple #[v, .int .i64 0]) ∧ RowsAre w.heap.size 64 w' v (Rw.rowsOf s.data.toList) ∧ Below w.heap.size w w' := by
 have hs2 : ¬ (65536 : Int) < (s.size : Int) := by omega
 obtain ⟨i9, hi9, hz90, hz91, hz92⟩ := info_parts info9
 obtain ⟨i0, hi, hz0, hz1, hz2⟩ := info_parts infoRow
 have HLN := hide (LnR.lines_any s hs w)
 have hLl := Ln.linesOf_len s.data.toList
 have hsl : s.data.toList.length = s.size := by simp
 rw [hsl] at hLl
 clear hsl
 go_enter Tryz.func22, Tryz.ntmps22
 go_wp2_with fail
 refine (unhide HLN).mono ?_
 rintro e wl ⟨vl, rfl, hOl, hBl⟩
 have hvl : ∃ al cl, vl = .slice al (Ln.linesOf s.data.toList).length cl := by
  obtain ⟨_, ⟨rfl, h0⟩ | ⟨g, cap, cur, rfl, _⟩⟩ := hOl
  ·exact ⟨none, 0, by rw [h0]⟩
  ·exact ⟨_, cap, rfl⟩
 obtain ⟨al, cl, rfl⟩ := hvl
 have HOL := hide hOl
 have HBL := hide hBl
 have HRO : Hid (Rw.rowsOf s.data.toList = Rw.rowsP (Ln.num 1 (Ln.linesOf s.data.toList))) := rfl
 have HLE : Hid (∀ l ∈ Ln.linesOf s.data.toList, l.length ≤ 65536) := Ln.linesOf_each s.data.toList (by simpa using hs)
 clear hOl hBl HLN
 generalize Ln.linesOf s.data.toList = L at *
 generalize hzz : L.length = z at *
 have HZ := hide hzz
 clear hzz
 go_wp2
 go_loopw [4, 6] (fun out i wr => ∃ k : Nat, k ≤ z ∧ i = .int .i64 k ∧ RowsAre wl.heap.size 64 wr out (Rw.rowsP ((Ln.num 1 L).take k)) ∧ Below wl.heap.size wl wr) (fun _ i _ => z - (intOf i).toNat)
 case atStart => exact ⟨0, Nat.zero_le _, rfl, ⟨[], trivial, World.ownsRow_nil _ _ _ _, by simp, Exact.nil _⟩, Below.refl _ _⟩
 case round =>
  obtain ⟨k, hk, rfl, ⟨E, hF, hO, hN⟩, hB⟩ := hrel
  by_cases hlt : k < z
  ·obtain ⟨ln, hln⟩ : ∃ ln, L[k]? = some ln := ⟨_, List.getElem?_eq_getElem (by rw [unhide HZ]; exact hlt)⟩
   have hlnl : ln.length ≤ 65536 := unhide HLE ln (List.mem_of_getElem? hln)
   have hsz : (Fld.str ln).size * 16 ≤ 140737488355328 := by
    have : (Fld.str ln).size = ln.length := by show ln.toArray.size = ln.length; simp
    omega
   have hOl := unhide HOL
   rw [← unhide HZ] at hOl
   obtain ⟨gl, cl2, e2, hc2, _, hgl, hcell⟩ := strs_cell hOl (by rw [unhide HZ]; omega)
   rw [unhide HZ] at hc2
   injection e2 with e3 e4 e5
   subst e3
   subst e5
   have hck : wr.cell? ⟨gl, k, none⟩ = some (.string (Fld.str ln)) := (hB.cell (p := ⟨gl, k, none⟩) hgl).trans (hcell k ln hln)
   have hfd := fun wq => ref_fields_any (Fld.str ln) wq hsz
   rw [Rw.str_data] at hfd
   have HFD := hide hfd
   have HTS := hide (items_take_succ L 1 k ln hln)
   have HNE := hide (Rw.fields_ne ln)
   have hfl := Fld.fieldsOf_len ln
   have hEl : E.length ≤ 65536 := by
    rw [hF.length]
    have h1 := Rw.rowsP_len ((Ln.num 1 L).take k)
    have h2 : ((Ln.num 1 L).take k).length ≤ k := List.length_take_le _ _
    omega
   have hRS : Rw.rowsP ((Ln.num 1 L).take (k + 1)) = Rw.rowsP ((Ln.num 1 L).take k) ++ Rw.rowOf (k + 1) ln := by
    rw [unhide HTS, Rw.rowsP_snoc, Rw.str_data, Nat.add_comm 1 k]
   have HRS := hide hRS
   clear hRS hfd hcell hln hsz HTS hOl e4
   go_wp2_with (go_at_call 49; refine (unhide HFD _).mono ?_; rintro e W1 ⟨vf, rfl, hOf, hBf⟩)
   have hvf : ∃ af cf, vf = .slice af (Fld.fieldsOf ln).length cf ∧ (Fld.fieldsOf ln).length ≤ cf := by
    obtain ⟨_, ⟨rfl, h0⟩ | ⟨g, cap, cur, rfl, _, _, hc, _⟩⟩ := hOf
    ·exact ⟨none, 0, by rw [h0], by omega⟩
    ·exact ⟨_, cap, rfl, hc⟩
   obtain ⟨af, cf, rfl, hcf⟩ := hvf
   have hkk := Rw.keep_le (Fld.fieldsOf ln)
   have HLT := hide (Rw.keep_lt_of (Fld.fieldsOf ln))
   have HEND := hide (Rw.keep_end (Fld.fieldsOf ln))
   have HKT := hide (Rw.keep_take (Fld.fieldsOf ln))
   have HRW : Hid (Rw.rowOf (k + 1) ln = if (Rw.keep (Fld.fieldsOf ln)).isEmpty then [] else [(k + 1, Rw.keep (Fld.fieldsOf ln))]) := rfl
   have HOF := hide hOf
   generalize Fld.fieldsOf ln = fs at *
   generalize hfz : fs.length = fz at *
   have HFZ := hide hfz
   generalize hkz : (Rw.keep fs).length = kz at *
   have HKZ := hide hkz
   obtain ⟨w2, rfl⟩ : ∃ w2, w2 = wr := ⟨wr, rfl⟩
   clear hfz hkz hOf
   go_wp2
   go_loopw [7, 9] (fun kept j wr => ∃ q : Nat, q ≤ kz ∧ j = .int .i64 q ∧ wr.ownsRow W1.heap.size 9 1 kept q (vals (fs.take q)) ∧ Below W1.heap.size W1 wr) (fun _ j _ => fz - (intOf j).toNat)
   case atStart => exact ⟨0, Nat.zero_le _, rfl, World.ownsRow_nil _ _ _ _, Below.refl _ _⟩
   case round =>
    obtain ⟨q, hq, rfl, hOk, hBk⟩ := hrel
    by_cases hqz : q < fz
    ·obtain ⟨f, hf⟩ : ∃ f, fs[q]? = some f := ⟨_, List.getElem?_eq_getElem (by rw [unhide HFZ]; exact hqz)⟩
     have hOf := unhide HOF
     rw [← unhide HFZ] at hOf
     obtain ⟨gf, cf2, e2, _, _, hgf, hcell⟩ := strs_cell hOf (by rw [unhide HFZ]; omega)
     injection e2 with e3 e4 e5
     subst e3
     subst e5
     have hcq : wr.cell? ⟨gf, q, none⟩ = some (.string (Fld.str f)) := (hBk.cell (p := ⟨gf, q, none⟩) hgf).trans (hcell q f hf)
     obtain ⟨c, t, hct⟩ : ∃ c t, f = c :: t := by
      cases f with
      | nil => exact absurd rfl (unhide HNE [] (List.mem_of_getElem? hf))
      | cons c t => exact ⟨c, t, rfl⟩
     have hF0 : 0 < (Fld.str f).size := by subst hct; show 0 < (c :: t).toArray.size; simp
     have hFc : (Fld.str f)[0]'hF0 = c := by subst hct; rfl
     have hrm := Rw.rem_head f c t hct
     cases hr : Rw.rem f with
     | false =>
      have hq2 := unhide HLT q hq f hf hr
      have hcb : ((((Fld.str f)[0]'hF0).toNat : Int) != 35) = true := by
       rw [hFc]
       have hc35 : ¬ c = 35 := by rw [hr] at hrm; simpa using hrm.symm
       rw [bne, show ((c.toNat : Int) == 35) = false from Ln.byte_ne _ 35 hc35]
       rfl
      have HTK : Hid (fs.take (q + 1) = fs.take q ++ [f]) := by
       show fs.take (q + 1) = fs.take q ++ [f]
       have hl : q < fs.length := by rw [unhide HFZ]; exact hqz
       rw [List.take_succ_eq_append_getElem hl]
       rw [List.getElem?_eq_getElem hl] at hf
       rw [Option.some.inj hf]
      generalize hFF : Fld.str f = F at *
      have HFF := hide hFF
      clear hFF hFc hrm hr hct hcell hOf e4 hf
      have hq64 : q ≤ 65536 := by omega
      go_wp2_with (at_builtin; refine wpList_append_own _ rfl _ _ 23 rfl W1.heap.size 9 i9 (.string ByteArray.empty) 1 16 Tryz.underlying23 hi9 hz90 hz91 hz92 rfl (by decide) _ _ _ rfl (hOk.alloc _) ⟨wr.heap.size, 0, none⟩ 1 1 [.string F] rfl rfl (cell_one_new _ _ _) (fun x hx => by simp at hx; subst hx; rfl) (by unfold maxLen; omega) (by omega) (by have := hBk.size; simp; omega) ?_; intro v' w1 hown' hgrow hnil; clear hnil)
      have HB1 : Hid (Below W1.heap.size W1 w1) := (hBk.alloc hBk.size _).grown hgrow (by have := hBk.size; simp; omega) (fun k e => (hOk.lt k e).1)
      have HO1 : Hid (w1.ownsRow W1.heap.size 9 1 v' (q + 1) (vals (fs.take (q + 1)))) := by
       show w1.ownsRow W1.heap.size 9 1 v' (q + 1) (vals (fs.take (q + 1)))
       rw [unhide HTK, vals_snoc, unhide HFF]
       exact hown'
      clear hown' hgrow hOk hBk
      go_roundw
      case rel => exact ⟨q + 1, by omega, by go_num, unhide HO1, unhide HB1⟩
      case measure => simp [intOf]; omega
     | true =>
      have hqk := unhide HEND q hq f hf hr
      have hcb : ((((Fld.str f)[0]'hF0).toNat : Int) != 35) = false := by
       rw [hFc]
       have hc35 : c = 35 := by rw [hr] at hrm; simpa using hrm.symm
       rw [bne, show ((c.toNat : Int) == 35) = true from Ln.byte_eq _ 35 hc35]
       rfl
      generalize Fld.str f = F at *
      clear hFc hrm hr hct hcell hOf e4 hf
      have hBw : Below w2.heap.size w2 wr := hBf.trans (hBk.mono hBf.size)
      have HQK := hide hqk
      clear hqk
      have hO1 := Same.owns_below hO hBw
      have HKE : Hid (fs.take q = Rw.keep fs) := by show fs.take q = Rw.keep fs; rw [unhide HKT, unhide HQK]
      obtain ⟨ak, ck, rfl⟩ : ∃ ak ck, u7 = .slice ak q ck := by
       obtain ⟨_, ⟨rfl, h0⟩ | ⟨g, cap, cur, rfl, _⟩⟩ := hOk
       ·exact ⟨none, 0, by rw [h0]⟩
       ·exact ⟨_, cap, rfl⟩
      by_cases hk0 : q = 0
      ·have HRE : Hid (Rw.rowsP ((Ln.num 1 L).take (k + 1)) = Rw.rowsP ((Ln.num 1 L).take k)) := by
        show Rw.rowsP ((Ln.num 1 L).take (k + 1)) = Rw.rowsP ((Ln.num 1 L).take k)
        have : Rw.keep fs = [] := List.eq_nil_of_length_eq_zero (by rw [unhide HKZ]; have := unhide HQK; omega)
        rw [unhide HRS, unhide HRW, this]
        simp
       subst hk0
       rw [show ((0 : Nat) : Int) = 0 from rfl]
       go_wp2
       go_roundw
       case rel => exact ⟨k + 1, by omega, by go_num, by rw [unhide HRE]; exact RowsAre.below ⟨E, hF, hO, hN⟩ hBw, hB.trans (hBw.mono hB.size)⟩
       case measure => simp [intOf]; omega
      ·have HRE : Hid (Rw.rowsP ((Ln.num 1 L).take (k + 1)) = Rw.rowsP ((Ln.num 1 L).take k) ++ [(k + 1, Rw.keep fs)]) := by
        show Rw.rowsP ((Ln.num 1 L).take (k + 1)) = Rw.rowsP ((Ln.num 1 L).take k) ++ [(k + 1, Rw.keep fs)]
        have hne : ¬ (Rw.keep fs).isEmpty = true := by
         intro h
         have : Rw.keep fs = [] := by simpa using h
         have h2 := unhide HKZ
         have h3 := unhide HQK
         rw [this] at h2
         simp at h2
         omega
        rw [unhide HRS, unhide HRW, if_neg hne]
       have hkpos : 0 < q := by omega
       have hSR : StrRow w2.heap.size wr (.slice ak q ck) ((Rw.keep fs).map Fld.str) := by
        have h1 : wr.ownsRow W1.heap.size 9 1 (.slice ak q ck) (Rw.keep fs).length (vals (Rw.keep fs)) := by
         rw [unhide HKZ, ← unhide HQK, ← unhide HKE]; exact hOk
        exact (strRow_of_owns h1 (fun e => by have h2 := unhide HKZ; have h3 := unhide HQK; rw [e] at h2; simp at h2; omega)).mono hBf.size
       have HPU := hide (fun (v' : Value) (w1 : World) (o : Obj) => @rows_push2 wl.heap.size 64 w2 wr w1 u4 v' _ _ E (k + 1) _ o (by decide) (by decide) hBw hF hO1 hN hSR hB.size)
       clear hSR hk0 hOk
       go_wp2_with (at_builtin; refine wpList_append_own _ rfl _ _ 60 rfl wl.heap.size 64 i0 (.agg #[.int .i64 0, .slice none 0 0]) 2 32 Tryz.underlying60 hi hz0 hz1 hz2 rfl (by decide) _ _ _ rfl (hO1.alloc _) ⟨wr.heap.size, 0, none⟩ 1 1 [.int .i64 ((k : Int) + 1), .slice ak q ck] rfl rfl (cell_two_new _ _ _ _) (by simp [Value.oneCell']) (by unfold maxLen; omega) (by omega) (by have := hB.size; have := hBw.size; simp; omega) ?_; intro v' w1 hown' hgrow hnil; clear hnil)
       obtain ⟨hra, hba⟩ := unhide HPU _ _ _ hown' hgrow
       have HRA := hide hra
       have HBA := hide hba
       clear hra hba hown' hgrow
       go_wp2
       go_roundw
       case rel => exact ⟨k + 1, by omega, by go_num, by rw [unhide HRE]; exact unhide HRA, hB.trans (unhide HBA)⟩
       case measure => simp [intOf]; omega
    ·have hqk : q = kz := by omega
     have hnq : ¬ ((q : Int) < (fz : Int)) := by omega
     have hBw : Below w2.heap.size w2 wr := hBf.trans (hBk.mono hBf.size)
     have HQK := hide hqk
     clear hqk
     have hO1 := Same.owns_below hO hBw
     have HKE : Hid (fs.take q = Rw.keep fs) := by show fs.take q = Rw.keep fs; rw [unhide HKT, unhide HQK]
     obtain ⟨ak, ck, rfl⟩ : ∃ ak ck, u7 = .slice ak q ck := by
      obtain ⟨_, ⟨rfl, h0⟩ | ⟨g, cap, cur, rfl, _⟩⟩ := hOk
      ·exact ⟨none, 0, by rw [h0]⟩
      ·exact ⟨_, cap, rfl⟩
     by_cases hk0 : q = 0
     ·have HRE : Hid (Rw.rowsP ((Ln.num 1 L).take (k + 1)) = Rw.rowsP ((Ln.num 1 L).take k)) := by
       show Rw.rowsP ((Ln.num 1 L).take (k + 1)) = Rw.rowsP ((Ln.num 1 L).take k)
       have : Rw.keep fs = [] := List.eq_nil_of_length_eq_zero (by rw [unhide HKZ]; have := unhide HQK; omega)
       rw [unhide HRS, unhide HRW, this]
       simp
      subst hk0
      rw [show ((0 : Nat) : Int) = 0 from rfl]
      go_wp2
      go_roundw
      case rel => exact ⟨k + 1, by omega, by go_num, by rw [unhide HRE]; exact RowsAre.below ⟨E, hF, hO, hN⟩ hBw, hB.trans (hBw.mono hB.size)⟩
      case measure => simp [intOf]; omega
     ·have HRE : Hid (Rw.rowsP ((Ln.num 1 L).take (k + 1)) = Rw.rowsP ((Ln.num 1 L).take k) ++ [(k + 1, Rw.keep fs)]) := by
       show Rw.rowsP ((Ln.num 1 L).take (k + 1)) = Rw.rowsP ((Ln.num 1 L).take k) ++ [(k + 1, Rw.keep fs)]
       have hne : ¬ (Rw.keep fs).isEmpty = true := by
        intro h
        have : Rw.keep fs = [] := by simpa using h
        have h2 := unhide HKZ
        have h3 := unhide HQK
        rw [this] at h2
        simp at h2
        omega
       rw [unhide HRS, unhide HRW, if_neg hne]
      have hkpos : 0 < q := by omega
      have hSR : StrRow w2.heap.size wr (.slice ak q ck) ((Rw.keep fs).map Fld.str) := by
       have h1 : wr.ownsRow W1.heap.size 9 1 (.slice ak q ck) (Rw.keep fs).length (vals (Rw.keep fs)) := by
        rw [unhide HKZ, ← unhide HQK, ← unhide HKE]; exact hOk
       exact (strRow_of_owns h1 (fun e => by have h2 := unhide HKZ; have h3 := unhide HQK; rw [e] at h2; simp at h2; omega)).mono hBf.size
      have HPU := hide (fun (v' : Value) (w1 : World) (o : Obj) => @rows_push2 wl.heap.size 64 w2 wr w1 u4 v' _ _ E (k + 1) _ o (by decide) (by decide) hBw hF hO1 hN hSR hB.size)
      clear hSR hk0 hOk
      go_wp2_with (at_builtin; refine wpList_append_own _ rfl _ _ 60 rfl wl.heap.size 64 i0 (.agg #[.int .i64 0, .slice none 0 0]) 2 32 Tryz.underlying60 hi hz0 hz1 hz2 rfl (by decide) _ _ _ rfl (hO1.alloc _) ⟨wr.heap.size, 0, none⟩ 1 1 [.int .i64 ((k : Int) + 1), .slice ak q ck] rfl rfl (cell_two_new _ _ _ _) (by simp [Value.oneCell']) (by unfold maxLen; omega) (by omega) (by have := hB.size; have := hBw.size; simp; omega) ?_; intro v' w1 hown' hgrow hnil; clear hnil)
      obtain ⟨hra, hba⟩ := unhide HPU _ _ _ hown' hgrow
      have HRA := hide hra
      have HBA := hide hba
      clear hra hba hown' hgrow
      go_wp2
      go_roundw
      case rel => exact ⟨k + 1, by omega, by go_num, by rw [unhide HRE]; exact unhide HRA, hB.trans (unhide HBA)⟩
      case measure => simp [intOf]; omega
  ·have hnl : ¬ ((k : Int) < (z : Int)) := by omega
   have HFU : Hid ((Ln.num 1 L).take k = Ln.num 1 L) := List.take_of_length_le (by rw [Ln.num_length, unhide HZ]; omega)
   go_wp2
   go_ret2
   exact ⟨_, rfl, ⟨E, by rw [unhide HRO, ← unhide HFU]; exact hF.low (unhide HBL).size, owns_low hO (unhide HBL).size, hN⟩, (unhide HBL).trans (hB.mono (unhide HBL).size)⟩
end RowR
namespace Af
open RowB FldW
theorem dnil_any (s : ByteArray) (w : World) : Calls Tryz.prog 18 #[.pointer none, .string s] w fun e w' => e = .returned (.tuple #[.pointer none, .agg #[.int .i64 2, .int .i64 0, .int .i64 1]]) ∧ Below w.heap.size w w' := by
 go_enter Tryz.func18, Tryz.ntmps18
 go_wp2
 have hn := alloc_new w (.cells #[.int .i64 2, .int .i64 0, .int .i64 1] 31)
 obtain ⟨c0, c1, c2, -⟩ := fault3 hn
 show bodyPost _ _ _ _ _ (w.alloc (.cells #[.int .i64 2, .int .i64 0, .int .i64 1] 31))
 refine bodyPost_ret (v := .tuple #[.pointer none, .agg #[.int .i64 2, .int .i64 0, .int .i64 1]]) (by simp [results, Tryz.results18, go_sem, c0, c1, c2]) rfl ?_
 exact ⟨rfl, (Below.refl _ _).alloc (Nat.le_refl _) _⟩
theorem set_same {W : World} {g k : Nat} {cur : Array Value} {t : TypeId} {fz : Nat × Nat} (h : W.heap[g]? = some (.cells cur t fz)) (v : Value) (hv : cur.setIfInBounds k v = cur) : W.setCell ⟨g, k, none⟩ v = W := by
 have e : (W.setCell ⟨g, k, none⟩ v).heap = W.heap := by
  apply Array.ext_getElem?
  intro i
  by_cases hi : i = g
  ·subst hi
   rw [set_heap1 h, hv, h]
  ·simp [World.setCell, Array.getElem?_modify, Ne.symm hi]
 cases W
 simp only [World.setCell] at e ⊢
 rw [e]
def RwAt (w : World) (v : Value) (fs : List Bs) : Prop := ∃ g cap, v = .slice (some ⟨g, 0, none⟩) (fs.length + 1) cap ∧ fs.length + 1 ≤ cap ∧ cap ≤ maxLen ∧ g < w.heap.size ∧ ∀ (k : Nat) f, fs[k]? = some f → ∃ l gf cf, w.cell? ⟨g, 2 + k * 2, none⟩ = some (.int .i64 ((l : Nat) : Int)) ∧ w.cell? ⟨g, 2 + k * 2 + 1, none⟩ = some (.slice (some ⟨gf, 0, none⟩) 1 cf) ∧ gf < w.heap.size ∧ w.cell? ⟨gf, 0, none⟩ = some (.string (Fld.str f))
theorem RwAt.below {w w' : World} {v : Value} {fs : List Bs} (h : RwAt w v fs) (b : Below w.heap.size w w') : RwAt w' v fs := by
 obtain ⟨g, cap, e, h1, h2, hg, hc⟩ := h
 refine ⟨g, cap, e, h1, h2, Nat.lt_of_lt_of_le hg b.size, fun k f hf => ?_⟩
 obtain ⟨l, gf, cf, q0, q1, hgf, q2⟩ := hc k f hf
 exact ⟨l, gf, cf, (b.cell (p := ⟨g, 2 + k * 2, none⟩) hg).trans q0, (b.cell (p := ⟨g, 2 + k * 2 + 1, none⟩) hg).trans q1, Nat.lt_of_lt_of_le hgf b.size, (b.cell (p := ⟨gf, 0, none⟩) hgf).trans q2⟩
theorem rows_rw {n0 : Nat} {eR : TypeId} {W : World} {v : Value} {p : Nat × List Bs} {t : List (Nat × List Bs)} {fs : List Bs} (h : RowsAre n0 eR W v (p :: t)) (hf : t.map (fun p => p.2) = fs.map (fun f => [f])) : RwAt W v fs := by
 obtain ⟨E, h1, h2, -, -⟩ := h
 have hl := h1.length
 have htl : t.length = fs.length := by simpa using congrArg List.length hf
 have hEl : E.length = fs.length + 1 := by rw [hl]; simp [htl]
 obtain ⟨g, cap, e, -, hg, hc1, hc2, -, hc⟩ := own_at h2 (by omega)
 refine ⟨g, cap, by rw [e, hEl], by omega, hc2, hg, fun k f hk => ?_⟩
 have hkl := (List.getElem?_eq_some_iff.1 hk).1
 have he : E[k + 1]? = some (E[k + 1]'(by omega)) := List.getElem?_eq_getElem _
 generalize E[k + 1]'(by omega) = e1 at he
 obtain ⟨r, hr, -, hs⟩ := h1.get (k + 1) e1 he
 have hr2 : r.2 = [f] := by
  have a1 : (t.map (fun p => p.2))[k]? = some r.2 := by
   rw [List.getElem?_map]
   have : t[k]? = some r := by simpa using hr
   rw [this]
   rfl
  rw [hf, List.getElem?_map, hk] at a1
  simpa using a1.symm
 rw [hr2] at hs
 obtain ⟨gf, cf, cur, q1, -, q2, q3, -, q5, q6⟩ := hs
 obtain ⟨c0, c1⟩ := cellsE_get E (k + 1) e1 he
 refine ⟨e1.1, gf, cf, ?_, ?_, lt_some q2, ?_⟩
 ·rw [hc (2 + k * 2) (by omega), show 2 + k * 2 = 2 * (k + 1) by omega, c0]
 ·rw [hc (2 + k * 2 + 1) (by omega), show 2 + k * 2 + 1 = 2 * (k + 1) + 1 by omega, c1, q1]
  rfl
 ·have hcu : cur[0]? = some (.string (Fld.str f)) := by
   have : cur.toList.take 1 = [.string (Fld.str f)] := q6
   have h0 : (cur.toList.take 1)[0]? = some (.string (Fld.str f)) := by rw [this]; rfl
   rw [List.getElem?_take_of_lt (by omega)] at h0
   simpa using h0
  simp [World.cell?, q2, hcu]
theorem vals_set (L : List Bs) (i : Nat) (x : Bs) : (vals L).set i (.string (Fld.str x)) = vals (L.set i x) := by simp [vals, List.map_set]
theorem swap_own {W : World} {B g cap : Nat} {fs : List Bs} {fi fj : Bs} (h : W.ownsRow B 9 1 (.slice (some ⟨g, 0, none⟩) fs.length cap) fs.length (vals fs)) {i j : Nat} (hi : i < fs.length) (hj : j < fs.length) :
  ((W.setCell ⟨g, i, none⟩ (.string (Fld.str fj))).setCell ⟨g, j, none⟩ (.string (Fld.str fi))).ownsRow B 9 1 (.slice (some ⟨g, 0, none⟩) ((fs.set i fj).set j fi).length cap) ((fs.set i fj).set j fi).length (vals ((fs.set i fj).set j fi)) := by
 have h1 := own_set h i (by omega) (.string (Fld.str fj))
 have h2 := own_set h1 j (by omega) (.string (Fld.str fi))
 rw [vals_set, vals_set] at h2
 rw [show ((fs.set i fj).set j fi).length = fs.length by simp]
 exact h2
theorem within (x : Int) (n : Nat) (hn : 0 < n) : ∃ i : Nat, i < n ∧ (max 0 x).tmod (n : Int) = (i : Int) := by
 have h0 : (0 : Int) ≤ max 0 x := by omega
 refine ⟨((max 0 x) % (n : Int)).toNat, ?_, ?_⟩
 ·have h1 := Int.emod_nonneg (max 0 x) (show (n : Int) ≠ 0 by omega)
  have h2 := Int.emod_lt_of_pos (max 0 x) (show (0 : Int) < n by omega)
  omega
 ·rw [Int.tmod_eq_emod_of_nonneg h0]
  have h1 := Int.emod_nonneg (max 0 x) (show (n : Int) ≠ 0 by omega)
  omega
abbrev TurnT : TypeId := 59
abbrev DOrd (a s : ByteArray) (I J : Int) (w : World) : Prop := Calls Tryz.prog 5 #[.agg #[.string a, .string s, .int .i64 I, .int .i64 J]] w fun e w' => e = .returned (.bool true) ∧ Below w.heap.size w w'
theorem box4 {w W : World} {a s : ByteArray} {I J : Int} (b : Below (w.alloc (.cells #[.string a, .string s, .int .i64 I, .int .i64 J] TurnT)).heap.size (w.alloc (.cells #[.string a, .string s, .int .i64 I, .int .i64 J] TurnT)) W) :
  W.cell? ⟨w.heap.size, 0, none⟩ = some (.string a) ∧ W.cell? ⟨w.heap.size, 1, none⟩ = some (.string s) ∧ W.cell? ⟨w.heap.size, 2, none⟩ = some (.int .i64 I) ∧ W.cell? ⟨w.heap.size, 3, none⟩ = some (.int .i64 J) ∧ w.heap.size < W.heap.size := by
 have h := b.block w.heap.size (by simp)
 rw [alloc_new] at h
 refine ⟨?_, ?_, ?_, ?_, lt_some h⟩ <;> simp [World.cell?, h]
theorem cell_bel {w w' : World} {g k : Nat} {v : Value} (hg : g < w.heap.size) (b : Below w.heap.size w w') (h : w.cell? ⟨g, k, none⟩ = some v) : w'.cell? ⟨g, k, none⟩ = some v := (b.cell (p := ⟨g, k, none⟩) hg).trans h
theorem box_low (w : World) (o : Obj) {W : World} (b : Below (w.alloc o).heap.size (w.alloc o) W) : Below w.heap.size w W := ((Below.refl _ _).alloc (Nat.le_refl _) _).trans (b.mono (by simp))
theorem dord_nil (a s : ByteArray) (I J : Int) (w : World) (hM : Mx w.heap.size w) {er : Er} (hx : affR a.data.toList = .error er) : DOrd a s I J w := by
 have b0 : Below w.heap.size w (w.alloc (.cells #[.string a, .string s, .int .i64 I, .int .i64 J] TurnT)) := (Below.refl _ _).alloc (Nat.le_refl _) _
 have HWk := hide (wakes12_any _ (hM.up b0))
 have HA : Hid (∀ W, Below w.heap.size w W → Calls Tryz.prog 12 #[.string a] W fun e w' => e = .returned (.tuple #[.pointer none, .agg #[.int .i64 1, .int .i64 (er.1 : Nat), .int .i64 (er.2 : Nat)]]) ∧ Below W.heap.size W w') := fun W b => by
  refine (Read_any a W (hM.up b)).mono ?_
  rintro e w' ⟨b, q⟩
  rw [hx] at q
  exact ⟨q, b⟩
 have HB := hide (fun W b => box4 (w := w) (W := W) (a := a) (s := s) (I := I) (J := J) b)
 clear hM hx b0
 go_enter Tryz.func5, Tryz.ntmps5
 go_wp2_with fail
 refine (unhide HWk).mono ?_
 rintro e w1 ⟨rfl, b1⟩
 have B1 := hide b1
 obtain ⟨e0, e1, -, -, lt1⟩ := unhide HB _ b1
 clear b1 HWk
 go_wp2_with fail
 refine (unhide HA _ (box_low _ _ (unhide B1))).mono ?_
 rintro e w2 ⟨rfl, b2⟩
 have B2 := hide (btr (unhide B1) b2)
 obtain ⟨f0, f1, -, -, lt2⟩ := unhide HB _ (unhide B2)
 clear b2 e0 e1 lt1
 go_wp2_with fail
 refine (dnil_any s _).mono ?_
 rintro e w3 ⟨rfl, b3⟩
 have B3 := hide (btr (unhide B2) (box_low _ _ b3))
 clear b3 f0 f1 lt2
 go_wp2
 go_ret
 exact ⟨rfl, box_low _ _ ((unhide B3).alloc (unhide B3).size _)⟩
theorem dord_err (a s : ByteArray) (I J : Int) (w : World) (hM : Mx w.heap.size w) {F : Fil} (hx : affR a.data.toList = .ok F) {l c : Nat} (hd : dicR F s.data.toList = .error (l, c)) : DOrd a s I J w := by
 have b0 : Below w.heap.size w (w.alloc (.cells #[.string a, .string s, .int .i64 I, .int .i64 J] TurnT)) := (Below.refl _ _).alloc (Nat.le_refl _) _
 have HWk := hide (wakes12_any _ (hM.up b0))
 have HA := hide (fun W (b : Below w.heap.size w W) => affOk (hM.up b) hx)
 unfold AffOk at HA
 have HB := hide (fun W b => box4 (w := w) (W := W) (a := a) (s := s) (I := I) (J := J) b)
 clear hM hx b0
 go_enter Tryz.func5, Tryz.ntmps5
 go_wp2_with fail
 refine (unhide HWk).mono ?_
 rintro e w1 ⟨rfl, b1⟩
 have B1 := hide b1
 obtain ⟨e0, e1, -, -, lt1⟩ := unhide HB _ b1
 clear b1 HWk
 go_wp2_with fail
 refine (unhide HA _ (box_low _ _ (unhide B1))).mono ?_
 rintro e w2 ⟨fb, rfl, b2, hD⟩
 have HNO : Hid (∀ W, Below w2.heap.size w2 W → Calls Tryz.prog 18 #[.pointer (some ⟨fb, 0, none⟩), .string s] W fun e w' => e = .returned (.tuple #[.pointer none, .agg #[.int .i64 2, .int .i64 (l : Nat), .int .i64 (c : Nat)]]) ∧ Below W.heap.size W w') := fun W b => hD.no b hd
 have B2 := hide (btr (unhide B1) b2)
 obtain ⟨f0, f1, -, -, lt2⟩ := unhide HB _ (unhide B2)
 clear b2 e0 e1 lt1 hD
 go_wp2_with fail
 refine (unhide HNO _ ((Below.refl _ _).alloc (Nat.le_refl _) _)).mono ?_
 rintro e w3 ⟨rfl, b3⟩
 have B3 := hide (btr (unhide B2) (box_low _ _ b3))
 clear b3 f0 f1 lt2
 go_wp2
 go_ret
 exact ⟨rfl, box_low _ _ ((unhide B3).alloc (unhide B3).size _)⟩
theorem vals_one (L : List Bs) (z : ByteArray) : ∀ y ∈ vals L ++ [.string z], y.oneCell' = true := by
 intro y hy
 rcases List.mem_append.1 hy with h | h
 ·obtain ⟨x, -, rfl⟩ := List.mem_map.1 h
  rfl
 ·rw [List.mem_singleton] at h
  rw [h]
  rfl
theorem EnA.two {W : World} {v : Value} {E : List Ent} (h : EnA W v E) {n : Nat} (hn : 0 < n) (hl : E.length = n) : ∃ g c, v = .slice (some ⟨g, 0, none⟩) n c ∧ n ≤ c ∧ g < W.heap.size ∧ ∀ (i : Nat) x, E[i]? = some x → ∃ a d, W.cell? ⟨g, i * 2, none⟩ = some (.string (Wd.str x.word)) ∧ W.cell? ⟨g, i * 2 + 1, none⟩ = some (.slice a x.flags.length d) ∧ So.FArg W (.slice a x.flags.length d) x.flags := by
 obtain ⟨ao, cap, rfl, h1, -, h3⟩ := h
 obtain ⟨g, fl, rfl, hg, -⟩ := h3 0 _ (List.getElem?_eq_getElem (by omega))
 refine ⟨g, cap, by rw [hl], by omega, hg, fun i x hx => ?_⟩
 obtain ⟨g', fl, e, -, c0, c1, hf⟩ := h3 i x hx
 injection e with e
 injection e with e
 subst e
 obtain ⟨a, d, rfl, -⟩ := id hf
 exact ⟨a, d, c0, c1, hf⟩
theorem wrap_suc (k : Nat) (h : k ≤ 8192) : IntKind.i64.wrap ((k : Int) + 1) = (k : Int) + 1 := Go.IntWalk.i64_in _ ⟨by omega, by omega⟩
theorem set_zero3 {W : World} {b : Nat} (h : W.heap[b]? = some (.cells #[.int .i64 0, .int .i64 0, .int .i64 0] 31 (0, 0))) : ((W.setCell ⟨b, 0, none⟩ (.int .i64 0)).setCell ⟨b, 1, none⟩ (.int .i64 0)).setCell ⟨b, 2, none⟩ (.int .i64 0) = W := by
 rw [set_same h (k := 0) _ rfl, set_same h (k := 1) _ rfl, set_same h (k := 2) _ rfl]
theorem ord9 {w5 w6 w9 : World} {sD sf : ByteArray} {v13 : Value} {n : Nat} {xs : List Value} (h6 : w6.ownsRow w5.heap.size 9 1 v13 n xs) (b : Below w5.heap.size w5 w6) (hg : ((w6.alloc (.cells #[.string sD] 9)).alloc (.cells #[.string sf] 9)).grownBy w9 v13.ownBlock) : w9.ownsRow w6.heap.size 9 1 (.slice (some ⟨w6.heap.size, 0, none⟩) 1 1) 1 [.string sD] ∧ Below w5.heap.size w5 w9 ∧ w6.heap.size < w9.heap.size := by
 have b8 : Below w5.heap.size w5 ((w6.alloc (.cells #[.string sD] 9)).alloc (.cells #[.string sf] 9)) := (b.alloc b.size _).alloc (by have := b.size; simp; omega) _
 have hn : v13.ownBlock ≠ some w6.heap.size := fun e => by have := (h6.lt _ e).2; omega
 have hb : ((w6.alloc (.cells #[.string sD] 9)).alloc (.cells #[.string sf] 9)).heap[w6.heap.size]? = some (.cells #[.string sD] 9 (0, 0)) := alloc_heap1 (alloc_new w6 _) _
 have hb9 := (hg.block w6.heap.size (by simp; omega) (fun e => hn e.symm)).trans hb
 refine ⟨⟨by simp, .inr ⟨w6.heap.size, 1, #[.string sD], rfl, Nat.le_refl _, hb9, Nat.le_refl _, by unfold maxLen; omega, by simp, by simp⟩⟩, b8.grown hg (by have := b.size; simp; omega) (fun k e => (h6.lt k e).1), lt_some hb9⟩
end Af
end Go.Proofs.YtidhbhdcoanfcaaGreatDoor
