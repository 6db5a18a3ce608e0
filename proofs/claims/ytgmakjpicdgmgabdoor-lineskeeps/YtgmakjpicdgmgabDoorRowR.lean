/- Contracts: the rows of a text as the document's own Rows makes them; the laws' comparison of two lists of rows answers true where both hold the same rows. -/
import Derived.Test.YtgmakjpicdgmgabDoorFldR
import Derived.Test.YtgmakjpicdgmgabDoorLnR
import Derived.Test.YtgmakjpicdgmgabDoorRowB
import Derived.WalkSmall
namespace Go.Proofs.YtgmakjpicdgmgabDoor
open Go.RowKit
namespace RowR
open FldW RowB

theorem infoRow : (Tryd.prog.info? 57).map (fun i => (i.zero, i.size, i.bytes)) = some (some (.agg #[.int .i64 0, .slice none 0 0]), 2, 32) := by kernel_rfl

theorem rows_push2 {n₀ : Nat} {eR : TypeId} {W W1 w1 : World} {v v' r : Value} {R : List (Nat × List (List UInt8))} {E : List (Nat × Value)} {k : Nat} {ks : List (List UInt8)} {o : Obj} (he : eR ≠ 9) (hne : eR ≠ 40)
    (hW : Below W.heap.size W W1) (hF : Fits n₀ W E R) (hO : W1.ownsRow n₀ eR 2 v E.length (cellsE E)) (hN : (E.map fun e => e.2.ownBlock).Nodup ∧ Exact eR E)
    (hr : StrRow W.heap.size W1 r (ks.map Fld.str)) (hn : n₀ ≤ W.heap.size)
    (hown' : w1.ownsRow n₀ eR 2 v' (E.length + 1) (cellsE E ++ [.int .i64 (k : Int), r])) (hgrow : (W1.alloc o).grownBy w1 v.ownBlock) :
    RowsAre n₀ eR w1 v' (R ++ [(k, ks)]) ∧ Below n₀ W w1 := by
  have k9 : Keep9 W1 w1 := (Keep9.alloc W1 o).trans (Keep9.grown_own (hO.alloc o) he hgrow)
  refine ⟨⟨E ++ [(k, r)], ?_, ?_, ?_⟩, ?_⟩
  · exact Fits.snoc rfl ((hr.mono hn).kept k9) (hF.kept ((Keep9.below hW).trans k9))
  · rw [cellsE_snoc, List.length_append]
    exact hown'
  · refine ⟨?_, hN.2.snoc fun h => absurd h hne⟩
    rw [List.map_append]
    refine nodup_snoc hN.1 ?_
    intro hm
    obtain ⟨g2, e2, _, h2⟩ := hF.blocks _ hm
    obtain ⟨g3, cap3, cur3, e3, h3, _⟩ := hr
    rw [e3] at e2
    simp [Value.ownBlock] at e2
    omega
  · exact ((hW.mono hn).alloc (Nat.le_trans hn hW.size) o).grown hgrow (by have := hW.size; simp; omega) (fun k e => (hO.lt k e).1)

theorem strs_cell {w : World} {B : Nat} {v : Value} {L : List (List UInt8)} (h : w.ownsRow B 9 1 v L.length (vals L)) (h0 : 0 < L.length) :
    ∃ g cap, v = .slice (some ⟨g, 0, none⟩) L.length cap ∧ L.length ≤ cap ∧ B ≤ g ∧ g < w.heap.size ∧ ∀ (j : Nat) f, L[j]? = some f → w.cell? ⟨g, j, none⟩ = some (.string (Fld.str f)) := by
  obtain ⟨g, cap, cur, rfl, hg, hh, hc, hm, hz, ht⟩ := strRow_of_owns h (List.length_pos_iff.1 h0)
  rw [List.length_map] at hc ht
  refine ⟨g, cap, by simp, hc, hg, (Array.getElem?_eq_some_iff.1 hh).1, fun j f hf => ?_⟩
  have h1 : (cur.toList.take L.length)[j]? = some (.string (Fld.str f)) := by rw [ht]; simp [hf]
  have hjl : j < L.length := (List.getElem?_eq_some_iff.1 hf).1
  rw [List.getElem?_take, if_pos hjl] at h1
  simp only [World.cell?, hh]
  simpa using h1

theorem items_take_succ (L : List (List UInt8)) : ∀ (k j : Nat) l, L[j]? = some l → (Ln.num k L).take (j + 1) = (Ln.num k L).take j ++ [(k + j, Fld.str l)] := by
  induction L with
  | nil => intro k j l h; simp at h
  | cons x t ih =>
    intro k j l h
    cases j with
    | zero => simp at h; subst h; simp [Ln.num]
    | succ j =>
      have := ih (k + 1) j l (by simpa using h)
      simp only [Ln.num, List.take_succ_cons, this]
      simp
      omega

set_option maxHeartbeats 400000 in
theorem rows_long (s : ByteArray) (w : World) (hs : 65536 < (s.size : Int)) :
    Calls Tryd.prog 23 #[.string s] w fun e w' => e = .returned (.tuple #[.slice none 0 0, .int .i64 10]) ∧ w' = w := by
  go_enter Tryd.func23, Tryd.ntmps23
  go_wp2
  go_ret2
  exact ⟨rfl, rfl⟩

set_option maxRecDepth 100000 in
set_option maxHeartbeats 4000000 in
theorem rows_short (s : ByteArray) (w : World) (hs : s.size ≤ 65536) :
    Calls Tryd.prog 23 #[.string s] w fun e w' => ∃ v, e = .returned (.tuple #[v, .int .i64 0]) ∧ RowsAre w.heap.size 57 w' v (Rw.rowsOf s.data.toList) ∧ Below w.heap.size w w' := by
  have hs2 : ¬ (65536 : Int) < (s.size : Int) := by omega
  obtain ⟨i9, hi9, hz90, hz91, hz92⟩ := info_parts info9
  obtain ⟨i0, hi, hz0, hz1, hz2⟩ := info_parts infoRow
  have HLN := hide (LnR.lines_any s hs w)
  have hLl := Ln.linesOf_len s.data.toList
  have hsl : s.data.toList.length = s.size := by simp
  rw [hsl] at hLl
  clear hsl
  go_enter Tryd.func23, Tryd.ntmps23
  go_wp2_with fail
  refine (unhide HLN).mono ?_
  rintro e wl ⟨vl, rfl, hOl, hBl⟩
  have hvl : ∃ al cl, vl = .slice al (Ln.linesOf s.data.toList).length cl := by
    obtain ⟨_, ⟨rfl, h0⟩ | ⟨g, cap, cur, rfl, _⟩⟩ := hOl
    · exact ⟨none, 0, by rw [h0]⟩
    · exact ⟨_, cap, rfl⟩
  obtain ⟨al, cl, rfl⟩ := hvl
  have HOL := hide hOl
  have HBL := hide hBl
  have HRO : Hid (Rw.rowsOf s.data.toList = Rw.rowsP (Ln.num 1 (Ln.linesOf s.data.toList))) := rfl
  have HLE : Hid (∀ l ∈ Ln.linesOf s.data.toList, l.length ≤ 65536) := Ln.linesOf_each s.data.toList (by simpa using hs)
  clear hOl hBl HLN
  generalize Ln.linesOf s.data.toList = L at *
  generalize hzz : L.length = z at *
  have HZ := hide hzz
  clear hzz
  go_wp2
  go_loopw [4, 6] (fun out i wr => ∃ k : Nat, k ≤ z ∧ i = .int .i64 k ∧ RowsAre wl.heap.size 57 wr out (Rw.rowsP ((Ln.num 1 L).take k)) ∧ Below wl.heap.size wl wr) (fun _ i _ => z - (intOf i).toNat)
  case atStart => exact ⟨0, Nat.zero_le _, rfl, ⟨[], trivial, World.ownsRow_nil _ _ _ _, by simp, Exact.nil _⟩, Below.refl _ _⟩
  case round =>
    obtain ⟨k, hk, rfl, ⟨E, hF, hO, hN⟩, hB⟩ := hrel
    by_cases hlt : k < z
    · obtain ⟨ln, hln⟩ : ∃ ln, L[k]? = some ln := ⟨_, List.getElem?_eq_getElem (by rw [unhide HZ]; exact hlt)⟩
      have hlnl : ln.length ≤ 65536 := unhide HLE ln (List.mem_of_getElem? hln)
      have hsz : (Fld.str ln).size * 16 ≤ 140737488355328 := by
        have : (Fld.str ln).size = ln.length := by show ln.toArray.size = ln.length; simp
        omega
      have hOl := unhide HOL
      rw [← unhide HZ] at hOl
      obtain ⟨gl, cl2, e2, hc2, _, hgl, hcell⟩ := strs_cell hOl (by rw [unhide HZ]; omega)
      rw [unhide HZ] at hc2
      injection e2 with e3 e4 e5
      subst e3
      subst e5
      have hck : wr.cell? ⟨gl, k, none⟩ = some (.string (Fld.str ln)) := (hB.cell (p := ⟨gl, k, none⟩) hgl).trans (hcell k ln hln)
      have hfd := fun wq => ref_fields_any (Fld.str ln) wq hsz
      rw [Rw.str_data] at hfd
      have HFD := hide hfd
      have HTS := hide (items_take_succ L 1 k ln hln)
      have HNE := hide (Rw.fields_ne ln)
      have hfl := Fld.fieldsOf_len ln
      have hEl : E.length ≤ 65536 := by
        rw [hF.length]
        have h1 := Rw.rowsP_len ((Ln.num 1 L).take k)
        have h2 : ((Ln.num 1 L).take k).length ≤ k := List.length_take_le _ _
        omega
      have hRS : Rw.rowsP ((Ln.num 1 L).take (k + 1)) = Rw.rowsP ((Ln.num 1 L).take k) ++ Rw.rowOf (k + 1) ln := by
        rw [unhide HTS, Rw.rowsP_snoc, Rw.str_data, Nat.add_comm 1 k]
      have HRS := hide hRS
      clear hRS hfd hcell hln hsz HTS hOl e4
      go_wp2_with (go_at_call 36; refine (unhide HFD _).mono ?_; rintro e W1 ⟨vf, rfl, hOf, hBf⟩)
      have hvf : ∃ af cf, vf = .slice af (Fld.fieldsOf ln).length cf ∧ (Fld.fieldsOf ln).length ≤ cf := by
        obtain ⟨_, ⟨rfl, h0⟩ | ⟨g, cap, cur, rfl, _, _, hc, _⟩⟩ := hOf
        · exact ⟨none, 0, by rw [h0], by omega⟩
        · exact ⟨_, cap, rfl, hc⟩
      obtain ⟨af, cf, rfl, hcf⟩ := hvf
      have hkk := Rw.keep_le (Fld.fieldsOf ln)
      have HLT := hide (Rw.keep_lt_of (Fld.fieldsOf ln))
      have HEND := hide (Rw.keep_end (Fld.fieldsOf ln))
      have HKT := hide (Rw.keep_take (Fld.fieldsOf ln))
      have HRW : Hid (Rw.rowOf (k + 1) ln = if (Rw.keep (Fld.fieldsOf ln)).isEmpty then [] else [(k + 1, Rw.keep (Fld.fieldsOf ln))]) := rfl
      have HOF := hide hOf
      generalize Fld.fieldsOf ln = fs at *
      generalize hfz : fs.length = fz at *
      have HFZ := hide hfz
      generalize hkz : (Rw.keep fs).length = kz at *
      have HKZ := hide hkz
      obtain ⟨w2, rfl⟩ : ∃ w2, w2 = wr := ⟨wr, rfl⟩
      clear hfz hkz hOf
      go_wp2
      go_loopw [7, 9] (fun kept j wr => ∃ q : Nat, q ≤ kz ∧ j = .int .i64 q ∧ wr.ownsRow W1.heap.size 9 1 kept q (vals (fs.take q)) ∧ Below W1.heap.size W1 wr) (fun _ j _ => fz - (intOf j).toNat)
      case atStart => exact ⟨0, Nat.zero_le _, rfl, World.ownsRow_nil _ _ _ _, Below.refl _ _⟩
      case round =>
        obtain ⟨q, hq, rfl, hOk, hBk⟩ := hrel
        by_cases hqz : q < fz
        · obtain ⟨f, hf⟩ : ∃ f, fs[q]? = some f := ⟨_, List.getElem?_eq_getElem (by rw [unhide HFZ]; exact hqz)⟩
          have hOf := unhide HOF
          rw [← unhide HFZ] at hOf
          obtain ⟨gf, cf2, e2, _, _, hgf, hcell⟩ := strs_cell hOf (by rw [unhide HFZ]; omega)
          injection e2 with e3 e4 e5
          subst e3
          subst e5
          have hcq : wr.cell? ⟨gf, q, none⟩ = some (.string (Fld.str f)) := (hBk.cell (p := ⟨gf, q, none⟩) hgf).trans (hcell q f hf)
          obtain ⟨c, t, hct⟩ : ∃ c t, f = c :: t := by
            cases f with
            | nil => exact absurd rfl (unhide HNE [] (List.mem_of_getElem? hf))
            | cons c t => exact ⟨c, t, rfl⟩
          have hF0 : 0 < (Fld.str f).size := by subst hct; show 0 < (c :: t).toArray.size; simp
          have hFc : (Fld.str f)[0]'hF0 = c := by subst hct; rfl
          have hrm := Rw.rem_head f c t hct
          cases hr : Rw.rem f with
          | false =>
            have hq2 := unhide HLT q hq f hf hr
            have hcb : ((((Fld.str f)[0]'hF0).toNat : Int) != 35) = true := by
              rw [hFc]
              have hc35 : ¬ c = 35 := by rw [hr] at hrm; simpa using hrm.symm
              rw [bne, show ((c.toNat : Int) == 35) = false from Ln.byte_ne _ 35 hc35]
              rfl
            have HTK : Hid (fs.take (q + 1) = fs.take q ++ [f]) := by
              show fs.take (q + 1) = fs.take q ++ [f]
              have hl : q < fs.length := by rw [unhide HFZ]; exact hqz
              rw [List.take_succ_eq_append_getElem hl]
              rw [List.getElem?_eq_getElem hl] at hf
              rw [Option.some.inj hf]
            generalize hFF : Fld.str f = F at *
            have HFF := hide hFF
            clear hFF hFc hrm hr hct hcell hOf e4 hf
            have hq64 : q ≤ 65536 := by omega
            go_wp2_with (at_builtin; refine wpList_append_own _ rfl _ _ 38 rfl W1.heap.size 9 i9 (.string ByteArray.empty) 1 16 Tryd.underlying38 hi9 hz90 hz91 hz92 rfl (by decide) _ _ _ rfl (hOk.alloc _) ⟨wr.heap.size, 0, none⟩ 1 1 [.string F] rfl rfl (cell_one_new _ _ _) (fun x hx => by simp at hx; subst hx; rfl) (by unfold maxLen; omega) (by omega) (by have := hBk.size; simp; omega) ?_; intro v' w1 hown' hgrow hnil; clear hnil)
            have HB1 : Hid (Below W1.heap.size W1 w1) := (hBk.alloc hBk.size _).grown hgrow (by have := hBk.size; simp; omega) (fun k e => (hOk.lt k e).1)
            have HO1 : Hid (w1.ownsRow W1.heap.size 9 1 v' (q + 1) (vals (fs.take (q + 1)))) := by
              show w1.ownsRow W1.heap.size 9 1 v' (q + 1) (vals (fs.take (q + 1)))
              rw [unhide HTK, vals_snoc, unhide HFF]
              exact hown'
            clear hown' hgrow hOk hBk
            go_roundw
            case rel => exact ⟨q + 1, by omega, by go_num, unhide HO1, unhide HB1⟩
            case measure => simp [intOf]; omega
          | true =>
            have hqk := unhide HEND q hq f hf hr
            have hcb : ((((Fld.str f)[0]'hF0).toNat : Int) != 35) = false := by
              rw [hFc]
              have hc35 : c = 35 := by rw [hr] at hrm; simpa using hrm.symm
              rw [bne, show ((c.toNat : Int) == 35) = true from Ln.byte_eq _ 35 hc35]
              rfl
            generalize Fld.str f = F at *
            clear hFc hrm hr hct hcell hOf e4 hf
            have hBw : Below w2.heap.size w2 wr := hBf.trans (hBk.mono hBf.size)
            have HQK := hide hqk
            clear hqk
            have hO1 := Same.owns_below hO hBw
            have HKE : Hid (fs.take q = Rw.keep fs) := by show fs.take q = Rw.keep fs; rw [unhide HKT, unhide HQK]
            obtain ⟨ak, ck, rfl⟩ : ∃ ak ck, u7 = .slice ak q ck := by
              obtain ⟨_, ⟨rfl, h0⟩ | ⟨g, cap, cur, rfl, _⟩⟩ := hOk
              · exact ⟨none, 0, by rw [h0]⟩
              · exact ⟨_, cap, rfl⟩
            by_cases hk0 : q = 0
            · have HRE : Hid (Rw.rowsP ((Ln.num 1 L).take (k + 1)) = Rw.rowsP ((Ln.num 1 L).take k)) := by
                show Rw.rowsP ((Ln.num 1 L).take (k + 1)) = Rw.rowsP ((Ln.num 1 L).take k)
                have : Rw.keep fs = [] := List.eq_nil_of_length_eq_zero (by rw [unhide HKZ]; have := unhide HQK; omega)
                rw [unhide HRS, unhide HRW, this]
                simp
              subst hk0
              rw [show ((0 : Nat) : Int) = 0 from rfl]
              go_wp2
              go_roundw
              case rel => exact ⟨k + 1, by omega, by go_num, by rw [unhide HRE]; exact RowsAre.below ⟨E, hF, hO, hN⟩ hBw, hB.trans (hBw.mono hB.size)⟩
              case measure => simp [intOf]; omega
            · have HRE : Hid (Rw.rowsP ((Ln.num 1 L).take (k + 1)) = Rw.rowsP ((Ln.num 1 L).take k) ++ [(k + 1, Rw.keep fs)]) := by
                show Rw.rowsP ((Ln.num 1 L).take (k + 1)) = Rw.rowsP ((Ln.num 1 L).take k) ++ [(k + 1, Rw.keep fs)]
                have hne : ¬ (Rw.keep fs).isEmpty = true := by
                  intro h
                  have : Rw.keep fs = [] := by simpa using h
                  have h2 := unhide HKZ
                  have h3 := unhide HQK
                  rw [this] at h2
                  simp at h2
                  omega
                rw [unhide HRS, unhide HRW, if_neg hne]
              have hkpos : 0 < q := by omega
              have hSR : StrRow w2.heap.size wr (.slice ak q ck) ((Rw.keep fs).map Fld.str) := by
                have h1 : wr.ownsRow W1.heap.size 9 1 (.slice ak q ck) (Rw.keep fs).length (vals (Rw.keep fs)) := by
                  rw [unhide HKZ, ← unhide HQK, ← unhide HKE]; exact hOk
                exact (strRow_of_owns h1 (fun e => by have h2 := unhide HKZ; have h3 := unhide HQK; rw [e] at h2; simp at h2; omega)).mono hBf.size
              have HPU := hide (fun (v' : Value) (w1 : World) (o : Obj) => @rows_push2 wl.heap.size 57 w2 wr w1 u4 v' _ _ E (k + 1) _ o (by decide) (by decide) hBw hF hO1 hN hSR hB.size)
              clear hSR hk0 hOk
              go_wp2_with (at_builtin; refine wpList_append_own _ rfl _ _ 53 rfl wl.heap.size 57 i0 (.agg #[.int .i64 0, .slice none 0 0]) 2 32 Tryd.underlying53 hi hz0 hz1 hz2 rfl (by decide) _ _ _ rfl (hO1.alloc _) ⟨wr.heap.size, 0, none⟩ 1 1 [.int .i64 ((k : Int) + 1), .slice ak q ck] rfl rfl (cell_two_new _ _ _ _) (by simp [Value.oneCell']) (by unfold maxLen; omega) (by omega) (by have := hB.size; have := hBw.size; simp; omega) ?_; intro v' w1 hown' hgrow hnil; clear hnil)
              obtain ⟨hra, hba⟩ := unhide HPU _ _ _ hown' hgrow
              have HRA := hide hra
              have HBA := hide hba
              clear hra hba hown' hgrow
              go_wp2
              go_roundw
              case rel => exact ⟨k + 1, by omega, by go_num, by rw [unhide HRE]; exact unhide HRA, hB.trans (unhide HBA)⟩
              case measure => simp [intOf]; omega
        · have hqk : q = kz := by omega
          have hnq : ¬ ((q : Int) < (fz : Int)) := by omega
          have hBw : Below w2.heap.size w2 wr := hBf.trans (hBk.mono hBf.size)
          have HQK := hide hqk
          clear hqk
          have hO1 := Same.owns_below hO hBw
          have HKE : Hid (fs.take q = Rw.keep fs) := by show fs.take q = Rw.keep fs; rw [unhide HKT, unhide HQK]
          obtain ⟨ak, ck, rfl⟩ : ∃ ak ck, u7 = .slice ak q ck := by
            obtain ⟨_, ⟨rfl, h0⟩ | ⟨g, cap, cur, rfl, _⟩⟩ := hOk
            · exact ⟨none, 0, by rw [h0]⟩
            · exact ⟨_, cap, rfl⟩
          by_cases hk0 : q = 0
          · have HRE : Hid (Rw.rowsP ((Ln.num 1 L).take (k + 1)) = Rw.rowsP ((Ln.num 1 L).take k)) := by
              show Rw.rowsP ((Ln.num 1 L).take (k + 1)) = Rw.rowsP ((Ln.num 1 L).take k)
              have : Rw.keep fs = [] := List.eq_nil_of_length_eq_zero (by rw [unhide HKZ]; have := unhide HQK; omega)
              rw [unhide HRS, unhide HRW, this]
              simp
            subst hk0
            rw [show ((0 : Nat) : Int) = 0 from rfl]
            go_wp2
            go_roundw
            case rel => exact ⟨k + 1, by omega, by go_num, by rw [unhide HRE]; exact RowsAre.below ⟨E, hF, hO, hN⟩ hBw, hB.trans (hBw.mono hB.size)⟩
            case measure => simp [intOf]; omega
          · have HRE : Hid (Rw.rowsP ((Ln.num 1 L).take (k + 1)) = Rw.rowsP ((Ln.num 1 L).take k) ++ [(k + 1, Rw.keep fs)]) := by
              show Rw.rowsP ((Ln.num 1 L).take (k + 1)) = Rw.rowsP ((Ln.num 1 L).take k) ++ [(k + 1, Rw.keep fs)]
              have hne : ¬ (Rw.keep fs).isEmpty = true := by
                intro h
                have : Rw.keep fs = [] := by simpa using h
                have h2 := unhide HKZ
                have h3 := unhide HQK
                rw [this] at h2
                simp at h2
                omega
              rw [unhide HRS, unhide HRW, if_neg hne]
            have hkpos : 0 < q := by omega
            have hSR : StrRow w2.heap.size wr (.slice ak q ck) ((Rw.keep fs).map Fld.str) := by
              have h1 : wr.ownsRow W1.heap.size 9 1 (.slice ak q ck) (Rw.keep fs).length (vals (Rw.keep fs)) := by
                rw [unhide HKZ, ← unhide HQK, ← unhide HKE]; exact hOk
              exact (strRow_of_owns h1 (fun e => by have h2 := unhide HKZ; have h3 := unhide HQK; rw [e] at h2; simp at h2; omega)).mono hBf.size
            have HPU := hide (fun (v' : Value) (w1 : World) (o : Obj) => @rows_push2 wl.heap.size 57 w2 wr w1 u4 v' _ _ E (k + 1) _ o (by decide) (by decide) hBw hF hO1 hN hSR hB.size)
            clear hSR hk0 hOk
            go_wp2_with (at_builtin; refine wpList_append_own _ rfl _ _ 53 rfl wl.heap.size 57 i0 (.agg #[.int .i64 0, .slice none 0 0]) 2 32 Tryd.underlying53 hi hz0 hz1 hz2 rfl (by decide) _ _ _ rfl (hO1.alloc _) ⟨wr.heap.size, 0, none⟩ 1 1 [.int .i64 ((k : Int) + 1), .slice ak q ck] rfl rfl (cell_two_new _ _ _ _) (by simp [Value.oneCell']) (by unfold maxLen; omega) (by omega) (by have := hB.size; have := hBw.size; simp; omega) ?_; intro v' w1 hown' hgrow hnil; clear hnil)
            obtain ⟨hra, hba⟩ := unhide HPU _ _ _ hown' hgrow
            have HRA := hide hra
            have HBA := hide hba
            clear hra hba hown' hgrow
            go_wp2
            go_roundw
            case rel => exact ⟨k + 1, by omega, by go_num, by rw [unhide HRE]; exact unhide HRA, hB.trans (unhide HBA)⟩
            case measure => simp [intOf]; omega
    · have hnl : ¬ ((k : Int) < (z : Int)) := by omega
      have HFU : Hid ((Ln.num 1 L).take k = Ln.num 1 L) := List.take_of_length_le (by rw [Ln.num_length, unhide HZ]; omega)
      go_wp2
      go_ret2
      exact ⟨_, rfl, ⟨E, by rw [unhide HRO, ← unhide HFU]; exact hF.low (unhide HBL).size, owns_low hO (unhide HBL).size, hN⟩, (unhide HBL).trans (hB.mono (unhide HBL).size)⟩
end RowR
end Go.Proofs.YtgmakjpicdgmgabDoor
