/- CondJoins of layer 4 returns true for every list of texts within the second form's bound: Join answers the items of all patterns in their order, or too many, and what was joined is as before. -/
import Derived.Test.YtgaagbjbolfbjabJoM
import Derived.Test.YtgaagbjbolfbjabArgC
import Derived.Test.YtgaagbjbolfbjabRwW
import Derived.Test.YtgaagbjbolfbjabQbW
import Derived.Test.YtgaagbjbolfbjabSwP
import Derived.Test.YtgaagbjbolfbjabRows
import Derived.WalkKit
import Derived.Deep.Cut
import Derived.Deep.CutRange
import Derived.ProofKit
import Derived.OpenShut
import Derived.Deep.DeepHandedRow
import Derived.Lib.LaidTab
namespace Go.Proofs.Ytgaagbjbolfbjab.condJoins
open Go.ChangeShapes Go.WideShapes Go.ChangeAt Go.RowKit
open Go.ChangeMaps (open_string shut_string)

theorem own : ownKnob Try.prog.godebug = none := by kernel_rfl

open Pt Cd ArgB
theorem _root_.Go.Proofs.Ytgaagbjbolfbjab.ArgB.bulk_strs {H : Type} (L : List ByteArray) : L.length ≤ Rows.uptoBulkAll (H := H) (L.map datS) := by
  induction L with
  | nil => exact Nat.zero_le _
  | cons x t ih =>
    simp only [List.map_cons, Rows.uptoBulkAll, datS, Rows.uptoBulk, List.length_cons]
    omega
theorem _root_.Go.Proofs.Ytgaagbjbolfbjab.ArgB.bulk_arg {H : Type} {d : DataW H} {L S : List ByteArray} (hd : (d = .nil ∧ L = []) ∨ d = .slice (L.map datS) (S.map datS)) : L.length ≤ Rows.uptoBulk d := by
  rcases hd with ⟨_, rfl⟩ | rfl
  · exact Nat.zero_le _
  · have := ArgB.bulk_strs (H := H) L
    simp only [Rows.uptoBulk]
    omega
attribute [local go_sem ↓] Pt.load_as Pt.bs1_as
attribute [local go_sem] Pt.ldP_new Pt.ldP_drew
theorem own_cells {W : World} {B : Nat} {e : TypeId} {g n cap : Nat} {xs : List Value} (h : W.ownsRow B e 1 (.slice (some ⟨g, 0, none⟩) n cap) n xs) : ∀ j u, xs[j]? = some u → W.cell? ((⟨g, 0, none⟩ : Addr).add j) = some u := by
  obtain ⟨_, ⟨e1, _⟩ | ⟨g', cap', cur, e1, _, hg, _, _, _, hx⟩⟩ := h
  · cases e1
  · injection e1 with e1 _ _
    injection e1 with e1
    injection e1 with e1 _ _
    subst e1
    intro j u hu
    rw [add_off, cell_of_row _ _ j _ _ (0, 0) hg]
    rw [← hx, List.getElem?_take] at hu
    split at hu
    · rw [← Array.getElem?_toList]; exact hu
    · cases hu
theorem quiet_ldo {o : Oper} {a : Act} {C : World → Prop} {K : Act → Prop} (x : Operand) (ho : o.op = .load 31 x) (g off : Nat) (hx : a.eval x = .pointer (some ⟨g, off, none⟩)) (X : Array Value) (hX : Sz65 X) (hC : ∀ W, C W → ∀ i u, X[i]? = some u → W.cell? ⟨g, off + i, none⟩ = some u) (hk : K (a.put o.dst (.agg X))) : o.quiet Try.prog a C K := by
  refine ⟨.agg X, fun W hW => ?_, hk⟩
  have hl := ldP_at (hC W hW) hX
  unfold ldP at hl
  unfold Oper.quietAt execOp
  simp only [ho, hx, Sem.run_bind, Sem.run_pure, Result.andThen_ok, hl]
  exact ⟨rfl, rfl⟩
theorem drew_below {w W w2 : World} (h : Below w.heap.size w W) (h2 : Below W.drew.heap.size W.drew w2) : Below w.heap.size w w2 := h.drew.trans (h2.mono h.size)
set_option maxHeartbeats 4000000 in
set_option maxRecDepth 100000 in
theorem walk (v0 : Value) (L : List ByteArray) (w : World) (h0 : ArgOf Value.string w v0 L) (hn : L.length ≤ 1048576) :
    Calls Try.prog 3 #[v0] w fun e w' => e = .returned (.bool true) ∧ Below w.heap.size w w' := by
  obtain ⟨ip, hip, hpz0, hpz1, hpz2⟩ := info_parts infoPz
  obtain ⟨it, hit, htz0, htz1, htz2⟩ := info_parts infoTx
  have HZ65 : Hid ((Value.agg (patC [])).cells.size = 65) := patC_size [] (by decide)
  have hz := zero_pat
  obtain ⟨a0, c0, rfl, hc0, hl0, H0'⟩ := h0
  have HC := hide H0'
  clear H0' hl0
  generalize hnn : L.length = n at *
  have HN := hide hnn
  clear hnn
  have hnz : (n : Int) ≤ 1048576 := by omega
  generalize hZZ : patC [] = Z at *
  have HZZ := hide hZZ
  clear hZZ
  go_enter Try.func3, Try.ntmps3
  go_wp2_with fail
  refine (wakes_any _).mono ?_
  rintro e w1 ⟨rfl, hb1⟩
  have HB1 := hide hb1
  clear hb1
  go_wp2
  go_loopg [3, 4, 21] n (fun kk s3 s4 s21 wr => ∃ (k : Nat) (u v : Value), u = s3 ∧ v = s4 ∧ s21 = .int .i64 k ∧ k ≤ n ∧ n - k ≤ kk ∧ Hid (wr.ownsRow w.heap.size 31 65 u k (rowsC (fsOf (L.take k)))) ∧ Hid (RefP w.heap.size wr v (psOf (L.take k))) ∧ Hid (Below w.heap.size w wr))
  case atStart => exact ⟨0, _, _, rfl, rfl, rfl, by omega, by omega, World.ownsRow_nil _ _ _ _, refP_nil _ _, unhide HB1⟩
  case round =>
    obtain ⟨k, u, v, rfl, rfl, rfl, hk, hkk, HU, HV, HB⟩ := hrel
    by_cases hlt : k < n
    · have hltz : (k : Int) < (n : Int) := by omega
      obtain ⟨x, hx⟩ : ∃ x, L[k]? = some x := ⟨_, List.getElem?_eq_getElem (by rw [unhide HN]; exact hlt)⟩
      obtain ⟨g, off, rfl, hgl, hcc⟩ := unhide HC (by omega)
      have hcx : wr.cell? ⟨g, off + k, none⟩ = some (.string x) := ((unhide HB).cell (p := ⟨g, off + k, none⟩) hgl).trans (hcc k x hx)
      have HRD : Hid (∀ W, Calls Try.prog 7 #[.string x] W fun e w' => e = .returned (.tuple #[.agg (patC (rdP x.data.toList)), .int .i64 ((rd x.data.toList).2 : Nat)]) ∧ Below W.heap.size W w') := fun W => read_any x W
      have HRF := hide (fun W => refRead_any x W)
      have hX := sz_pat x.data.toList
      have hstX := fun W => store_new W _ hX (patC_one (rdP x.data.toList))
      rw [unhide HZZ] at hstX
      have hbs := fun W => bs1_run _ hX W
      have HX1 : Hid (∀ u ∈ (patC (rdP x.data.toList)).toList, u.oneCell' = true) := fun u hu => by
        have := Array.all_eq_true'.1 (patC_one (rdP x.data.toList)) u (Array.mem_toList_iff.1 hu)
        exact this
      have HXL : Hid ((patC (rdP x.data.toList)).toList.length = 1 * 65) := by rw [Array.length_toList]; exact hX
      have HXN : Hid (∀ W : World, ∀ j u, (patC (rdP x.data.toList)).toList[j]? = some u → (W.alloc (.cells (patC (rdP x.data.toList)) 31)).cell? ((⟨W.heap.size, 0, none⟩ : Addr).add j) = some u) := fun W => new_cells W _ _
      have HSF : Hid (rowsC (fsOf (L.take (k + 1))) = rowsC (fsOf (L.take k)) ++ (patC (rdP x.data.toList)).toList) := hide (by rw [take_txts hx, fsOf_snoc, rowsC_snoc])
      have HSP : Hid (psOf (L.take (k + 1)) = psOf (L.take k) ++ (rd x.data.toList).1) := hide (by rw [take_txts hx, psOf_snoc])
      have hq16 := rd_len x.data.toList
      have hpl : (psOf (L.take k)).length ≤ 16 * 1048576 := by have := psOf_len (L.take k); rw [List.length_take] at this; omega
      have HQ1 : Hid (∀ u ∈ txt (rd x.data.toList).1, u.oneCell' = true) := fun u hu => by
        obtain ⟨p, _, rfl⟩ := List.mem_map.1 hu
        rfl
      have HQL : Hid ((txt (rd x.data.toList).1).length = (rd x.data.toList).1.length * 1) := hide (by simp [txt])
      generalize patC (rdP x.data.toList) = X at *
      generalize (rd x.data.toList).2 = E at *
      generalize (rd x.data.toList).1 = Q at *
      generalize hPK : psOf (L.take k) = PK at *
      have HPK := hide hPK
      clear hPK hcc hx
      go_wp2_with fail
      refine (unhide HRD _).mono ?_
      rintro e w2 ⟨rfl, hb2⟩
      have HU2 := hide (own_below (unhide HU) hb2)
      have HV2 := hide (own_below (unhide HV) hb2)
      have HB2 := hide ((unhide HB).trans (hb2.mono (unhide HB).size))
      clear hb2 HU HV HB
      go_wp2_with fail
      refine (unhide HRF _).mono ?_
      rintro e w3 ⟨q, rfl, hp3, hb3⟩
      have HU3 := hide (own_below ((unhide HU2).alloc (.cells X 31)) hb3)
      have HV3 := hide (own_below ((unhide HV2).alloc (.cells X 31)) hb3)
      have HG3 := hide (keep_pat (heap_alloc_last w2 (.cells X 31)) hb3)
      have HB3 : Hid (Below w.heap.size w w3) := hide (by
        have b1 := unhide HB2
        exact (b1.alloc b1.size (.cells X 31)).trans (hb3.mono (by have := b1.size; simp; omega)))
      have HS3 : Hid (w.heap.size ≤ w3.heap.size) := (unhide HB3).size
      have HQ3 := hide hp3
      have hld := ldP_row (unhide HG3) hX
      have hqf : (q = .slice none 0 0 ∧ Q = []) ∨ ∃ gq cq, q = .slice (some ⟨gq, 0, none⟩) Q.length cq := by
        obtain ⟨_, ⟨e1, e2⟩ | ⟨g', cap', cur, e1, _⟩⟩ := hp3
        · exact .inl ⟨e1, List.length_eq_zero_iff.1 e2⟩
        · exact .inr ⟨_, _, e1⟩
      clear hb3 hp3 HU2 HV2 HB2 HG3
      rcases hqf with ⟨rfl, hQ⟩ | ⟨gq, cq, rfl⟩
      · have HQE := hide hQ
        clear hQ
        go_wp2_with (first | (at_builtin; refine wpList_append_own _ rfl _ _ 24 rfl w.heap.size 31 ip (.agg Z) 65 520 Try.underlying24 hip hpz0 hpz1 hpz2 (unhide HZ65) (by decide) _ _ _ rfl ((unhide HU3).alloc _) ⟨w3.heap.size, 0, none⟩ 1 1 X.toList rfl (unhide HXL) (unhide HXN w3) (unhide HX1) (by unfold maxLen; omega) (by omega) (by have h1 := unhide HS3; simp; omega) ?_; intro u4 w4 hown4 hgrow4 hnil4; clear hnil4; obtain ⟨a4, c4, rfl⟩ := owns_slice hown4; have HU4 := hide hown4; have HV4 := hide (own_apart ((unhide HV3).alloc (.cells X 31)) ((unhide HU3).alloc (.cells X 31)) (by decide) hgrow4); have HQ4 := hide (own_apart ((unhide HQ3).alloc (.cells X 31)) ((unhide HU3).alloc (.cells X 31)) (by decide) hgrow4); have HB4 := hide ((unhide HB3).trans (push_one (unhide HS3) (unhide HU3) hgrow4)); have HS4 : Hid (w.heap.size ≤ w4.heap.size) := (unhide HB4).size; clear hown4 hgrow4) | (at_builtin; refine wpList_append_own_none rfl _ _ 25 rfl w.heap.size 51 it 1 Try.underlying25 hit _ _ _ rfl (unhide HV4) rfl ?_))
        go_roundg (n - (k + 1))
        case rel => exact ⟨k + 1, _, _, rfl, rfl, by go_num, by omega, by omega, hide (by rw [unhide HSF]; exact unhide HU4), hide (by rw [unhide HSP, unhide HQE, List.append_nil]; exact unhide HV4), unhide HB4⟩
        case measure => omega
      · go_wp2_with (first | (at_builtin; refine wpList_append_own _ rfl _ _ 24 rfl w.heap.size 31 ip (.agg Z) 65 520 Try.underlying24 hip hpz0 hpz1 hpz2 (unhide HZ65) (by decide) _ _ _ rfl ((unhide HU3).alloc _) ⟨w3.heap.size, 0, none⟩ 1 1 X.toList rfl (unhide HXL) (unhide HXN w3) (unhide HX1) (by unfold maxLen; omega) (by omega) (by have h1 := unhide HS3; simp; omega) ?_; intro u4 w4 hown4 hgrow4 hnil4; clear hnil4; obtain ⟨a4, c4, rfl⟩ := owns_slice hown4; have HU4 := hide hown4; have HV4 := hide (own_apart ((unhide HV3).alloc (.cells X 31)) ((unhide HU3).alloc (.cells X 31)) (by decide) hgrow4); have HQ4 := hide (own_apart ((unhide HQ3).alloc (.cells X 31)) ((unhide HU3).alloc (.cells X 31)) (by decide) hgrow4); have HB4 := hide ((unhide HB3).trans (push_one (unhide HS3) (unhide HU3) hgrow4)); have HS4 : Hid (w.heap.size ≤ w4.heap.size) := (unhide HB4).size; clear hown4 hgrow4) | (at_builtin; refine wpList_append_own _ rfl _ _ 25 rfl w.heap.size 51 it (.agg #[.string ByteArray.empty]) 1 16 Try.underlying25 hit htz0 htz1 htz2 rfl (by decide) _ _ _ rfl (unhide HV4) ⟨gq, 0, none⟩ Q.length cq (txt Q) rfl (unhide HQL) (own_cells (unhide HQ4)) (unhide HQ1) (by unfold maxLen; omega) (by omega) (unhide HS4) ?_; intro v5 w5 hown5 hgrow5 hnil5; clear hnil5; obtain ⟨a5, c5, rfl⟩ := owns_slice hown5; have HV5 := hide hown5; have HU5 := hide (own_apart (unhide HU4) (unhide HV4) (by decide) hgrow5); have HB5 := hide ((unhide HB4).grown hgrow5 (unhide HS4) (fun k e => ((unhide HV4).lt k e).1)); clear hown5 hgrow5))
        go_roundg (n - (k + 1))
        case rel => exact ⟨k + 1, _, _, rfl, rfl, by go_num, by omega, by omega, hide (by rw [unhide HSF]; exact unhide HU5), hide (by rw [unhide HSP, RefP, List.length_append, txt_app]; exact unhide HV5), unhide HB5⟩
        case measure => omega
    · have hltz : ¬ (k : Int) < (n : Int) := by omega
      obtain rfl : n = k := by omega
      have HFu : Hid (L.take n = L) := hide (by rw [List.take_of_length_le (by rw [unhide HN]; exact Nat.le_refl _)])
      have HPA : Hid (PatsAt wr u (fsOf L)) := hide (pats_own (fsOf_16 L) (B := w.heap.size) (by
        have h := unhide HU
        rw [unhide HFu] at h
        have e : (fsOf L).length = n := by unfold fsOf; rw [List.length_map]; exact unhide HN
        rw [e]; exact h))
      have HVA : Hid (TextsAt wr v (psOf L)) := hide (by have h := unhide HV; rw [unhide HFu] at h; exact RefP.at h)
      obtain ⟨au, cu, rfl⟩ := owns_slice (unhide HU)
      obtain ⟨av, cv, rfl⟩ := texts_slice' (unhide HVA)
      have HJ : Hid (∀ W, PatsAt W (.slice au n cu) (fsOf L) → Calls Try.prog 9 #[.slice au n cu] W fun e w' => e = .returned (joV (fsOf L).flatten) ∧ Below W.heap.size W w') := fun W h => join_any _ _ W (fsOf_16 L) h (by unfold fsOf; rw [List.length_map, unhide HN]; omega)
      have HCA : Hid (∃ fs e, joV (fsOf L).flatten = .tuple #[.agg (patC fs), .int .i64 e] ∧ fs.length ≤ 16 ∧ ((16 < (psOf L).length ∧ e = 42 ∧ fs = []) ∨ ((psOf L).length ≤ 16 ∧ e = 0 ∧ fs = (psOf L).map adm))) := by
        have e1 : (fsOf L).flatten.length = (psOf L).length := by rw [← psOf_fs, List.length_map]
        by_cases h : 16 < (psOf L).length
        · exact ⟨[], 42, by rw [joV, if_pos (by omega)], by simp, .inl ⟨h, rfl, rfl⟩⟩
        · exact ⟨(fsOf L).flatten, 0, by rw [joV, if_neg (by omega)], by omega, .inr ⟨by omega, rfl, (psOf_fs L).symm⟩⟩
      obtain ⟨fs, ee, hjv, hf16, hca⟩ := unhide HCA
      rw [hjv] at HJ
      have HCB := hide hca
      have HLN := hide (fun W => len_any fs W)
      have HSH := hide (fun W => patShow_any fs W hf16)
      have hX := patC_size fs hf16
      change Sz65 _ at hX
      have hstX := fun W => store_new W _ hX (patC_one fs)
      rw [unhide HZZ] at hstX
      have HPCS := hide (psOf_pcs L)
      generalize hXX : patC fs = A at *
      clear hXX hjv hca HCA HU HV
      go_wp2_with fail
      refine (unhide HJ _ (unhide HPA)).mono ?_
      rintro e w4 ⟨rfl, hb4⟩
      have HPA4 := hide (((unhide HPA).below hb4).below ((Below.refl w4.heap.size w4).alloc (Nat.le_refl _) (.cells A 31)))
      have HVA4 := hide (((unhide HVA).below hb4).below ((Below.refl w4.heap.size w4).alloc (Nat.le_refl _) (.cells A 31)))
      have HG5 := hide (heap_alloc_last w4 (.cells A 31))
      have HB5 : Hid (Below w.heap.size w (w4.alloc (.cells A 31))) := hide (by have b := (unhide HB).trans (hb4.mono (unhide HB).size); exact b.alloc b.size _)
      clear HPA HVA HB hb4
      have HPA := HPA4
      clear HPA4
      go_wp2
      generalize hW5 : w4.alloc (.cells A 31) = w5 at *
      generalize w4.heap.size = ga at *
      clear hW5
      obtain ⟨wq, hwq⟩ : ∃ V, V = wr := ⟨_, rfl⟩
      subst hwq
      go_loopg [50] n (fun kk s50 wr => ∃ j : Nat, s50 = .int .i64 j ∧ j ≤ n ∧ n - j ≤ kk ∧ Hid (Below w5.heap.size w5 wr))
      case atStart => exact ⟨0, rfl, by omega, by omega, Below.refl _ _⟩
      case round =>
        obtain ⟨j, rfl, hj, hjj, HB6⟩ := hrel
        have HPr := hide ((unhide HPA).below (unhide HB6))
        by_cases hjl : j < n
        · have hjz : (j : Int) < (n : Int) := by omega
          obtain ⟨x, hx⟩ : ∃ x, L[j]? = some x := ⟨_, List.getElem?_eq_getElem (by rw [unhide HN]; exact hjl)⟩
          obtain ⟨g, off, rfl, hgl, hcc⟩ := unhide HC (by omega)
          have hcx : wr.cell? ⟨g, off + j, none⟩ = some (.string x) := (((unhide HB5).trans ((unhide HB6).mono (unhide HB5).size)).cell (p := ⟨g, off + j, none⟩) hgl).trans (hcc j x hx)
          have HRF := hide (fun W => refRead_any x W)
          have HSX : Hid (∀ W, Calls Try.prog 10 #[.agg (patC (rdP x.data.toList))] W fun e w' => e = .returned (.string (str (sws (rd x.data.toList).1))) ∧ Below W.heap.size W w') := fun W => by
            have := patShow_any (rdP x.data.toList) W (rdP_len _)
            rw [rdP, swsF_sws] at this
            exact this
          have HSR : Hid (∀ v W, TextsAt W v (rd x.data.toList).1 → Calls Try.prog 11 #[v] W fun e w' => e = .returned (.string (str (sws (rd x.data.toList).1))) ∧ Below W.heap.size W w') := fun v W h => refShow_any _ v W (rd_pcs _) (rd_len _) h
          obtain ⟨gp, hau, hgpl, hpc⟩ : ∃ gp, au = some ⟨gp, 0, none⟩ ∧ gp < wr.heap.size ∧ ∀ i u, (patC (rdP x.data.toList))[i]? = some u → wr.cell? ⟨gp, j * 65 + i, none⟩ = some u := by
            obtain ⟨a', cap', e, h⟩ := unhide HPr
            injection e with e1 _ _
            have hfx : (fsOf L)[j]? = some (rdP x.data.toList) := by unfold fsOf; rw [List.getElem?_map, hx]; rfl
            obtain ⟨gp, h1, h2, h3⟩ := h (by have := (List.getElem?_eq_some_iff.1 hfx).1; omega)
            exact ⟨gp, e1.trans h1, h2, h3 j _ hfx⟩
          subst hau
          have hX := sz_pat x.data.toList
          have HPC := hide hpc
          generalize str (sws (rd x.data.toList).1) = TX at *
          generalize patC (rdP x.data.toList) = X at *
          generalize (rd x.data.toList).2 = E at *
          generalize (rd x.data.toList).1 = Q at *
          have htt : (TX.toList == TX.toList) = true := by simp
          clear hcc hx hpc
          go_wp2_with fail
          refine (unhide HRF _).mono ?_
          rintro e w7 ⟨q, rfl, hp7, hb7⟩
          have HT7 := hide hp7.at
          have HB7 := hide ((unhide HB6).trans (hb7.mono (unhide HB6).size))
          have HPC7 : Hid (∀ W, Below w7.heap.size w7 W → ∀ i u, X[i]? = some u → W.cell? ⟨gp, j * 65 + i, none⟩ = some u) := fun W hW i u hu => by
            have h1 := unhide HPC i u hu
            rw [← hb7.cell (p := ⟨gp, j * 65 + i, none⟩) hgpl] at h1
            exact (hW.cell (p := ⟨gp, j * 65 + i, none⟩) (Nat.lt_of_lt_of_le hgpl hb7.size)).trans h1
          clear hp7 hb7 HPr HPC HB6
          have hld7 := ldP_at (fun i u hu => unhide HPC7 w7 (Below.refl _ _) i u hu) hX
          go_wp2_with fail
          refine (unhide HSX _).mono ?_
          rintro e w8 ⟨rfl, hb8⟩
          have HT8 := hide ((unhide HT7).below hb8)
          have HB8 := hide ((unhide HB7).trans (hb8.mono (unhide HB7).size))
          clear hb8 hld7 HT7 HB7 HPC7
          go_wp2_with fail
          refine (unhide HSR _ _ (unhide HT8)).mono ?_
          rintro e w9 ⟨rfl, hb9⟩
          have HB9 := hide ((unhide HB8).trans (hb9.mono (unhide HB8).size))
          clear hb9 HT8 HB8
          go_wp2
          go_roundg (n - (j + 1))
          case rel => exact ⟨j + 1, by go_num, by omega, by omega, unhide HB9⟩
          case measure => omega
        · have hjz : ¬ (j : Int) < (n : Int) := by omega
          have HVr := hide ((unhide HVA4).below (unhide HB6))
          have HGr := hide (keep_pat (unhide HG5) (unhide HB6))
          have HBr := hide ((unhide HB5).trans ((unhide HB6).mono (unhide HB5).size))
          have hld := ldP_row (unhide HGr) hX
          clear HVA4 HG5 HB5 HB6 HPr HPA
          rcases unhide HCB with ⟨h16, rfl, rfl⟩ | ⟨h16, rfl, hfs⟩
          · have h16z : (16 : Int) < ((psOf L).length : Int) := by omega
            go_wp2_with fail
            refine (unhide HLN _).mono ?_
            rintro e w8 ⟨rfl, hb8⟩
            have HB8 := hide ((unhide HBr).trans (hb8.mono (unhide HBr).size))
            clear hb8
            go_wp2
            go_ret
            exact ⟨rfl, unhide HB8⟩
          · have h16z : ¬ (16 : Int) < ((psOf L).length : Int) := by omega
            have hfl : fs.length = (psOf L).length := by rw [hfs, List.length_map]
            rw [hfl] at HLN
            have HSR : Hid (∀ v W, TextsAt W v (psOf L) → Calls Try.prog 11 #[v] W fun e w' => e = .returned (.string (str (sws (psOf L)))) ∧ Below W.heap.size W w') := fun v W h => refShow_any _ v W (unhide HPCS) h16 h
            rw [hfs, swsF_sws] at HSH
            have htt : ((str (sws (psOf L))).toList == (str (sws (psOf L))).toList) = true := by simp
            generalize str (sws (psOf L)) = TX at *
            clear hfs hfl
            generalize hPL : (psOf L).length = pl at *
            clear hPL
            go_wp2_with fail
            refine (unhide HLN _).mono ?_
            rintro e w8 ⟨rfl, hb8⟩
            have HG8 := hide (keep_pat (unhide HGr) hb8)
            have HV8 := hide ((unhide HVr).below hb8)
            have HB8 := hide ((unhide HBr).trans (hb8.mono (unhide HBr).size))
            have hld8 := ldP_row (unhide HG8) hX
            clear hb8 HGr HVr HBr hld
            go_wp2_with fail
            refine (unhide HSH _).mono ?_
            rintro e w9 ⟨rfl, hb9⟩
            have HV9 := hide ((unhide HV8).below hb9)
            have HB9 := hide ((unhide HB8).trans (hb9.mono (unhide HB8).size))
            clear hb9 HG8 HV8 HB8 hld8
            go_wp2_with fail
            refine (unhide HSR _ _ (unhide HV9)).mono ?_
            rintro e w10 ⟨rfl, hb10⟩
            have HB10 := hide ((unhide HB9).trans (hb10.mono (unhide HB9).size))
            clear hb10 HV9 HB9
            go_wp2
            go_ret
            exact ⟨rfl, unhide HB10⟩

set_option maxRecDepth 100000 in
theorem contract (H : Type) (enc : TypeId × Value → H) (W : World) (base : Nat) (args : Array Value) (ds gs : List (DataW H)) (before : List MemPlace)
    (hval : ∀ (j : Nat) t v, Try.f3.params[j]? = some t → args[j]? = some v → Value.okWide Try.prog W .any base t v)
    (hW : DataW.Whole enc Try.prog Try.f3.params.toList Rows.condJoinsSpec.vars false W args.toList ds gs before)
    (hcond : Rows.uptoSmall H (ds ++ gs) = true) :
    Calls Try.prog 3 args W fun e W' => ∃ v, e = .returned v ∧ Rows.condJoinsSpec.post enc Try.prog Try.f3 false true false false W args v W' := by
  have hW' := hW
  obtain ⟨p, q, hA0, hV, rfl, hfz, hnd⟩ := hW
  have hA : DataW.TrodAll enc Try.prog W 0 (fun _ => true) true Try.f3.params.toList args.toList ds p := hA0
  rw [Try.params3] at hA hval
  obtain ⟨v0, vs0, d0, ds0, p0, q0, hargs, rfl, rfl, h0, r0⟩ := trodAll_cons hA
  obtain ⟨rfl, rfl, rfl⟩ := trodAll_nil r0
  obtain rfl : args = #[v0] := by cases args; simp_all
  obtain ⟨rfl, rfl⟩ := trodVars_none hV
  obtain ⟨a_v, len_v, cap_v, rfl⟩ := okWide_slice Try.underlying22 (hval 0 22 v0 rfl rfl)
  have k_v := h0
  have lt_v : ∀ y ∈ p0, y.block < W.heap.size := by obtain ⟨m, hm⟩ := k_v; exact DataW.trod_lt m _ _ _ hm
  obtain ⟨v, S_v, arg_v, dat_v⟩ := ArgB.open_arg Value.string ArgB.datS Try.underlying22 (by kernel_rfl) (ArgB.el_string Try.underlying9) h0
  clear hA0
  simp only [List.append_nil] at hW'
  simp only [List.append_nil] at hcond
  have hbk := of_decide_eq_true hcond
  simp only [Rows.uptoBulkAll] at hbk
  have hb_v := ArgB.bulk_arg dat_v
  have hlen : v.length ≤ 1048576 := by omega
  refine (walk _ v W arg_v hlen).mono fun e W' ⟨he, bel⟩ => ?_
  subst he
  exact ⟨_, rfl, _, _, _, [], _, [], hW', trodAll_mk1 (shut_bool Try.underlying4 _), (trodAll_cons_mk (Below.trod ArgB.laidOut (by kernel_rfl) (of_decide_eq_true (by kernel_rfl)) k_v bel lt_v) trodAll_mk0), rfl, bel.frame _, fun h => by cases h⟩

theorem laid_met (os : Os) : laidMet Try.prog Rows.condJoinsUptoRow.laid ((World.holding Try.prog os ⟨#[], #[], []⟩).forCall (fun _ _ => 0) ⟨#[], #[.slice none 0 0], []⟩).memory :=
  laidMet_of_run' 8 (by kernel_rfl) (by kernel_rfl)
theorem reads (os : Os) {H : Type} (enc : TypeId × Value → H) : ∃ places, DataW.whole enc Try.prog ((World.holding Try.prog os ⟨#[], #[], []⟩).forCall (fun _ _ => 0) ⟨#[], #[.slice none 0 0], []⟩).memory Try.f3.params.toList Rows.condJoinsSpec.vars false #[Value.slice none 0 0].toList 8 = some ([.nil], [], places) :=
  ⟨[], by kernel_rfl⟩

set_option maxRecDepth 100000 in
theorem lifted (os : Os) (started : os.Started) (H : Type) (enc : TypeId × Value → H) (F : Stop.Interp) :
    ReturnsInHanded {} Try.checked os 3 .any ((Rows.OpenSpec.upto Rows.condJoinsSpec).preRow enc Try.prog Try.f3 Rows.condJoinsUptoRow.domain false Rows.condJoinsUptoRow.laid) (((Rows.OpenSpec.upto Rows.condJoinsSpec).at F).post enc Try.prog Try.f3 false true false false) := by
  obtain ⟨places, hx⟩ := reads os enc
  refine returnsInHanded_of_row (C := Try.checked) (s := Rows.OpenSpec.upto Rows.condJoinsSpec) own started (by kernel_rfl) Try.func3
    (witness_row_at (enc := enc) (C := Try.checked) false ((World.holding Try.prog os ⟨#[], #[], []⟩)) #[.slice none 0 0] rfl (by kernel_rfl) (by kernel_rfl) (by kernel_rfl)
      (OpenSpec.preRow_of_cond 8 hx (by kernel_rfl) (fun k hk => by cases hk; kernel_rfl) (by kernel_rfl) (laid_met os))) ?_
  intro W base args ds gs before hval hW _ hcond _ _ _ _
  exact contract H enc W base args ds gs before hval hW (hcond _ rfl)

theorem said : Rows.CondJoinsUptoSaid :=
  OpenClaim.holds_of_cond 3 Try.f3 rfl rfl rfl rfl rfl rfl rfl ⟨rfl, rfl, rfl, rfl, rfl⟩ rfl rfl rfl rfl rfl (by kernel_rfl) Try.func3 (by kernel_rfl)
    (of_decide_eq_true (by kernel_rfl)) (by unfold Func.isWrapper; first | (rw [if_pos (by decide +kernel)]; kernel_rfl) | (rw [if_neg (by decide +kernel)]; exact ⟨rfl, rfl⟩))
    (fun os started H enc _ F => by rw [OpenClaim.pre_eq_preRow]; exact lifted os started H enc F)

end Go.Proofs.Ytgaagbjbolfbjab.condJoins
namespace Go.Proofs.Ytgaagbjbolfbjab
theorem condJoins_holds : Rows.CondJoinsUptoSaid := condJoins.said
end Go.Proofs.Ytgaagbjbolfbjab
