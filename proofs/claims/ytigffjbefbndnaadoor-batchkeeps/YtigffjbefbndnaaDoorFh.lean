/- Layer 9: Add of a living former. -/
import Derived.Test.YtigffjbefbndnaaDoorFg
import Derived.BigQuiet
namespace Go.Proofs.YtigffjbefbndnaaDoor
open Go.RowKit
namespace Rs
open Sm (Tx ofS)
/-- while words are added -/
def Ad (w wr : World) (E : Nat → Addr) (F G : Nat → Prop) (sb fb : Nat) (size : Nat) (R : Nat × Sto × For) (L : List Tx) : Prop :=
  ∃ m f, R = adds m f L ∧ FRes F G w E sb fb m f wr ∧ f.Ok m ∧ f.buf.length < f.size ∧ f.size = size
set_option maxRecDepth 100000 in
set_option maxHeartbeats 4000000 in
theorem add_go {w : World} {E : Nat → Addr} {B : Nat} {F G : Nat → Prop} {sb fb : Nat} {m : Sto} {f : For} {bv mv v : Value} {L : List Tx} (K : Bg w E B F G) (h : At w sb m F) (hf : FIn w sb fb f G bv mv) (hd : ∀ b, F b → ¬ G b) (ok : f.Ok m) (hful : f.buf.length < f.size) (hT : Wds w v L (fun b => F b ∨ G b)) (hm : L.length ≤ 9223372036854775806) (hs : L.any long = false) :
    Calls Tryd.prog 10 #[.pointer (some ⟨fb, 0, none⟩), v] w fun e w' => e = .returned (errV E (adds m f L).1) ∧ FRes F G w E sb fb (adds m f L).2.1 (adds m f L).2.2 w' := by
  obtain ⟨cA, mA, fA, hR⟩ : ∃ cA mA fA, adds m f L = (cA, mA, fA) := ⟨_, _, _, rfl⟩
  rw [hR]
  show Calls _ _ _ _ fun e w' => e = .returned (errV E cA) ∧ FRes F G w E sb fb mA fA w'
  have HCK := hide (fcheck_live hf)
  have HCO := hide (contains_long hT.txs (by omega))
  rw [hs] at HCO
  have H0 : Hid (Ad w w E F G sb fb f.size (cA, mA, fA) (L.drop 0)) := ⟨m, f, by rw [List.drop_zero, hR], FRes.start h (hf.at ok.live) hd, ok, hful, rfl⟩
  have HSH := hide (long_no hs)
  have HK := hide K
  have hs2 := ok.s2
  obtain ⟨sz, hsz⟩ : ∃ sz, f.size = sz := ⟨_, rfl⟩
  rw [hsz] at H0 hs2
  obtain ⟨ao, cap, rfl, hcap, hnn, hat⟩ := hT
  have HAT := hide hat
  generalize hN : L.length = N at *
  have HN := hide hN
  clear K h hf hd ok hful hat hR hs hN hsz hnn
  go_enter Tryd.func10, Tryd.ntmps10
  go_wp2_with (first
    | (go_at_call 21; refine (unhide HCK).mono ?_; rintro e w1 ⟨rfl, hw1⟩; have hw2 := hw1.symm; subst hw2; clear hw1)
    | (go_at_call 22; refine (unhide HCO).mono ?_; rintro e w1 ⟨rfl, hw1⟩; have hw2 := hw1.symm; subst hw2; clear hw1))
  clear HCK HCO
  go_loopw [19] (fun s19 wr => ∃ k : Nat, s19 = .int .i64 k ∧ k ≤ N ∧ Hid (Ad w wr E F G sb fb sz (cA, mA, fA) (L.drop k))) (fun s19 _ => N - (intOf s19).toNat)
  case atStart => exact ⟨0, rfl, Nat.zero_le _, H0⟩
  case round =>
    clear H0
    obtain ⟨k, rfl, hk, HR⟩ := hrel
    obtain ⟨mk, fk, hA, hRes, hok, hfl, hsk⟩ := unhide HR
    by_cases hlt : k < N
    · have hltz : (k : Int) < (N : Int) := by omega
      have hk0 : 0 ≤ (k : Int) := by omega
      have hlL : k < L.length := by rw [unhide HN]; exact hlt
      obtain ⟨x, hx⟩ : ∃ x, L[k]? = some x := ⟨_, List.getElem?_eq_getElem hlL⟩
      obtain ⟨g, off, rfl, hg, hgF, hc⟩ := unhide HAT (by omega)
      have hcx : wr.cell? ⟨g, off + k, none⟩ = some (.string x) := (World.cell?_of_block (a := ⟨g, off + k, none⟩) (hRes.chg.block g hg hgF)).trans (hc k x hx)
      have hxs := unhide HSH x (List.mem_of_getElem? hx)
      have hdr : L.drop k = x :: L.drop (k + 1) := by rw [List.drop_eq_getElem_cons hlL, (List.getElem?_eq_some_iff.1 hx).2]
      rw [hdr] at hA
      obtain ⟨a1, c1, g2, c2, W', e1, e2, e3, e4, e5, e6, e7, e8⟩ := fres_push hRes hok.live x (by rw [hsk] at hfl; omega)
      have HAP := hide (e3 22)
      have HPU := hide e7
      have hok2 := hok.push hxs
      have hbl : (fk.push x).buf.length = fk.buf.length + 1 := by simp [For.push]
      rw [hsk] at e8 hfl
      obtain ⟨q, hq⟩ : ∃ q, fk.buf.length = q := ⟨_, rfl⟩
      rw [hq] at e1 e4 HAP HPU e8 hfl hbl
      obtain ⟨q1, hq1⟩ : ∃ q1, q + 1 = q1 := ⟨_, rfl⟩
      rw [hq1] at HAP HPU e8 hbl
      have hq1b : q1 ≤ 65536 := by omega
      have HQ := hide hq
      have HQ1 := hide hq1
      have HOK2 := hide hok2
      have HBL := hide hbl
      have HSK := hide hsk
      have HA := hide hA
      clear hRes hok hok2 hbl hq hq1 e3 e7 hx hc hdr hA HR hsk
      by_cases hl : q1 < sz
      · have hlz : (q1 : Int) < (sz : Int) := by omega
        have HNX : Hid (∀ W, Below (W'.setCell ⟨fb, 2, none⟩ (.slice (some ⟨g2, 0, none⟩) q1 c2)).heap.size (W'.setCell ⟨fb, 2, none⟩ (.slice (some ⟨g2, 0, none⟩) q1 c2)) W → Ad w W E F G sb fb sz (cA, mA, fA) (L.drop (k + 1))) := fun W hW =>
          ⟨mk, fk.push x, by rw [unhide HA, adds_room (by rw [unhide HQ, unhide HQ1, unhide HSK]; exact hl)], (unhide HPU).below hW, unhide HOK2, by rw [unhide HBL]; show q1 < fk.size; rw [unhide HSK]; exact hl, unhide HSK⟩
        go_wp2_with (at_builtin; refine wpList_apps _ rfl _ _ rfl _ _ _ _ rfl rfl (by exact unhide HAP) ?_)
        have e9 := World.cell?_setCell_same W' ⟨fb, 2, none⟩ (.slice (some ⟨g2, 0, none⟩) q1 c2) e4
        have HNX2 := HNX
        clear HNX HAP HPU e1 e4
        generalize World.setCell _ _ _ = V at *
        go_quiet (fail)
        have HV := hide (unhide HNX2 _ (drewN_below V nq))
        clear HNX2
        go_wp2
        go_roundw
        case rel => exact ⟨k + 1, by go_num, by omega, HV⟩
        case measure => simp [intOf]; omega
      · have hlz : ¬ (q1 : Int) < (sz : Int) := by omega
        obtain ⟨c, m', f', hw⟩ : ∃ c m' f', fwr mk (fk.push x) = (c, m', f') := ⟨_, _, _, rfl⟩
        have HWR : Hid (∀ W, Below (W'.setCell ⟨fb, 2, none⟩ (.slice (some ⟨g2, 0, none⟩) q1 c2)).heap.size (W'.setCell ⟨fb, 2, none⟩ (.slice (some ⟨g2, 0, none⟩) q1 c2)) W → Calls Tryd.prog 24 #[.pointer (some ⟨fb, 0, none⟩)] W fun e w' => e = .returned (errV E c) ∧ FRes F G w E sb fb m' f' w') := fun W hW => by
          have r := fres_write (unhide HK) ((unhide HPU).below hW) (unhide HOK2) (by rw [unhide HBL, ← unhide HQ1]; omega) (by rw [unhide HBL]; exact hq1b)
          rw [hw] at r
          exact r
        have hnl : ¬ fk.buf.length + 1 < fk.size := by rw [unhide HQ, unhide HQ1, unhide HSK]; exact hl
        by_cases hc : c = 0
        · subst hc
          rw [errV_zero] at HWR
          have HNX : Hid (∀ W, FRes F G w E sb fb m' f' W → Ad w W E F G sb fb sz (cA, mA, fA) (L.drop (k + 1))) := fun W hW => by
            obtain ⟨o1, o2, o3⟩ := (unhide HOK2).wrote (by rw [hw])
            have eA := unhide HA
            rw [adds_go hnl (by rw [hw]), hw] at eA
            rw [hw] at o1 o2 o3
            refine ⟨m', f', eA, hW, o1, ?_, ?_⟩
            · rw [o2, o3]; exact o1.s1 |> fun q => by rw [o3] at q; exact q
            · rw [o3]; exact unhide HSK
          clear hw hnl
          go_wp2_with (at_builtin; refine wpList_apps _ rfl _ _ rfl _ _ _ _ rfl rfl (by exact unhide HAP) ?_)
          have e9 := World.cell?_setCell_same W' ⟨fb, 2, none⟩ (.slice (some ⟨g2, 0, none⟩) q1 c2) e4
          clear HAP HPU e1 e4
          generalize World.setCell _ _ _ = V at *
          go_quiet (fail)
          have HV := hide (unhide HWR _ (drewN_below V nq))
          clear HWR
          go_wp2_with (go_at_call 24; refine (unhide HV).mono ?_; rintro e w5 ⟨rfl, h5⟩; have H5 := hide (unhide HNX _ h5); clear h5)
          go_roundw
          case rel => exact ⟨k + 1, by go_num, by omega, H5⟩
          case measure => simp [intOf]; omega
        · have hfin : (cA, mA, fA) = (c, m', f') := by rw [unhide HA, adds_no hnl (by rw [hw]; exact hc), hw]
          injection hfin with i1 i2
          injection i2 with i2 i3
          subst i1 i2 i3
          have HC0 := hide hc
          rw [errV_er hc] at HWR
          unfold er at *
          clear hw hnl hc
          go_wp2_with (at_builtin; refine wpList_apps _ rfl _ _ rfl _ _ _ _ rfl rfl (by exact unhide HAP) ?_)
          have e9 := World.cell?_setCell_same W' ⟨fb, 2, none⟩ (.slice (some ⟨g2, 0, none⟩) q1 c2) e4
          clear HAP HPU e1 e4
          generalize World.setCell _ _ _ = V at *
          go_quiet (fail)
          have HV := hide (unhide HWR _ (drewN_below V nq))
          clear HWR
          go_wp2_with (go_at_call 24; refine (unhide HV).mono ?_; rintro e w5 ⟨rfl, h5⟩; have H5 := hide h5; clear h5)
          go_ret
          exact ⟨by rw [errV_er (unhide HC0)]; rfl, unhide H5⟩
    · obtain rfl : k = N := by omega
      have hltz : ¬ (k : Int) < (k : Int) := by omega
      rw [List.drop_of_length_le (by rw [unhide HN]; exact Nat.le_refl _), adds_stop] at hA
      injection hA with i1 i2
      injection i2 with i2 i3
      subst i1 i2 i3
      have HF := hide hRes
      clear hRes hok hfl hsk HR
      go_wp2
      go_ret
      exact ⟨rfl, unhide HF⟩
end Rs
end Go.Proofs.YtigffjbefbndnaaDoor
