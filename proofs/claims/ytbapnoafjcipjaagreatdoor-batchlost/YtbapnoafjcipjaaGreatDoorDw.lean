/- Layer 6: the document's writer: Put where it goes well, and where the store refuses. -/
import Derived.Test.YtbapnoafjcipjaaGreatDoorDv
namespace Go.Proofs.YtbapnoafjcipjaaGreatDoor
open Go.RowKit
namespace Rs
def putDoc (d : Doc) (c : Nat) (rest : List UInt8) : Doc := if c = 0 then { d with held := Um.str rest } else { d with dead := c }
theorem doc_part {w W : World} {sb : Nat} {F F' : Nat → Prop} {m2 : Sto} {vb : Nat} (hsub : ∀ b, F' b → Up F w W b) (hnv : ¬ F' vb) (hv : vb < W.heap.size) {w' : World} (hc : Chg F w W) (hr : DRes F' W sb m2 w') : (∃ F2 rv sl, DIn w' sb m2 F2 rv sl ∧ (∀ b, F2 b → Up F w w' b) ∧ ¬ F2 vb) ∧ Chg F w w' := by
  obtain ⟨⟨rv, sl, hd⟩, c⟩ := hr
  refine ⟨⟨_, rv, sl, hd, fun b hb => ?_, fun hb => ?_⟩, hc.trans (c.mono hsub)⟩
  · have := c.size
    rcases hb with hb | hb
    · exact (hsub b hb).imp id fun x => ⟨x.1, by omega⟩
    · exact .inr ⟨by have := hc.size; omega, hb.2⟩
  · rcases hb with hb | hb
    · exact hnv hb
    · omega
set_option maxRecDepth 100000 in
set_option maxHeartbeats 2000000 in
theorem dput_go {w : World} {sb vb : Nat} {m m' : Sto} {F : Nat → Prop} {rv v : Value} {sl : Nat → Value} {d : Doc} {L : List ByteArray} {c : Nat} {rest : List UInt8} (h : DIn w sb m F rv sl) (hv : VIn w vb d) (hnv : ¬ F vb) (hd : d.dead = 0) (hb1 : 1 ≤ d.blk) (hb2 : d.blk ≤ 4096) (hh : d.held.size ≤ 4096) (hT : Um.Txs w v L) (hn : L.length ≤ 1048576) (hfit : Um.fit (Um.rl L) = true) (HP : Hid (wputs d.run d.blk m (Um.lst d.held ++ Um.frs (Um.rl L)) = (c, m', rest))) (hc1 : c ≤ 100) :
    Calls Tryz.prog 68 #[.pointer (some ⟨sb, 0, none⟩), .pointer (some ⟨vb, 0, none⟩), v] w fun e w' => e = .returned (.int .i64 c) ∧ DocW w w' F sb vb m' (putDoc d c rest) := by
  obtain ⟨A, hA⟩ : ∃ A, Um.frA L = A := ⟨_, rfl⟩
  have hAe : A = Um.str (Um.frs (Um.rl L)) := by rw [← hA]; unfold Um.frA; rw [if_pos hfit]
  have HFR := hide (Um.ref_frame v L w hT (by omega) A 0 hA (by show Um.frE L = 0; unfold Um.frE; rw [if_pos hfit]))
  have hAs : A.size ≤ 257 * L.length := by
    rw [hAe, Um.str_size]
    have := Um.fk_len (L := L) L.length (Nat.le_refl _) (fun j x _ hx => Um.fit_of hfit hx)
    rw [Um.fk_all (Nat.le_refl _)] at this
    exact this
  obtain ⟨X, hX⟩ : ∃ X, X = d.held ++ A := ⟨_, rfl⟩
  have hXs : X.size = d.held.size + A.size := by rw [hX, ByteArray.size_append]
  have hXb : X.size ≤ 300000000 := by omega
  have hadd : ∀ W : World, (Op.stringOp .add d.held A).run Tryz.prog W = .ok (.string X) W := fun W => by
    rw [hX]
    exact run_string_add_sum _ _ _ (by omega)
  have HPX : Hid (wputs d.run d.blk m ((Um.lst X).drop 0) = (c, m', rest)) := by
    show _ = _
    have e : Um.lst X = Um.lst d.held ++ Um.frs (Um.rl L) := by
      rw [hX, hAe]
      show (d.held ++ Um.str _).data.toList = d.held.data.toList ++ _
      rw [ByteArray.data_append, Array.toList_append, Um.str_list]
    rw [List.drop_zero, e]
    exact unhide HP
  have HD0 := hide h
  have HV0 := hide hv
  have HNV := hide hnv
  obtain ⟨c0, c1, c2, c3, cf, hvb⟩ := vcells hv
  rw [hd] at c2
  clear h hv hnv hT hfit hA hAe hX hXs HP
  go_enter Tryz.func68, Tryz.ntmps68
  go_wp2_with (go_at_call 97; refine (unhide HFR).mono ?_; rintro e w3 ⟨rfl, hb3⟩; have HB3 := hide hb3; obtain ⟨k0, k1, k2, k3, kf, hk3⟩ := vcells ((unhide HV0).below hb3); clear hb3)
  go_loopw [10] (fun s10 wr => ∃ (a : Nat) (m1 : Sto), s10 = .int .i64 a ∧ a ≤ X.size ∧ Hid (∃ F' rv sl, DIn wr sb m1 F' rv sl ∧ (∀ b, F' b → Up F w wr b) ∧ ¬ F' vb) ∧ Hid (VIn wr vb d) ∧ Hid (Chg F w wr) ∧ Hid (wputs d.run d.blk m1 ((Um.lst X).drop a) = (c, m', rest))) (fun a _ => X.size - (intOf a).toNat)
  case atStart =>
    have b3 := unhide HB3
    exact ⟨0, m, rfl, Nat.zero_le _, ⟨F, rv, sl, (unhide HD0).below b3, fun b hb => .inl hb, unhide HNV⟩, (unhide HV0).below b3, Chg.of_below b3, HPX⟩
  case round =>
    obtain ⟨a, m1, rfl, ha, HD1, HV1, HC1, HP1⟩ := hrel
    obtain ⟨k0, k1, k2, k3, kf, hk3⟩ := vcells (unhide HV1)
    clear c0 c1 c2 c3
    by_cases hlt : X.size - a < d.blk
    · have hltz : ¬ (d.blk : Int) ≤ (X.size : Int) - (a : Int) := by omega
      have hltz2 : (X.size : Int) - (a : Int) < (d.blk : Int) := by omega
      have haz : (a : Int) ≤ (X.size : Int) := by omega
      have e := unhide HP1
      rw [wputs_stop (by rw [List.length_drop, Um.lst_len]; exact hlt)] at e
      simp only [Prod.mk.injEq] at e
      obtain ⟨e1, e2, e3⟩ := e
      subst e1 e2
      have HFI : Hid (DocW w (wr.setCell ⟨vb, 3, none⟩ (.string (X.extract a X.size))) F sb vb m1 (putDoc d 0 rest)) := by
        obtain ⟨F', rv', sl', q1, q2, q3⟩ := unhide HD1
        have hne : ∀ b, b ≠ vb → (wr.setCell ⟨vb, 3, none⟩ (.string (X.extract a X.size))).heap[b]? = wr.heap[b]? := fun b hb => Below.heap_setCell _ _ _ _ hb
        refine ⟨⟨F', rv', sl', q1.kept (fun b hb => hne b fun e => q3 (e ▸ hb)) (fun _ x => x) (fun b hb => by simpa using q1.lt b hb), fun b hb => (q2 b hb).imp id fun x => ⟨x.1, by simpa using x.2⟩, q3⟩, ?_, ((unhide HC1).mono fun b hb => .inl hb).setCell (p := ⟨vb, 3, none⟩) (.inl (.inr rfl)) _⟩
        have hs := unhide HV1
        unfold VIn at hs ⊢
        rw [Um.set_heap1 hs]
        rw [show putDoc d 0 rest = { d with held := Um.str rest } from if_pos rfl, ← e3, ← Um.lst_drop, Um.str_lst]
        simp [docC]
      go_wp2
      go_ret
      exact ⟨rfl, unhide HFI⟩
    · have hltz : (d.blk : Int) ≤ (X.size : Int) - (a : Int) := by omega
      have haz : (a : Int) + (d.blk : Int) ≤ (X.size : Int) := by omega
      have ha0 : 0 ≤ (a : Int) := by omega
      have hnl : a + d.blk ≤ 300000000 := by omega
      obtain ⟨Y, hY⟩ : ∃ Y, X.extract a ((a : Int) + (d.blk : Int)).toNat = Y := ⟨_, rfl⟩
      have q1 : (a : Int) ≤ (a : Int) + (d.blk : Int) := by omega
      have q0 : 0 ≤ (a : Int) + (d.blk : Int) := by omega
      have haw : IntKind.i64.wrap ((a : Int) + (d.blk : Int)) = (a : Int) + (d.blk : Int) := IntWalk.i64_in _ (by omega)
      have eY : strB (((Um.lst X).drop a).take d.blk) = Y := by
        rw [← hY, show ((a : Int) + (d.blk : Int)).toNat = a + d.blk by omega, Um.extract_str, Nat.add_sub_cancel_left]
        rfl
      obtain ⟨c1, m2, hap⟩ : ∃ c1 m2, app m1 d.run [Y] = (c1, m2) := ⟨_, _, rfl⟩
      have HAPP : Hid (∀ W, Below wr.heap.size wr W → wr.heap.size < W.heap.size → W.cell? ⟨wr.heap.size, 0, none⟩ = some (.string Y) → Calls Tryz.prog 98 #[.pointer (some ⟨sb, 0, none⟩), .int .i64 d.run, .slice (some ⟨wr.heap.size, 0, none⟩) 1 1] W fun e w' => e = .returned (.int .i64 c1) ∧ VIn w' vb d ∧ (∃ F2 rv sl, DIn w' sb m2 F2 rv sl ∧ (∀ b, F2 b → Up F w w' b) ∧ ¬ F2 vb) ∧ Chg F w w') := fun W hW hlt2 hcell => by
        obtain ⟨F', rv', sl', q1, q2, q3⟩ := unhide HD1
        have hvW := (unhide HV1).below hW
        have cW : Chg F w W := (unhide HC1).trans (Chg.of_below hW)
        refine (append_doc (q1.below hW) d.run (L := [Y]) ⟨_, 1, rfl, by simp, fun _ => ⟨wr.heap.size, 0, rfl, hlt2, fun hb => by have := q1.lt _ hb; omega, fun j y hy => ?_⟩⟩ c1 m2 (hide hap)).mono ?_
        · have : j = 0 := by
            have := (List.getElem?_eq_some_iff.1 hy).1
            simpa using this
          subst this
          simp at hy
          subst hy
          rw [Nat.zero_add]; exact hcell
        · rintro e w' ⟨rfl, hr⟩
          have hvb2 : vb < W.heap.size := Nat.lt_of_lt_of_le hk3 hW.size
          obtain ⟨r1, r2⟩ := doc_part (F := F) (w := w) (fun b hb => (q2 b hb).imp id fun x => ⟨x.1, Nat.lt_of_lt_of_le x.2 hW.size⟩) q3 hvb2 cW hr
          exact ⟨rfl, (hr.2.block vb hvb2 q3).trans hvW, r1, r2⟩
      have HPN := HP1
      have hlT : ¬ ((Um.lst X).drop a).length < d.blk := by rw [List.length_drop, Um.lst_len]; exact hlt
      have hco : c1 ≠ 0 → c1 = c ∧ m2 = m' := fun h0 => by
        have e := unhide HPN
        rw [wputs_no hb1 hlT (by rw [eY, hap]; exact h0), eY, hap] at e
        simp only [Prod.mk.injEq] at e
        exact ⟨e.1, e.2.1⟩
      have hgo : c1 = 0 → wputs d.run d.blk m2 ((Um.lst X).drop (a + d.blk)) = (c, m', rest) := fun h0 => by
        have e := unhide HPN
        rw [wputs_go hb1 hlT (by rw [eY, hap]; exact h0), eY, hap, List.drop_drop] at e
        exact e
      have HCO := hide hco
      have HGO := hide hgo
      clear hco hgo hap eY hlT
      by_cases hc0 : c1 = 0
      · subst hc0
        have HG0 := hide (unhide HGO rfl)
        clear HGO HCO
        go_wp2
        go_region_held3 (fun w' => w'.cell? ⟨vb, 0, none⟩ = some (.int .i64 d.run) ∧ w'.cell? ⟨vb, 1, none⟩ = some (.int .i64 d.blk))
          (first | exact ⟨k0, k1⟩ | exact s2 | (refine ⟨?_, ?_⟩ <;> go_simp))
          (first | (go_at_call 98; refine (unhide HAPP _ (by (repeat (first | exact Below.refl _ _ | refine Below.drew ?_ | refine Below.alloc ?_ (by first | (simp; done) | (simp; omega)) _ | refine Below.setCell ?_ (by first | (simp; done) | (simp; omega)) _))) (by simp) (by go_simp)).mono ?_; rintro e w4 ⟨rfl, hv4, hd4, hc4⟩; obtain ⟨y0, y1, y2, y3, yf, hy4⟩ := vcells hv4; have s2 := (⟨y0, y1⟩ : _ ∧ _); have HV4 := hide hv4; have HD4 := hide hd4; have HC4 := hide hc4; clear hv4 hd4 hc4))
        clear s2
        go_wp2
        go_roundw
        case rel => exact ⟨a + d.blk, m2, by go_num, by omega, HD4, HV4, HC4, HG0⟩
        case measure => simp [intOf]; omega
      · obtain ⟨rfl, rfl⟩ := unhide HCO hc0
        have hcz : ((c1 : Int) == 0) = false := by simp; omega
        have HFI : Hid (∀ W, VIn W vb d → (∃ F2 rv sl, DIn W sb m2 F2 rv sl ∧ (∀ b, F2 b → Up F w W b) ∧ ¬ F2 vb) → Chg F w W → DocW w (W.setCell ⟨vb, 2, none⟩ (.int .i64 c1)) F sb vb m2 (putDoc d c1 rest)) := fun W hs hD hC => by
          obtain ⟨F', rv', sl', q1, q2, q3⟩ := hD
          have hne : ∀ b, b ≠ vb → (W.setCell ⟨vb, 2, none⟩ (.int .i64 c1)).heap[b]? = W.heap[b]? := fun b hb => Below.heap_setCell _ _ _ _ hb
          refine ⟨⟨F', rv', sl', q1.kept (fun b hb => hne b fun e => q3 (e ▸ hb)) (fun _ x => x) (fun b hb => by simpa using q1.lt b hb), fun b hb => (q2 b hb).imp id fun x => ⟨x.1, by simpa using x.2⟩, q3⟩, ?_, (hC.mono fun b hb => .inl hb).setCell (p := ⟨vb, 2, none⟩) (.inl (.inr rfl)) _⟩
          unfold VIn at hs ⊢
          rw [Um.set_heap1 hs, show putDoc d c1 rest = { d with dead := c1 } from if_neg hc0]
          simp [docC]
        go_wp2
        go_region_held3 (fun w' => w'.cell? ⟨vb, 0, none⟩ = some (.int .i64 d.run) ∧ w'.cell? ⟨vb, 1, none⟩ = some (.int .i64 d.blk))
          (first | exact ⟨k0, k1⟩ | exact s2 | (refine ⟨?_, ?_⟩ <;> go_simp))
          (first | (go_at_call 98; refine (unhide HAPP _ (by (repeat (first | exact Below.refl _ _ | refine Below.drew ?_ | refine Below.alloc ?_ (by first | (simp; done) | (simp; omega)) _ | refine Below.setCell ?_ (by first | (simp; done) | (simp; omega)) _))) (by simp) (by go_simp)).mono ?_; rintro e w4 ⟨rfl, hv4, hd4, hc4⟩; obtain ⟨y0, y1, y2, y3, yf, hy4⟩ := vcells hv4; have s2 := (⟨y0, y1⟩ : _ ∧ _); have HF4 := hide (unhide HFI _ hv4 hd4 hc4); clear hv4 hd4 hc4))
        clear s2
        go_wp2
        go_ret
        exact ⟨rfl, unhide HF4⟩
end Rs
end Go.Proofs.YtbapnoafjcipjaaGreatDoor
