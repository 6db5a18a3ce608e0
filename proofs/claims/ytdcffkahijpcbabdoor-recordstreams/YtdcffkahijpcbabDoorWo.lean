/- Layer 6: Next of a reader whose run holds frames. -/
import Derived.Test.YtdcffkahijpcbabDoorWn
namespace Go.Proofs.YtdcffkahijpcbabDoor
open Go.RowKit
namespace Rs
theorem un1_whole {H Z c R : List UInt8} (hc : c.length ≤ 255) (h : H ++ Z = Um.fr c ++ R) (hl : (Um.fr c).length ≤ H.length) : ∃ H', Um.un1 H = (0, c, H') ∧ H' ++ Z = R := by
  obtain ⟨H', rfl⟩ : ∃ H', H = Um.fr c ++ H' := by
    refine ⟨H.drop (Um.fr c).length, ?_⟩
    have h1 := congrArg (List.take (Um.fr c).length) h
    rw [List.take_append_of_le_length hl, List.take_left] at h1
    conv => lhs; rw [← List.take_append_drop (Um.fr c).length H, h1]
  refine ⟨H', Um.un1_fr hc H', ?_⟩
  rw [List.append_assoc] at h
  exact List.append_cancel_left h
theorem un1_part {H Z c R : List UInt8} (hc : c.length ≤ 255) (h : H ++ Z = Um.fr c ++ R) (hl : ¬ (Um.fr c).length ≤ H.length) : (Um.un1 H).1 = 60 := by
  have hH : H = (Um.fr c).take H.length := by
    have h1 := congrArg (List.take H.length) h
    rw [List.take_left, List.take_append_of_le_length (by omega)] at h1
    exact h1
  obtain ⟨k, hk⟩ : ∃ k, H.length = k := ⟨_, rfl⟩
  rw [hk] at hH hl
  unfold Um.fr at hH
  rw [Um.fr_len] at hl
  by_cases hu : k < (Um.uL c.length).length
  · rw [List.take_append_of_le_length (by omega)] at hH
    have h3 : Um.rdN H = (0, 0, 60) := by
      by_cases h0 : k = 0
      · have : H = [] := List.eq_nil_of_length_eq_zero (by omega)
        rw [this]; rfl
      · have ha := Um.ahd_uL c.length []
        rw [List.append_nil] at ha
        have h5 := Um.uL_len 1 c.length (by omega)
        have hge : H.length ≤ Um.ahd H := by
          refine Um.ahd_ge (Nat.le_refl _) fun j b hj hb => ?_
          rw [hH, List.getElem?_take, if_pos (by omega)] at hb
          exact Um.ahd_hi hb (by omega)
        have hle := Um.ahd_le H
        exact Um.rdN_short (by omega) (by omega) (by omega)
    unfold Um.un1
    rw [h3]
    rfl
  · rw [List.take_append, List.take_of_length_le (by omega)] at hH
    have h3 := Um.rdN_uL (n := c.length) (by omega) (c.take (k - (Um.uL c.length).length))
    rw [← hH] at h3
    unfold Um.un1
    rw [h3]
    simp only
    rw [if_neg (by simp), if_neg (by omega), if_pos ?_]
    rw [List.length_drop, hk]
    omega
def takenOf (rb size : Nat) (w : World) : Nat := size - (match w.cell? ⟨rb, 3, none⟩ with | some (.int _ t) => t.toNat | _ => 0)
theorem clone_str (s : ByteArray) (w : World) (hs : s.size ≤ 67108864) : Calls Tryd.prog 46 #[.string s] w fun e w' => e = .returned (.string s) ∧ Below w.heap.size w w' := by
  have HC := hide (fun W => Tryd.stringslite_Clone s W (by omega))
  go_enter Tryd.func46, Tryd.ntmps46
  go_wp2_with (go_at_call 64; refine (unhide HC _).mono ?_; rintro e w1 ⟨rfl, hb⟩; have HB := hide hb; clear hb)
  go_ret
  exact ⟨rfl, unhide HB⟩
/-- a reader at rest: what is left of the run's text -/
structure RAt (w : World) (sb rb : Nat) (t : List UInt8) (run blk : Nat) (R : List UInt8) (y : Rea) : Prop where
  cell : RIn w sb rb y
  run : y.run = run
  blk : y.blk = blk
  size : y.size = t.length
  taken : y.taken ≤ t.length
  left : Um.lst y.held ++ t.drop y.taken = R
theorem RAt.below {w W : World} {sb rb : Nat} {t : List UInt8} {run blk : Nat} {R : List UInt8} {y : Rea} (h : RAt w sb rb t run blk R y) (hb : Below w.heap.size w W) : RAt W sb rb t run blk R y := ⟨h.cell.below hb, h.run, h.blk, h.size, h.taken, h.left⟩
set_option maxRecDepth 100000 in
set_option maxHeartbeats 2000000 in
theorem next_go {w : World} {E : Nat → Addr} {B sb rb run blk : Nat} {m : Sto} {F : Nat → Prop} {r : Run} {y : Rea} {c R : List UInt8} (V : Env w E B) (hF : ∀ b, F b → B ≤ b) (hB : B ≤ w.heap.size) (h : At w sb m F) (hrF : ¬ F rb) (hrB : B ≤ rb) (hr : RAt w sb rb r.txt run blk (Um.fr c ++ R) y) (hrun : run ≤ 16777216) (hl : look m.runs run = some r) (hs : r.shut = true) (hzl : r.txt.length ≤ 67108864) (hb1 : 1 ≤ blk) (hb2 : blk ≤ 4096) (hRl : (Um.fr c ++ R).length ≤ 67108864) (hc : c.length ≤ 255) :
    Calls Tryd.prog 15 #[.pointer (some ⟨rb, 0, none⟩)] w fun e w' => e = .returned (.tuple #[.string (Um.str c), .bool true, .nilIface]) ∧ (∃ y', RAt w' sb rb r.txt run blk R y') ∧ Chg (fun b => b = rb) w w' := by
  have HV := hide V
  have HH := hide h
  have HAT : Hid (∀ W, Chg (fun b => b = rb) w W → At W sb m F ∧ Env W E B) := fun W cg =>
    ⟨h.kept (fun b hb => cg.block b (h.lt b hb) (fun e => hrF (e ▸ hb))) (fun _ x => x) (fun b hb => Nat.lt_of_lt_of_le (h.lt b hb) cg.size), V.below (cg.below hB (fun k hk => by rw [hk]; exact hrB))⟩
  have HR := hide hr
  have HFF := hide hF
  have HFR : Hid (Um.fr c ++ R ≠ []) := fun e => Um.fr_ne c (List.append_eq_nil_iff.1 e).1
  obtain ⟨RR, hRR⟩ : ∃ RR, Um.fr c ++ R = RR := ⟨_, rfl⟩
  rw [hRR] at HR HFR hRl
  have HRR := hide hRR
  clear V h hF hr hRR
  go_enter Tryd.func15, Tryd.ntmps15
  go_wp2
  go_loopw [8] (fun s8 wr => ∃ y, Hid (RAt wr sb rb r.txt run blk RR y) ∧ Hid (Chg (fun b => b = rb) w wr)) (fun _ wr => takenOf rb r.txt.length wr)
  case atStart => exact ⟨y, HR, Chg.refl _ _⟩
  case round =>
    obtain ⟨y1, HR1, HC1⟩ := hrel
    obtain ⟨hy, hyr, hyb, hys, hyt, hyl⟩ := unhide HR1
    obtain ⟨c0, c1, c2, c3, c4, c5, cf, hrb⟩ := rcells hy
    rw [hyr] at c1
    rw [hyb] at c2
    rw [hys] at c4
    have hlen : (Um.lst y1.held).length + (r.txt.length - y1.taken) = RR.length := by
      rw [← hyl, List.length_append, List.length_drop]
    rw [Um.lst_len] at hlen
    have hRp : 0 < RR.length := List.length_pos_iff.2 (unhide HFR)
    have HUF := hide (fun W => Um.unframe_one y1.held W (by omega))
    have HCW : Hid (∀ W, Below wr.heap.size wr W → RIn W sb rb y1) := fun W hW => hy.below hW
    by_cases hw : (Um.fr c).length ≤ (Um.lst y1.held).length
    · obtain ⟨H', hu, hH'⟩ := un1_whole hc (hyl.trans (unhide HRR).symm) hw
      rw [hu] at HUF
      dsimp only at HUF
      have hem : y1.held.toList.isEmpty = false := by
        rw [ByteArray.toList_eq]
        have h1 : 0 < (Um.lst y1.held).length := Nat.lt_of_lt_of_le (List.length_pos_iff.2 (Um.fr_ne c)) hw
        cases he : y1.held.data.toList with
        | nil => rw [show Um.lst y1.held = y1.held.data.toList from rfl, he] at h1; simp at h1
        | cons a b => rfl
      have HFI : Hid (∀ W, Below wr.heap.size wr W → RAt (W.setCell ⟨rb, 5, none⟩ (.string (Um.str H'))) sb rb r.txt run blk R { y1 with held := Um.str H' } ∧ Chg (fun b => b = rb) w (W.setCell ⟨rb, 5, none⟩ (.string (Um.str H')))) := fun W hW => by
        have h1 := hy.below hW
        refine ⟨⟨?_, hyr, hyb, hys, hyt, ?_⟩, ?_⟩
        · unfold RIn at h1 ⊢
          rw [set_heap1 h1 _]
          simp [reaC]
        · show Um.lst (Um.str H') ++ _ = R
          rw [show Um.lst (Um.str H') = H' from Um.str_list H']
          exact hH'
        · have cc : Chg (Up (fun b => b = rb) w wr) wr W := Chg.of_below hW
          exact ((unhide HC1).trans cc).setCell (p := ⟨rb, 5, none⟩) (.inl rfl) _
      have HCL := hide (fun W => clone_str (Um.str c) W (by rw [Um.str_size]; omega))
      generalize Um.str H' = SH at *
      obtain ⟨SC, hSC⟩ : ∃ SC, Um.str c = SC := ⟨_, rfl⟩
      rw [hSC] at HCL HUF
      have HSC := hide hSC
      clear hSC
      clear hu hH' hyl hlen hw
      go_wp2
      go_quiet (fail)
      have HQ : Hid (Below wr.heap.size wr (wr.drewN nq)) := ⟨rfl, rfl, rfl, Nat.le_refl _, fun _ _ => rfl⟩
      obtain ⟨d0, d1, d2, d3, d4, d5, df, hdb⟩ := rcells (unhide HCW _ (unhide HQ))
      generalize wr.drewN nq = W1 at *
      go_wp2_with (first
        | (go_at_call 45; refine (unhide HUF _).mono ?_; rintro e w2 ⟨rfl, hb2'⟩; have HB2 := hide ((unhide HQ).trans (hb2'.mono (unhide HQ).size)); clear hb2'; obtain ⟨z0, z1, z2, z3, z4, z5, zf, hz3⟩ := rcells (unhide HCW _ (unhide HB2)); have HF2 := hide (unhide HFI _ (unhide HB2)))
        | (go_at_call 46; refine (unhide HCL _).mono ?_; rintro e w4 ⟨rfl, hb4⟩; have HB4 := hide hb4; clear hb4))
      go_ret3
      have h5 := unhide HF2
      refine ⟨?_, ⟨_, h5.1.below (unhide HB4)⟩, h5.2.trans (Chg.of_below (unhide HB4))⟩
      simp
      exact (unhide HSC).symm
    · have hu := un1_part hc (hyl.trans (unhide HRR).symm) hw
      have htl : y1.taken < r.txt.length := by
        have e1 := congrArg List.length (unhide HRR)
        rw [List.length_append] at e1
        rw [Um.lst_len] at hw
        omega
      have htz : (y1.taken : Int) < (r.txt.length : Int) := by omega
      have htn : ((y1.taken : Int) == (r.txt.length : Int)) = false := by simp; omega
      have htn2 : ¬ (y1.taken : Int) = (r.txt.length : Int) := by omega
      rw [hu] at HUF
      obtain ⟨n, hn⟩ : ∃ n, n = min blk (r.txt.length - y1.taken) := ⟨_, rfl⟩
      obtain ⟨X, hX⟩ : ∃ X, X = y1.held ++ strB ((r.txt.drop y1.taken).take n) := ⟨_, rfl⟩
      have HTK : Hid (∀ W, Below wr.heap.size wr W → Calls Tryd.prog 47 #[.pointer (some ⟨rb, 0, none⟩)] W fun e w' => e = .returned .nilIface ∧ RIn w' sb rb { y1 with taken := y1.taken + n, held := X } ∧ Chg (fun b => b = rb) w w') := fun W hW => by
        have cg : Chg (fun b => b = rb) w W := (unhide HC1).trans (Chg.of_below hW)
        obtain ⟨hA, hE⟩ := unhide HAT W cg
        exact (take_go hE (unhide HFF) (Nat.le_trans hB cg.size) hA (hy.below hW) (by omega) (by rw [hyr]; exact hl) hs hys (by omega) (by omega) (by omega) (by omega) n (by rw [hyb, hys]; exact hn) X hX).mono fun e w' hh => ⟨hh.1, hh.2.1, cg.trans (hh.2.2.mono fun k hk => .inl hk)⟩
      have HRA : Hid (∀ W, RIn W sb rb { y1 with taken := y1.taken + n, held := X } → RAt W sb rb r.txt run blk RR { y1 with taken := y1.taken + n, held := X }) := fun W hW => by
        refine ⟨hW, hyr, hyb, hys, by show y1.taken + n ≤ _; omega, ?_⟩
        show Um.lst X ++ r.txt.drop (y1.taken + n) = RR
        have e1 : Um.lst X = Um.lst y1.held ++ (r.txt.drop y1.taken).take n := by
          rw [hX]
          show (y1.held ++ strB _).data.toList = y1.held.data.toList ++ _
          rw [ByteArray.data_append, Array.toList_append]
          rfl
        rw [e1, List.append_assoc, ← List.drop_drop, List.take_append_drop]
        exact hyl
      generalize Um.str (Um.un1 (Um.lst y1.held)).2.1 = s1 at *
      generalize Um.str (Um.un1 (Um.lst y1.held)).2.2 = s2 at *
      have hn1 : 1 ≤ n := by omega
      have hnt : y1.taken + n ≤ r.txt.length := by omega
      clear hu hyl hlen hw hX hn
      cases hem : y1.held.toList.isEmpty <;>
      · go_wp2
        go_quiet (fail)
        have HQ : Hid (Below wr.heap.size wr (wr.drewN nq)) := ⟨rfl, rfl, rfl, Nat.le_refl _, fun _ _ => rfl⟩
        obtain ⟨d0, d1, d2, d3, d4, d5, df, hdb⟩ := rcells (unhide HCW _ (unhide HQ))
        rw [hys] at d4
        generalize wr.drewN nq = W1 at *
        go_wp2_with (go_at_call 45; refine (unhide HUF _).mono ?_; rintro e w2 ⟨rfl, hb2'⟩; have HB2 := hide ((unhide HQ).trans (hb2'.mono (unhide HQ).size)); clear hb2'; obtain ⟨z0, z1, z2, z3, z4, z5, zf, hz3⟩ := rcells (unhide HCW _ (unhide HB2)); rw [hys] at z4)
        go_quiet (fail)
        have HQ2 : Hid (Below wr.heap.size wr (w2.drewN nq)) := (unhide HB2).trans ⟨rfl, rfl, rfl, Nat.le_refl _, fun _ _ => rfl⟩
        generalize w2.drewN nq = W3 at *
        go_wp2_with (go_at_call 47; refine (unhide HTK _ (unhide HQ2)).mono ?_; rintro e w4 ⟨rfl, hr4, hc4⟩; have HR4 := hide (unhide HRA _ hr4); have HC4 := hide hc4; clear hr4 hc4)
        go_roundw
        case rel => exact ⟨_, HR4, HC4⟩
        case measure =>
          have h9 := (rcells (unhide HR4).cell).2.2.2.1
          unfold takenOf
          rw [h9, c3]
          simp
          omega
set_option maxRecDepth 100000 in
set_option maxHeartbeats 1000000 in
theorem next_end {w : World} {sb rb run blk : Nat} {t : List UInt8} {y : Rea} (hr : RAt w sb rb t run blk [] y) :
    Calls Tryd.prog 15 #[.pointer (some ⟨rb, 0, none⟩)] w fun e w' => e = .returned (.tuple #[.string ⟨#[]⟩, .bool false, .nilIface]) ∧ Below w.heap.size w w' := by
  obtain ⟨hy, hyr, hyb, hys, hyt, hyl⟩ := hr
  obtain ⟨c0, c1, c2, c3, c4, c5, cf, hrb⟩ := rcells hy
  rw [hys] at c4
  obtain ⟨e1, e2⟩ := List.append_eq_nil_iff.1 hyl
  have htl : y.taken = t.length := by have := congrArg List.length e2; simp at this; omega
  rw [htl] at c3
  have hem : y.held.toList.isEmpty = true := by
    rw [ByteArray.toList_eq]
    rw [show y.held.data.toList = [] from e1]
    rfl
  clear hyl e1 e2 hyt htl hys hyb hyr
  go_enter Tryd.func15, Tryd.ntmps15
  go_wp2
  go_loopw [8] (fun s8 wr => wr = w) (fun _ wr => 0)
  case atStart => rfl
  case round =>
    subst hrel
    go_wp2
    go_quiet (fail)
    go_wp2
    go_ret3
    refine ⟨?_, ⟨rfl, rfl, rfl, Nat.le_refl _, fun _ _ => rfl⟩⟩
    simp
end Rs
end Go.Proofs.YtdcffkahijpcbabDoor
