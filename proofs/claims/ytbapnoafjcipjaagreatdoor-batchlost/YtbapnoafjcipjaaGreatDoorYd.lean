/- Layer 9: the document's writer is dropped; a batch written, the document's. -/
import Derived.Test.YtbapnoafjcipjaaGreatDoorDx
import Derived.Test.YtbapnoafjcipjaaGreatDoorGh
namespace Go.Proofs.YtbapnoafjcipjaaGreatDoor
open Go.RowKit
namespace Rs
open Sm (Tx ofS)
section
variable {w W : World} {F : Nat → Prop} {sb vb : Nat} {m : Sto} {d : Doc}
theorem docw_rem (h : DocW w W F sb vb m d) (k : Int) :
    Calls Tryz.prog 27 #[.pointer (some ⟨sb, 0, none⟩), .int .i64 k] W fun e w' => e = .returned (.int .i64 (rem m k).1) ∧ DocW w w' F sb vb (rem m k).2 d := by
  obtain ⟨⟨F', rv', sl', q1, q2, q3⟩, hv, hC⟩ := h
  have hvb := (Array.getElem?_eq_some_iff.1 hv).1
  refine (remove_doc q1 k).mono ?_
  rintro e w' ⟨rfl, ⟨rv2, hd⟩, c2⟩
  have hz := c2.size
  refine ⟨rfl, ⟨_, rv2, sl', hd, fun b hF => ?_, fun hF => ?_⟩, (c2.block vb hvb q3).trans hv, hC.trans (c2.mono fun b hF => ?_)⟩
  · rcases hF with hF | hF
    · exact (q2 b hF).imp id fun x => ⟨x.1, by omega⟩
    · exact .inr ⟨by have := hC.size; omega, hF.2⟩
  · rcases hF with hF | hF
    · exact q3 hF
    · omega
  · exact (q2 b hF).elim (fun x => .inl (.inl x)) fun x => .inr x
set_option maxRecDepth 100000 in
theorem ddrop_go (h : DocW w W F sb vb m d) (hd : d.dead ≠ 13) :
    Calls Tryz.prog 69 #[.pointer (some ⟨sb, 0, none⟩), .pointer (some ⟨vb, 0, none⟩)] W fun e w' => e = .returned (.tuple #[]) ∧ DocW w w' F sb vb (rem m d.run).2 { d with dead := 13 } := by
  obtain ⟨c0, c1, c2, c3, cf, hvb⟩ := vcells h.wri
  have q3 : ((d.dead : Int) == 13) = false := by simp; omega
  have HR := hide (docw_rem h d.run)
  clear h
  go_enter Tryz.func69, Tryz.ntmps69
  go_wp2_with (go_at_call 27; refine (unhide HR).mono ?_; rintro e w3 ⟨rfl, h3⟩; obtain ⟨y0, y1, y2, y3, yf, hy4⟩ := vcells h3.wri; have HF3 := hide (h3.set 2 (.int .i64 13) { d with dead := 13 } (by simp [docC])); clear h3)
  go_end0
  exact ⟨rfl, unhide HF3⟩
end
/-- the document's store and a writer that is newer than w -/
structure DW (w W : World) (F : Nat → Prop) (sb vb : Nat) (m : Sto) (d : Doc) : Prop where
  sto : ∃ F' rv sl, DIn W sb m F' rv sl ∧ (∀ b, F' b → Up F w W b) ∧ ¬ F' vb
  wri : VIn W vb d
  new : w.heap.size ≤ vb
  chg : Chg F w W
theorem DW.next {w W W' : World} {F F' : Nat → Prop} {sb vb : Nat} {m m' : Sto} {d d' : Doc} (h : DW w W F sb vb m d) (hs : ∀ b, F' b → Up F w W b) (k : DocW W W' F' sb vb m' d') : DW w W' F sb vb m' d' := by
  obtain ⟨⟨F2, rv, sl, q1, q2, q3⟩, hv, hc⟩ := k
  have hvb := (Array.getElem?_eq_some_iff.1 h.wri).1
  have s1 := h.chg.size
  have s2 := hc.size
  refine ⟨⟨F2, rv, sl, q1, fun b hb => ?_, q3⟩, hv, h.new, h.chg.trans (hc.mono fun b hb => ?_)⟩
  · rcases q2 b hb with x | x
    · exact (hs b x).imp id fun y => ⟨y.1, by omega⟩
    · exact .inr ⟨by omega, x.2⟩
  · rcases hb with x | x
    · exact hs b x
    · exact .inr ⟨by rw [x]; exact h.new, by omega⟩
theorem DW.res {w W : World} {F : Nat → Prop} {sb vb : Nat} {m : Sto} {d : Doc} (h : DW w W F sb vb m d) (hF : ∀ b, F b → b < w.heap.size) : DRes F w sb m W := by
  obtain ⟨F2, rv, sl, q1, q2, q3⟩ := h.sto
  have s1 := h.chg.size
  exact ⟨⟨rv, sl, q1.kept (fun _ _ => rfl) q2 fun b hb => hb.elim (fun x => by have := hF b x; omega) fun x => x.2⟩, h.chg⟩
set_option maxRecDepth 100000 in
set_option maxHeartbeats 2000000 in
/-- a batch of texts, as the document writes it -/
theorem written_any {w : World} {sb n c : Nat} {m m' : Sto} {F : Nat → Prop} {rv v : Value} {sl : Nat → Value} {L : List Tx} (h : DIn w sb m F rv sl) (hT : ∀ W, Chg F w W → Um.Txs W v L) (hn : L.length ≤ 1048576) (hs : ∀ x ∈ L, x.size ≤ 255) (HB : bat m L = (c, m', n)) :
    Calls Tryz.prog 53 #[.pointer (some ⟨sb, 0, none⟩), v] w fun e w' => e = .returned (.tuple #[.int .i64 n, .int .i64 c]) ∧ DRes F w sb m' w' := by
  have hlt := h.lt
  have hfit : Um.fit (Um.rl L) = true := Um.fit_yes fun _ y hy => hs y (List.mem_of_getElem? hy)
  have hmc := made_crt m
  rcases hcr : crt m with ⟨⟨k0, c0⟩, m2⟩
  unfold bat at HB
  rw [hcr] at hmc HB
  dsimp only at hmc HB
  by_cases hc0 : c0 = 0
  · subst hc0
    obtain ⟨_, hk0⟩ := hmc.1 rfl
    subst hk0
    rw [if_neg (by simp)] at HB
    obtain ⟨N, hN⟩ : ∃ N, m.made + 1 = N := ⟨_, rfl⟩
    rw [hN] at HB hcr
    rcases hp : wputs N 512 m2 (Um.frs (Um.rl L)) with ⟨cp, mp, rest⟩
    unfold batN at HB
    rw [hp] at HB
    dsimp only at HB
    have hp9 : cp ≤ 9 := by have := puts_le9 _ N 512 m2 (Um.frs (Um.rl L)) (Nat.le_refl _) (by decide); rw [hp] at this; exact this
    have HO : Hid (Calls Tryz.prog 67 #[.pointer (some ⟨sb, 0, none⟩), .int .i64 512] w fun e w1 => ∃ vb, e = .returned (.tuple #[.pointer (some ⟨vb, 0, none⟩), .int .i64 0]) ∧ DW w w1 F sb vb m2 ⟨N, 512, 0, ByteArray.empty⟩) := by
      refine (dopen_go h (b := 512) (by omega) (by omega) hcr).mono ?_
      rintro e w1 ⟨vb, rfl, hv, hnew, hst, hch⟩
      exact ⟨vb, rfl, hst, hv, hnew, hch⟩
    have HP : Hid (∀ W vb, DW w W F sb vb m2 ⟨N, 512, 0, ByteArray.empty⟩ → Calls Tryz.prog 68 #[.pointer (some ⟨sb, 0, none⟩), .pointer (some ⟨vb, 0, none⟩), v] W fun e w' => e = .returned (.int .i64 cp) ∧ DW w w' F sb vb mp (putDoc ⟨N, 512, 0, ByteArray.empty⟩ cp rest)) := fun W vb hW => by
      obtain ⟨F1, rv1, sl1, q1, q2, q3⟩ := hW.sto
      refine (dput_go q1 hW.wri q3 rfl (by show 1 ≤ 512; decide) (by show 512 ≤ 4096; decide) (by show ByteArray.empty.size ≤ 4096; decide) (hT W hW.chg) hn hfit (c := cp) (m' := mp) (rest := rest) (by
        show wputs (N : Int) 512 m2 (Um.lst ByteArray.empty ++ _) = _
        rw [show Um.lst ByteArray.empty = [] from rfl, List.nil_append]
        exact hp) (by omega)).mono ?_
      rintro e w' ⟨rfl, hd⟩
      exact ⟨rfl, hW.next q2 hd⟩
    have HD : Hid (∀ W vb mm (d : Doc), d.dead ≠ 13 → d.run = N → DW w W F sb vb mm d → Calls Tryz.prog 69 #[.pointer (some ⟨sb, 0, none⟩), .pointer (some ⟨vb, 0, none⟩)] W fun e w' => e = .returned (.tuple #[]) ∧ DRes F w sb (rem mm N).2 w') := fun W vb mm d h13 hr hW => by
      obtain ⟨F1, rv1, sl1, q1, q2, q3⟩ := hW.sto
      refine (ddrop_go (DocW.start q1 hW.wri q3) h13).mono ?_
      rintro e w' ⟨rfl, hd⟩
      rw [hr] at hd
      exact ⟨rfl, (hW.next q2 hd).res hlt⟩
    by_cases hcp : cp = 0
    · subst hcp
      rw [if_neg (by simp)] at HB
      have hrest : rest.length < 512 := by
        have := wputs_small _ N 512 m2 (Um.frs (Um.rl L)) (Nat.le_refl _) (by decide) (by rw [hp])
        rw [hp] at this
        exact this
      rcases hq : wclo N mp rest with ⟨cc, mc⟩
      rw [hq] at HB
      dsimp only at HB
      have hc9 : cc ≤ 9 := by have := clo_le9 N mp rest; rw [hq] at this; exact this
      have HC : Hid (∀ W vb, DW w W F sb vb mp (putDoc ⟨N, 512, 0, ByteArray.empty⟩ 0 rest) → Calls Tryz.prog 70 #[.pointer (some ⟨sb, 0, none⟩), .pointer (some ⟨vb, 0, none⟩)] W fun e w' => e = .returned (.tuple #[.int .i64 (if cc = 0 then (N : Int) else 0), .int .i64 cc]) ∧ ∃ d : Doc, d.run = N ∧ d.dead = (if cc = 0 then 13 else cc) ∧ DW w w' F sb vb mc d) := fun W vb hW => by
        obtain ⟨F1, rv1, sl1, q1, q2, q3⟩ := hW.sto
        refine (dclose_go q1 hW.wri q3 rfl (by show (Um.str rest).size ≤ 4096; rw [Um.str_size]; omega) (c := cc) (m' := mc) (by show _ = _; exact hq)).mono ?_
        rintro e w' ⟨rfl, held, hd⟩
        exact ⟨rfl, _, rfl, rfl, hW.next q2 hd⟩
      by_cases hcc : cc = 0
      · subst hcc
        rw [if_neg (by simp)] at HB
        injection HB with e1 HB
        injection HB with e2 e3
        subst e1 e2 e3
        rw [if_pos rfl] at HC
        clear h hT hmc hcr hp hq HD
        go_enter Tryz.func53, Tryz.ntmps53
        go_wp2_with (first
          | (go_at_call 67; refine (unhide HO).mono ?_; rintro e w1 ⟨vb, rfl, h1⟩; have H1 := hide h1; clear h1)
          | (go_at_call 68; refine (unhide HP _ vb (unhide H1)).mono ?_; rintro e w2 ⟨rfl, h2⟩; have H2 := hide h2; clear h2)
          | (go_at_call 70; refine (unhide HC _ vb (unhide H2)).mono ?_; rintro e w3 ⟨rfl, d3, hr3, hd3, h3⟩; have H3 := hide h3; clear h3 hr3 hd3))
        go_ret2
        exact ⟨rfl, (unhide H3).res hlt⟩
      · rw [if_pos hcc] at HB
        injection HB with e1 HB
        injection HB with e2 e3
        subst e1 e2 e3
        rw [if_neg hcc, if_neg hcc] at HC
        have q5 : ((cc : Int) == 0) = false := by simp; omega
        have h13 : cc ≠ 13 := by omega
        clear h hT hmc hcr hp hq
        go_enter Tryz.func53, Tryz.ntmps53
        go_wp2_with (first
          | (go_at_call 67; refine (unhide HO).mono ?_; rintro e w1 ⟨vb, rfl, h1⟩; have H1 := hide h1; clear h1)
          | (go_at_call 68; refine (unhide HP _ vb (unhide H1)).mono ?_; rintro e w2 ⟨rfl, h2⟩; have H2 := hide h2; clear h2)
          | (go_at_call 70; refine (unhide HC _ vb (unhide H2)).mono ?_; rintro e w3 ⟨rfl, d3, hr3, hd3, h3⟩; have H3 := hide (unhide HD _ vb _ d3 (by rw [hd3]; exact h13) hr3 h3); clear h3 hr3 hd3)
          | (go_at_call 69; refine (unhide H3).mono ?_; rintro e w4 ⟨rfl, h4⟩; have H4 := hide h4; clear h4))
        go_ret2
        exact ⟨rfl, unhide H4⟩
    · rw [if_pos hcp] at HB
      injection HB with e1 HB
      injection HB with e2 e3
      subst e1 e2 e3
      have q5 : ((cp : Int) == 0) = false := by simp; omega
      have HP2 : Hid (∀ W vb, DW w W F sb vb m2 ⟨N, 512, 0, ByteArray.empty⟩ → Calls Tryz.prog 68 #[.pointer (some ⟨sb, 0, none⟩), .pointer (some ⟨vb, 0, none⟩), v] W fun e w' => e = .returned (.int .i64 cp) ∧ Hid (Calls Tryz.prog 69 #[.pointer (some ⟨sb, 0, none⟩), .pointer (some ⟨vb, 0, none⟩)] w' fun e w' => e = .returned (.tuple #[]) ∧ DRes F w sb (rem mp N).2 w')) := fun W vb hW =>
        (unhide HP W vb hW).mono fun e w' hh => ⟨hh.1, unhide HD w' vb mp _ (by unfold putDoc; rw [if_neg hcp]; show cp ≠ 13; omega) (by unfold putDoc; rw [if_neg hcp]) hh.2⟩
      clear h hT hmc hcr hp HP HD
      go_enter Tryz.func53, Tryz.ntmps53
      go_wp2_with (first
        | (go_at_call 67; refine (unhide HO).mono ?_; rintro e w1 ⟨vb, rfl, h1⟩; have H1 := hide h1; clear h1)
        | (go_at_call 68; refine (unhide HP2 _ vb (unhide H1)).mono ?_; rintro e w2 ⟨rfl, H2⟩)
        | (go_at_call 69; refine (unhide H2).mono ?_; rintro e w4 ⟨rfl, h4⟩; have H4 := hide h4; clear h4))
      go_ret2
      exact ⟨rfl, unhide H4⟩
  · rw [if_pos hc0] at HB
    injection HB with e1 HB
    injection HB with e2 e3
    subst e1 e2 e3
    obtain ⟨_, rfl⟩ := hmc.2 hc0
    have HO := hide (dopen_fail h (b := 512) (by omega) (by omega) hcr hc0)
    have q3 : ((c0 : Int) == 0) = false := by simp; omega
    clear h hT hmc hcr
    go_enter Tryz.func53, Tryz.ntmps53
    go_wp2_with (go_at_call 67; refine (unhide HO).mono ?_; rintro e w1 ⟨rfl, h1⟩; have H1 := hide h1; clear h1)
    go_ret2
    exact ⟨rfl, unhide H1⟩
end Rs
end Go.Proofs.YtbapnoafjcipjaaGreatDoor
