/- Layer 10: the law's lays, for the run that is there before. -/
import Derived.Test.YtohfhkdhccpoaaaGreatDoorNi
import Derived.Test.YtohfhkdhccpoaaaGreatDoorGu
namespace Go.Proofs.YtohfhkdhccpoaaaGreatDoor
open Go.RowKit Go.Shelf
namespace Rs
open Sm (Tx ofS)
/-- a block that nobody writes into -/
def blkT (b : Nat) (o : Obj) : Thing := ⟨fun w F => F b ∧ (∀ x, F x → x < w.heap.size) ∧ w.heap[b]? = some o, fun h => h.2.1, fun h a b c => ⟨b _ h.1, c, (a _ h.1).trans h.2.2⟩⟩
theorem sep_blk {w wr : World} {L : List Thing} {D : Nat → Nat} {i b : Nat} {o : Obj} (h : Sep w L D wr) (hi : L[i]? = some (blkT b o)) : wr.heap[b]? = some o := by
  obtain ⟨F, k1, -⟩ := h.call (Below.refl _ _) hi
  exact k1.2.2
theorem Sep.front {w wr : World} {L : List Thing} {T : Thing} {D : Nat → Nat} (h : Sep w (L ++ [T]) D wr) : Sep w L D wr := by
  obtain ⟨Fs, h1, h2, h3, h4⟩ := h
  exact ⟨Fs, fun i U hi => h1 i U (by rw [List.getElem?_append_left (List.getElem?_eq_some_iff.1 hi).1]; exact hi), h2, h3, h4⟩
abbrev old : Tx := ⟨#[111, 108, 100]⟩
theorem frame_old {W : World} {v : Value} (h : Um.Txs W v [old]) : Calls Tryz.prog 43 #[v] W fun e w' => e = .returned (.tuple #[.string (strB (Um.frs (Um.rl [old]))), .int .i64 0]) ∧ Below W.heap.size W w' := by
  have hfit : Um.fit (Um.rl [old]) = true := Um.fit_yes fun _ y hy => by
    have : y ∈ [old] := List.mem_of_getElem? hy
    rw [List.mem_singleton.1 this]
    decide
  exact Um.ref_frame v [old] W h (by simp) _ _ (by show _ = _; unfold Um.frA; rw [if_pos hfit]; rfl) (by show _ = _; unfold Um.frE; rw [if_pos hfit])
theorem cb_any {c : Nat} (h : Cb c) : c = 0 ∨ c = 1 ∨ c = 2 ∨ c = 3 ∨ c = 5 ∨ c = 7 ∨ c = 8 ∨ c = 9 ∨ c = 10 ∨ c = 12 ∨ c = 13 := by unfold Cb at h; omega
theorem neq_self (c : Int) : (c != c) = false := by simp
set_option maxRecDepth 100000 in
set_option maxHeartbeats 4000000 in
theorem lays10 {w wr : World} {E : Nat → Addr} {sb tb : Nat} {m0 mA : Sto} {v : Value} (V : EnvZ w E w.heap.size) (h : Sep w [stoT sb m0, ddT tb m0] (fun _ => wr.heap.size) wr) (hv : Um.Txs wr v [old]) (hcr : crt m0 = ((1, 0), mA)) (hls : Ls m0 mA 1 [] false) (hok : mA.Ok) :
    Calls Tryz.prog 23 #[.pointer (some ⟨sb, 0, none⟩), .pointer (some ⟨tb, 0, none⟩), .agg #[.int .i64 1, .int .i64 0, .int .i64 0, .slice none 0 0, v]] wr fun e w' => e = .returned (.bool true) ∧ ∃ mC t s, Sep w [stoT sb mC, ddT tb mC] (fun _ => w'.heap.size) w' ∧ Ls m0 mC 1 t s ∧ mC.Ok := by
  obtain ⟨S, hS⟩ : ∃ S, strB (Um.frs (Um.rl [old])) = S := ⟨_, rfl⟩
  obtain ⟨cB, mB, hap⟩ : ∃ cB mB, app mA 1 [S] = (cB, mB) := ⟨_, _, rfl⟩
  obtain ⟨cC, mC, hse⟩ : ∃ cC mC, sel mB 1 = (cC, mC) := ⟨_, _, rfl⟩
  have hB : Cb cB ∧ (∃ t, Ls m0 mB 1 t false) ∧ mB.Ok := by
    have q1 := ls_app_cb hls [S]
    have q2 := app_okx hok 1 [S]
    have e : app mA ((1 : Nat) : Int) [S] = (cB, mB) := hap
    rw [e] at q1
    rw [hap] at q2
    refine ⟨q1, ?_, q2⟩
    by_cases h0 : cB = 0
    · have q := ls_app (s := Um.frs (Um.rl [old])) hls (by rw [hS, e]; exact h0)
      rw [hS, e] at q
      exact ⟨_, q⟩
    · have q := app_fail (m := mA) (k := ((1 : Nat) : Int)) (L := [S]) (by rw [e]; exact h0)
      rw [e] at q
      exact ⟨_, hls.fail q⟩
  obtain ⟨cbB, ⟨tB, lsB⟩, okB⟩ := hB
  have hC : Cb cC ∧ (∃ t s, Ls m0 mC 1 t s) ∧ mC.Ok := by
    have e : sel mB ((1 : Nat) : Int) = (cC, mC) := hse
    have q1 := ls_sel_cb lsB
    have q2 := sel_okx okB 1
    rw [e] at q1
    rw [hse] at q2
    refine ⟨q1, ?_, q2⟩
    by_cases h0 : cC = 0
    · have q := ls_sel lsB (by rw [e]; exact h0)
      rw [e] at q
      exact ⟨_, _, q⟩
    · have q := sel_fail (m := mB) (k := ((1 : Nat) : Int)) (by rw [e]; exact h0)
      rw [e] at q
      exact ⟨_, _, lsB.fail q⟩
  obtain ⟨cbC, ⟨tC, sC, lsC⟩, okC⟩ := hC
  obtain ⟨xb, hxb⟩ : ∃ xb, wr.heap.size = xb := ⟨_, rfl⟩
  have hv0 := hv
  obtain ⟨av, cv, rfl, -, -, hat⟩ := hv
  obtain ⟨g, off, rfl, hg, hc⟩ := hat (by simp)
  have y0 := hc 0 old rfl
  obtain ⟨O, hO⟩ : ∃ O, O = Obj.cells #[.int .i64 1, .int .i64 0, .int .i64 0, .slice none 0 0, .slice (some ⟨g, off, none⟩) 1 cv] 31 (0, 0) := ⟨_, rfl⟩
  have h8 : Sep w [stoT sb m0, ddT tb m0, blkT xb O] (fun _ => (wr.alloc O).heap.size) (wr.alloc O) := h.add (T := blkT xb O) (G := fun b => b = xb) ⟨rfl, fun x e => by rw [e, ← hxb]; simp, by rw [← hxb]; exact (MapKept.heap_alloc wr O).1⟩ (fun b e => by rw [hxb]; exact Nat.le_of_eq e.symm) ((Below.refl _ wr).alloc (Nat.le_refl _) _)
  have HFIN : Hid (∀ w', Sep w [stoT sb mC, ddT tb mC, blkT xb O] (fun _ => w'.heap.size) w' → ∃ mC t s, Sep w [stoT sb mC, ddT tb mC] (fun _ => w'.heap.size) w' ∧ Ls m0 mC 1 t s ∧ mC.Ok) := fun w' hh => ⟨mC, tC, sC, Sep.front (L := [stoT sb mC, ddT tb mC]) hh, lsC, okC⟩
  have HCD : Hid (∀ W c, Cb c → Below w.heap.size w W → Calls Tryz.prog 27 #[errV E c] W fun e w' => e = .returned (.int .i64 c) ∧ w' = W) := fun W c hc hW => code10 (V.below hW) (cb_any hc)
  have HFR : Hid (∀ W, Below wr.heap.size wr W → Calls Tryz.prog 43 #[.slice (some ⟨g, off, none⟩) 1 cv] W fun e w' => e = .returned (.tuple #[.string S, .int .i64 0]) ∧ Below W.heap.size W w') := fun W hW => by
    rw [← hS]
    exact frame_old (hv0.below hW)
  have HC1 : Hid (∀ W, Below (wr.alloc O).heap.size (wr.alloc O) W → Calls Tryz.prog 29 #[.pointer (some ⟨sb, 0, none⟩)] W fun e w' => e = .returned (.tuple #[.int .i64 1, .nilIface]) ∧ Sep w [stoT sb mA, ddT tb m0, blkT xb O] (fun _ => w'.heap.size) w') := fun W hW => by
    have q := sep_create (i := 0) V (h8.below hW).reset rfl
    rw [hcr] at q
    exact q
  have HC2 : Hid (∀ W, Sep w [stoT sb mA, ddT tb m0, blkT xb O] (fun _ => W.heap.size) W → Calls Tryz.prog 44 #[.pointer (some ⟨tb, 0, none⟩)] W fun e w' => e = .returned (.tuple #[.int .i64 1, .int .i64 0]) ∧ Sep w [stoT sb mA, ddT tb mA, blkT xb O] (fun _ => w'.heap.size) w') := fun W hW => by
    have q := sep_dcreate (i := 1) hW rfl
    rw [hcr] at q
    exact q
  have HA1 : Hid (∀ W, Sep w [stoT sb mA, ddT tb mA, blkT xb O] (fun _ => W.heap.size) W → Calls Tryz.prog 45 #[.pointer (some ⟨sb, 0, none⟩), .int .i64 1, .slice (some ⟨W.heap.size, 0, none⟩) 1 1] (W.alloc (.cells #[.string S] 9)) fun e w' => e = .returned (errV E cB) ∧ Sep w [stoT sb mB, ddT tb mA, blkT xb O] (fun _ => w'.heap.size) w') := fun W hW => by
    have q := sep_append (i := 0) V hW rfl 1 (by decide) (by decide) S
    rw [hap] at q
    exact q
  have HA2 : Hid (∀ W, Sep w [stoT sb mB, ddT tb mA, blkT xb O] (fun _ => W.heap.size) W → Calls Tryz.prog 46 #[.pointer (some ⟨tb, 0, none⟩), .int .i64 1, .slice (some ⟨W.heap.size, 0, none⟩) 1 1] (W.alloc (.cells #[.string S] 9)) fun e w' => e = .returned (.int .i64 (cB : Nat)) ∧ Sep w [stoT sb mB, ddT tb mB, blkT xb O] (fun _ => w'.heap.size) w') := fun W hW => by
    have q := sep_dappend (i := 1) hW rfl 1 S
    rw [hap] at q
    exact q
  have HS1 : Hid (∀ W, Sep w [stoT sb mB, ddT tb mB, blkT xb O] (fun _ => W.heap.size) W → Calls Tryz.prog 47 #[.pointer (some ⟨sb, 0, none⟩), .int .i64 1] W fun e w' => e = .returned (errV E cC) ∧ Sep w [stoT sb mC, ddT tb mB, blkT xb O] (fun _ => w'.heap.size) w') := fun W hW => by
    have q := sep_seal (i := 0) V hW rfl 1 (by decide) (by decide)
    rw [hse] at q
    exact q
  have HS2 : Hid (∀ W, Sep w [stoT sb mC, ddT tb mB, blkT xb O] (fun _ => W.heap.size) W → Calls Tryz.prog 48 #[.pointer (some ⟨tb, 0, none⟩), .int .i64 1] W fun e w' => e = .returned (.int .i64 (cC : Nat)) ∧ Sep w [stoT sb mC, ddT tb mC, blkT xb O] (fun _ => w'.heap.size) w') := fun W hW => by
    have q := sep_dseal (i := 1) hW rfl 1
    rw [hse] at q
    exact q
  have HOL : Hid (∀ L, ∀ W, Sep w L (fun _ => W.heap.size) W → Below w.heap.size w W) := fun L W hW => hW.old
  have HBX : Hid (∀ L W, Sep w (L ++ [blkT xb O]) (fun _ => W.heap.size) W → W.cell? ⟨xb, 0, none⟩ = some (.int .i64 1) ∧ W.cell? ⟨xb, 1, none⟩ = some (.int .i64 0)) := fun L W hW => by
    have q := (sep_blk (i := L.length) (b := xb) (o := O) hW (by simp)).trans (congrArg some hO)
    exact ⟨by rw [cell_of_row W xb 0 _ _ (0, 0) q]; rfl, by rw [cell_of_row W xb 1 _ _ (0, 0) q]; rfl⟩
  have hb0 : Below wr.heap.size wr (wr.alloc O) := (Below.refl _ wr).alloc (Nat.le_refl _) _
  have z0 : (wr.alloc O).cell? ⟨g, off + 0, none⟩ = some (.string old) := (hb0.cell (p := ⟨g, off + 0, none⟩) hg).trans y0
  have hbk := (sep_blk (i := 2) (b := xb) (o := O) h8 rfl).trans (congrArg some hO)
  have z1 := cell_of_row (wr.alloc O) xb 0 _ _ (0, 0) hbk
  have z2 := cell_of_row (wr.alloc O) xb 4 _ _ (0, 0) hbk
  simp at z1 z2
  rw [Nat.add_zero] at z0
  have HCB := hide cbB
  have HCC := hide cbC
  clear V h hcr hls hok hap hse hS cbB cbC lsB okB lsC okC hat hc y0 hv0 hbk h8
  go_enter Tryz.func23, Tryz.ntmps23
  rw [hO] at HC1 z0 z1 z2 hb0
  have HO := hide hO
  clear hO
  go_wp2
  have bW : Below wr.heap.size wr (wr.alloc (.cells #[.int .i64 1, .int .i64 0, .int .i64 0, .slice none 0 0, .slice (some ⟨g, off, none⟩) 1 cv] 31)) := hb0
  clear hb0
  generalize wr.alloc _ = W0 at *
  have HFR0 := hide (unhide HFR W0 bW)
  go_loopw [7, 17] (fun s7 s17 wr => ∃ k : Nat, s17 = .int .i64 (k : Int) ∧ wr = W0 ∧ ((k = 0 ∧ s7 = .string ⟨#[]⟩) ∨ (k = 1 ∧ ∃ s, s7 = .string s))) (fun _ s17 _ => 1 - (intOf s17).toNat)
  case atStart => exact ⟨0, rfl, rfl, .inl ⟨rfl, rfl⟩⟩
  case round =>
    obtain ⟨k, rfl, rfl, ⟨rfl, rfl⟩ | ⟨rfl, s7, rfl⟩⟩ := hrel
    · go_wp2
      go_roundw
      case rel => exact ⟨1, rfl, trivial, .inr ⟨rfl, _, rfl⟩⟩
      case measure => simp [intOf]
    · have HCZ : Hid (∀ W, Below w.heap.size w W → Calls Tryz.prog 27 #[.nilIface] W fun e w' => e = .returned (.int .i64 0) ∧ w' = W) := fun W hW => unhide HCD W 0 (.inl rfl) hW
      have HCB2 : Hid (∀ W, Below w.heap.size w W → Calls Tryz.prog 27 #[errV E cB] W fun e w' => e = .returned (.int .i64 (cB : Nat)) ∧ w' = W) := fun W hW => unhide HCD W cB (unhide HCB) hW
      have HCC2 : Hid (∀ W, Below w.heap.size w W → Calls Tryz.prog 27 #[errV E cC] W fun e w' => e = .returned (.int .i64 (cC : Nat)) ∧ w' = W) := fun W hW => unhide HCD W cC (unhide HCC) hW
      generalize errV E cB = vB at *
      generalize errV E cC = vC at *
      clear HCD HCB HCC z0 HFR bW
      go_wp2_with fail
      refine (unhide HFR0).mono ?_
      rintro e w1 ⟨rfl, b1⟩
      have HC := hide (unhide HC1 w1 b1)
      clear b1 HFR0 HC1 z1 z2
      go_wp2_with fail
      refine (unhide HC).mono ?_
      rintro e w2 ⟨rfl, s2⟩
      rw [← unhide HO] at s2
      have HD := hide (unhide HC2 w2 s2)
      clear s2 HC HC2
      go_wp2_with fail
      refine (unhide HD).mono ?_
      rintro e w3 ⟨rfl, s3⟩
      have HK := hide (unhide HCZ w3 s3.old)
      have HAA := hide (unhide HA1 w3 s3)
      clear s3 HD HCZ HA1
      go_wp2_with fail
      refine (unhide HK).mono ?_
      rintro e w3' ⟨rfl, hw⟩
      have hw' := hw.symm
      subst hw'
      clear hw HK
      go_wp2_with fail
      refine (unhide HAA).mono ?_
      rintro e w4 ⟨rfl, s4⟩
      have HK := hide (unhide HCB2 w4 s4.old)
      have HAB := hide (unhide HA2 w4 s4)
      clear s4 HAA HA2 HCB2
      go_wp2_with fail
      refine (unhide HK).mono ?_
      rintro e w4' ⟨rfl, hw⟩
      have hw' := hw.symm
      subst hw'
      clear hw HK
      go_wp2_with fail
      refine (unhide HAB).mono ?_
      rintro e w5 ⟨rfl, s5⟩
      obtain ⟨x0, x1⟩ := unhide HBX [stoT sb mB, ddT tb mB] w5 s5
      have HSS := hide (unhide HS1 w5 s5)
      clear s5 HAB HS1 HBX
      go_wp2_with fail
      refine (unhide HSS).mono ?_
      rintro e w6 ⟨rfl, s6⟩
      have HK := hide (unhide HCC2 w6 s6.old)
      have HST := hide (unhide HS2 w6 s6)
      clear s6 HSS HS2 HCC2 x0 x1
      go_wp2_with fail
      refine (unhide HK).mono ?_
      rintro e w6' ⟨rfl, hw⟩
      have hw' := hw.symm
      subst hw'
      clear hw HK
      go_wp2_with fail
      refine (unhide HST).mono ?_
      rintro e w7 ⟨rfl, s7'⟩
      have HF := hide (unhide HFIN w7 s7')
      clear s7' HST HFIN
      go_wp2
      go_ret
      exact ⟨by simp, unhide HF⟩
end Rs
end Go.Proofs.YtohfhkdhccpoaaaGreatDoor
