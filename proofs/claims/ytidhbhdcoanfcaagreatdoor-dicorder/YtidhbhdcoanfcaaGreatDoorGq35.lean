import Derived.Test.YtidhbhdcoanfcaaGreatDoorGq34
set_option maxHeartbeats 8000000
set_option maxRecDepth 100000
namespace Go.Proofs.YtidhbhdcoanfcaaGreatDoor
open Go.RowKit
namespace Af
open RowB
def ewr (W : World) (b : Nat) (y0 y1 : Value) : World := (W.setCell ⟨b, 0, none⟩ y0).setCell ⟨b, 1, none⟩ y1
theorem ewr_facts {w W : World} {b : Nat} {x0 x1 : Value} (h : W.heap[b]? = some (.cells #[x0, x1] 56 (0, 0))) (hb : w.heap.size ≤ b) (k : Below w.heap.size w W) (y0 y1 : Value) :
  (ewr W b y0 y1).cell? ⟨b, 0, none⟩ = some y0 ∧ (ewr W b y0 y1).cell? ⟨b, 1, none⟩ = some y1 ∧ Below w.heap.size w (ewr W b y0 y1) ∧ Kp b W (ewr W b y0 y1) := by
 have h2 := set_heap1 (k := 1) (set_heap1 (k := 0) h y0) y1
 refine ⟨?_, ?_, (k.setCell (p := ⟨b, 0, none⟩) hb y0).setCell (p := ⟨b, 1, none⟩) hb y1, kp_trans (kp_set W b 0 y0) (kp_set _ b 1 y1)⟩ <;> simp [ewr, World.cell?, h2]
theorem ent_cells {W : World} {b : Nat} {x0 x1 : Value} (h : W.heap[b]? = some (.cells #[x0, x1] 56 (0, 0))) : W.cell? ⟨b, 0, none⟩ = some x0 ∧ W.cell? ⟨b, 1, none⟩ = some x1 ∧ (∀ k, W.frozen? ⟨b, k, none⟩ = false) ∧ b < W.heap.size := by
 refine ⟨?_, ?_, fun k => ?_, lt_some h⟩ <;> simp [World.cell?, World.frozen?, h]
def EntRes (w : World) (X : Except Nat Ent) (e : Ending) (w' : World) : Prop := Below w.heap.size w w' ∧ match X with
 | .error c => e = .returned (.tuple #[.agg #[.string ⟨#[]⟩, .slice none 0 0], .int .i64 (c : Nat)])
 | .ok x => ∃ u, e = .returned (.tuple #[.agg #[.string (Wd.str x.word), u], .int .i64 0]) ∧ FNx w.heap.size w' u x.flags
theorem EntRes.no {w w' : World} {X : Except Nat Ent} {c : Nat} (h : X = .error c) (k : Below w.heap.size w w') : EntRes w X (.returned (.tuple #[.agg #[.string ⟨#[]⟩, .slice none 0 0], .int .i64 (c : Nat)])) w' := by
 subst h
 exact ⟨k, rfl⟩
theorem EntRes.yes {w w' : World} {X : Except Nat Ent} {a : Bs} {fl : List Int} {u : Value} (h : X = .ok ⟨a, fl⟩) (k : Below w.heap.size w w') (f : FNx w.heap.size w' u fl) : EntRes w X (.returned (.tuple #[.agg #[.string (Wd.str a), u], .int .i64 0])) w' := by
 subst h
 exact ⟨k, u, rfl, f⟩
theorem fnx_slice {B : Nat} {w : World} {v : Value} {l : List Int} (h : FNx B w v l) : ∃ a n c, v = .slice a n c := by
 rcases h with ⟨rfl, -⟩ | ⟨g, cap, cur, rfl, -⟩
 ·exact ⟨_, _, _, rfl⟩
 ·exact ⟨_, _, _, rfl⟩
structure EntH (B : Nat) (w : World) (rb g : Nat) (s0 : ByteArray) : Prop where
 hc0 : ∀ o, (w.alloc o).cell? ⟨g, 0, none⟩ = some (.string s0)
 hk : ∀ (W : World), Below (w.alloc (.cells #[.string ⟨#[]⟩, .slice none 0 0] 56)).heap.size (w.alloc (.cells #[.string ⟨#[]⟩, .slice none 0 0] 56)) W → Below w.heap.size w W ∧ W.heap[w.heap.size]? = some (.cells #[.string ⟨#[]⟩, .slice none 0 0] 56 (0, 0))
theorem EntH.of {B rb g : Nat} {w : World} {row : List Bs} (h1 : row.length = 1) (hg : g < w.heap.size) (hcl : ∀ (j : Nat) x, row[j]? = some x → w.cell? ⟨g, j, none⟩ = some (.string (Fld.str x))) : EntH B w rb g (Fld.str (fld row 0)) := by
 have hf0 : row[0]? = some (fld row 0) := by unfold fld; rw [List.getElem?_eq_getElem (by omega)]; rfl
 refine ⟨fun o => (((Below.refl w.heap.size w).alloc (Nat.le_refl _) o).cell (p := ⟨g, 0, none⟩) hg).trans (hcl 0 _ hf0), fun W b => ?_⟩
 have hb1 := (Below.refl w.heap.size w).alloc (Nat.le_refl _) (.cells #[.string ⟨#[]⟩, .slice none 0 0] 56)
 exact ⟨hb1.trans (b.mono hb1.size), (b.block w.heap.size (by simp)).trans (alloc_new w _)⟩
abbrev EntC (rb g cap : Nat) (w : World) (X : Except Nat Ent) : Prop := Calls Tryz.prog 91 #[ptr rb, .slice (some ⟨g, 0, none⟩) 1 cap] w (EntRes w X)
theorem entry_esc {B rb g cap : Nat} {w : World} {s0 : ByteArray} (h : EntH B w rb g s0) {X : Except Nat Ent} (hR : ∀ W, Calls Tryz.prog 113 #[.string s0] W fun e w' => e = .returned (.tuple #[.string ⟨#[]⟩, .string ⟨#[]⟩, .bool false, .int .i64 20]) ∧ Below W.heap.size W w') (hE : X = .error 20) : EntC rb g cap w X := by
 have hc0 := h.hc0
 have HK := hide h.hk
 have HR := hide hR
 have HE := hide hE
 clear hR hE
 clear h
 go_enter Tryz.func91, Tryz.ntmps91
 go_wp2_with (first | (go_at_call 113; refine (unhide HR _).mono ?_; rintro e w2 ⟨rfl, b2⟩; have B2 := hide b2; obtain ⟨q1, q2⟩ := unhide HK _ b2; obtain ⟨k0, k1, kz, klt⟩ := ent_cells q2; have HQ := hide q1; have HQ2 := hide q2; clear q1 q2 b2))
 obtain ⟨m0, m1, mb, -⟩ := ewr_facts (unhide HQ2) (Nat.le_refl _) (unhide HQ) (.string ⟨#[]⟩) (.slice none 0 0)
 show bodyPost _ _ _ Exit.ret _ (ewr w2 w.heap.size (.string ⟨#[]⟩) (.slice none 0 0))
 refine bodyPost_ret (v := .tuple #[.agg #[.string ⟨#[]⟩, .slice none 0 0], .int .i64 20]) (by simp [results, Tryz.results91, go_sem, m0, m1]) rfl ?_
 exact EntRes.no (c := 20) (unhide HE) mb
theorem entry_word {B rb g cap : Nat} {w : World} {s0 : ByteArray} (h : EntH B w rb g s0) {X : Except Nat Ent} {a0 r0 : ByteArray} {c : Bool} {c0 : Nat} (hR : ∀ W, Calls Tryz.prog 113 #[.string s0] W fun e w' => e = .returned (.tuple #[.string a0, .string r0, .bool c, .int .i64 0]) ∧ Below W.heap.size W w') (hW : ∀ W, Calls Tryz.prog 114 #[.string a0] W fun e w' => e = .returned (.int .i64 (c0 : Nat)) ∧ Below W.heap.size W w') (hc : c0 ≠ 0) (hE : X = .error c0) : EntC rb g cap w X := by
 have hc0 := h.hc0
 have HK := hide h.hk
 have HR := hide hR
 have HW := hide hW
 have HE := hide hE
 have hdb : ((c0 : Int) == 0) = false := by simp [hc]
 clear hR hW hE hc
 clear h
 go_enter Tryz.func91, Tryz.ntmps91
 go_wp2_with (first | (go_at_call 113; refine (unhide HR _).mono ?_; rintro e w2 ⟨rfl, b2⟩; have B2 := hide b2; obtain ⟨q1, q2⟩ := unhide HK _ b2; obtain ⟨k0, k1, kz, klt⟩ := ent_cells q2; have HQ := hide q1; have HQ2 := hide q2; clear q1 q2 b2) | (go_at_call 114; refine (unhide HW _).mono ?_; rintro e w3 ⟨rfl, b3⟩; have B3 := hide (btr (unhide B2) b3); obtain ⟨q1, q2⟩ := unhide HK _ (unhide B3); obtain ⟨j0, j1, jz, jlt⟩ := ent_cells q2; have HQ3 := hide q1; have HQ23 := hide q2; clear q1 q2 b3))
 obtain ⟨m0, m1, mb, -⟩ := ewr_facts (unhide HQ23) (Nat.le_refl _) (unhide HQ3) (.string ⟨#[]⟩) (.slice none 0 0)
 show bodyPost _ _ _ Exit.ret _ (ewr w3 w.heap.size (.string ⟨#[]⟩) (.slice none 0 0))
 refine bodyPost_ret (v := .tuple #[.agg #[.string ⟨#[]⟩, .slice none 0 0], .int .i64 (c0 : Nat)]) (by simp [results, Tryz.results91, go_sem, m0, m1]) rfl ?_
 exact EntRes.no (c := c0) (unhide HE) mb
theorem entry_plain {B rb g cap : Nat} {w : World} {s0 : ByteArray} (h : EntH B w rb g s0) {X : Except Nat Ent} {a : Bs} {a0 r0 : ByteArray} (hR : ∀ W, Calls Tryz.prog 113 #[.string s0] W fun e w' => e = .returned (.tuple #[.string a0, .string r0, .bool false, .int .i64 0]) ∧ Below W.heap.size W w') (hW : ∀ W, Calls Tryz.prog 114 #[.string a0] W fun e w' => e = .returned (.int .i64 0) ∧ Below W.heap.size W w') (hA : Wd.str a = a0) (hE : X = .ok ⟨a, []⟩) : EntC rb g cap w X := by
 have hc0 := h.hc0
 have HK := hide h.hk
 have HR := hide hR
 have HW := hide hW
 have HE := hide hE
 have HA0 := hide hA
 clear hR hW hE hA
 clear h
 go_enter Tryz.func91, Tryz.ntmps91
 go_wp2_with (first | (go_at_call 113; refine (unhide HR _).mono ?_; rintro e w2 ⟨rfl, b2⟩; have B2 := hide b2; obtain ⟨q1, q2⟩ := unhide HK _ b2; obtain ⟨k0, k1, kz, klt⟩ := ent_cells q2; have HQ := hide q1; have HQ2 := hide q2; clear q1 q2 b2) | (go_at_call 114; refine (unhide HW _).mono ?_; rintro e w3 ⟨rfl, b3⟩; have B3 := hide (btr (unhide B2) b3); obtain ⟨q1, q2⟩ := unhide HK _ (unhide B3); obtain ⟨j0, j1, jz, jlt⟩ := ent_cells q2; have HQ3 := hide q1; have HQ23 := hide q2; clear q1 q2 b3))
 obtain ⟨m0, m1, mb, mk⟩ := ewr_facts (unhide HQ23) (Nat.le_refl _) (unhide HQ3) (.string a0) (.slice none 0 0)
 show bodyPost _ _ _ Exit.ret _ (ewr w3 w.heap.size (.string a0) (.slice none 0 0))
 refine bodyPost_ret (v := .tuple #[.agg #[.string a0, .slice none 0 0], .int .i64 0]) (by simp [results, Tryz.results91, go_sem, m0, m1]) rfl ?_
 have hA0 : Wd.str a = a0 := unhide HA0
 subst hA0
 exact EntRes.yes (unhide HE) mb (.inl ⟨rfl, rfl⟩)
theorem entry_known {B rb g cap : Nat} {w : World} {s0 : ByteArray} (h : EntH B w rb g s0) {X : Except Nat Ent} {a : Bs} {fl : List Int} {a0 r0 : ByteArray} (hR : ∀ W, Calls Tryz.prog 113 #[.string s0] W fun e w' => e = .returned (.tuple #[.string a0, .string r0, .bool true, .int .i64 0]) ∧ Below W.heap.size W w') (hW : ∀ W, Calls Tryz.prog 114 #[.string a0] W fun e w' => e = .returned (.int .i64 0) ∧ Below W.heap.size W w') (hD : ∀ W, Below w.heap.size w W → Calls Tryz.prog 115 #[ptr rb, .string r0] W fun e w' => ∃ u, e = .returned (.tuple #[u, .int .i64 0]) ∧ FNx W.heap.size w' u fl ∧ Below W.heap.size W w') (hA : Wd.str a = a0) (hE : X = .ok ⟨a, fl⟩) : EntC rb g cap w X := by
 have hc0 := h.hc0
 have HK := hide h.hk
 have HR := hide hR
 have HW := hide hW
 have HD := hide hD
 have HE := hide hE
 have HA0 := hide hA
 clear hR hW hD hE hA
 clear h
 go_enter Tryz.func91, Tryz.ntmps91
 go_wp2_with (first | (go_at_call 113; refine (unhide HR _).mono ?_; rintro e w2 ⟨rfl, b2⟩; have B2 := hide b2; obtain ⟨q1, q2⟩ := unhide HK _ b2; obtain ⟨k0, k1, kz, klt⟩ := ent_cells q2; have HQ := hide q1; have HQ2 := hide q2; clear q1 q2 b2) | (go_at_call 114; refine (unhide HW _).mono ?_; rintro e w3 ⟨rfl, b3⟩; have B3 := hide (btr (unhide B2) b3); obtain ⟨q1, q2⟩ := unhide HK _ (unhide B3); obtain ⟨j0, j1, jz, jlt⟩ := ent_cells q2; have HQ3 := hide q1; have HQ23 := hide q2; clear q1 q2 b3) | (go_at_call 115; refine (unhide HD _ (unhide HQ3)).mono ?_; rintro e w4 ⟨u, rfl, f4, b4⟩; obtain ⟨ua, un, uc, rfl⟩ := fnx_slice f4; have B4 := hide (btr (unhide B3) b4); obtain ⟨q1, q2⟩ := unhide HK _ (unhide B4); obtain ⟨i0, i1, iz, ilt⟩ := ent_cells q2; have HQ4 := hide q1; have HQ24 := hide q2; have HF4 := hide f4; clear q1 q2 b4 f4))
 obtain ⟨m0, m1, mb, mk⟩ := ewr_facts (unhide HQ24) (Nat.le_refl _) (unhide HQ4) (.string a0) (.slice ua un uc)
 show bodyPost _ _ _ Exit.ret _ (ewr w4 w.heap.size (.string a0) (.slice ua un uc))
 refine bodyPost_ret (v := .tuple #[.agg #[.string a0, .slice ua un uc], .int .i64 0]) (by simp [results, Tryz.results91, go_sem, m0, m1]) rfl ?_
 have hA0 : Wd.str a = a0 := unhide HA0
 subst hA0
 exact EntRes.yes (unhide HE) mb (fnx_kq (T := [56]) (M := noM) (fnx_low (unhide HF4) (by have := (unhide HQ3).size; omega)) (Kq.kp mk (unhide HQ24) (by simp)) (by decide))
theorem entry_bad {B rb g cap : Nat} {w : World} {s0 : ByteArray} (h : EntH B w rb g s0) {X : Except Nat Ent} {a0 r0 : ByteArray} {c0 : Nat} (hR : ∀ W, Calls Tryz.prog 113 #[.string s0] W fun e w' => e = .returned (.tuple #[.string a0, .string r0, .bool true, .int .i64 0]) ∧ Below W.heap.size W w') (hW : ∀ W, Calls Tryz.prog 114 #[.string a0] W fun e w' => e = .returned (.int .i64 0) ∧ Below W.heap.size W w') (hD : ∀ W, Below w.heap.size w W → Calls Tryz.prog 115 #[ptr rb, .string r0] W fun e w' => ∃ u, e = .returned (.tuple #[u, .int .i64 (c0 : Nat)]) ∧ True ∧ Below W.heap.size W w') (hc : c0 ≠ 0) (hE : X = .error c0) : EntC rb g cap w X := by
 have hc0 := h.hc0
 have HK := hide h.hk
 have HR := hide hR
 have HW := hide hW
 have HD := hide hD
 have HE := hide hE
 have hdb : ((c0 : Int) == 0) = false := by simp [hc]
 clear hR hW hD hE hc
 clear h
 go_enter Tryz.func91, Tryz.ntmps91
 go_wp2_with (first | (go_at_call 113; refine (unhide HR _).mono ?_; rintro e w2 ⟨rfl, b2⟩; have B2 := hide b2; obtain ⟨q1, q2⟩ := unhide HK _ b2; obtain ⟨k0, k1, kz, klt⟩ := ent_cells q2; have HQ := hide q1; have HQ2 := hide q2; clear q1 q2 b2) | (go_at_call 114; refine (unhide HW _).mono ?_; rintro e w3 ⟨rfl, b3⟩; have B3 := hide (btr (unhide B2) b3); obtain ⟨q1, q2⟩ := unhide HK _ (unhide B3); obtain ⟨j0, j1, jz, jlt⟩ := ent_cells q2; have HQ3 := hide q1; have HQ23 := hide q2; clear q1 q2 b3) | (go_at_call 115; refine (unhide HD _ (unhide HQ3)).mono ?_; rintro e w4 ⟨u, rfl, f4, b4⟩; have B4 := hide (btr (unhide B3) b4); obtain ⟨q1, q2⟩ := unhide HK _ (unhide B4); obtain ⟨i0, i1, iz, ilt⟩ := ent_cells q2; have HQ4 := hide q1; have HQ24 := hide q2; have HF4 := hide f4; clear q1 q2 b4 f4))
 obtain ⟨m0, m1, mb, -⟩ := ewr_facts (unhide HQ24) (Nat.le_refl _) (unhide HQ4) (.string ⟨#[]⟩) (.slice none 0 0)
 show bodyPost _ _ _ Exit.ret _ (ewr w4 w.heap.size (.string ⟨#[]⟩) (.slice none 0 0))
 refine bodyPost_ret (v := .tuple #[.agg #[.string ⟨#[]⟩, .slice none 0 0], .int .i64 (c0 : Nat)]) (by simp [results, Tryz.results91, go_sem, m0, m1]) rfl ?_
 exact EntRes.no (c := c0) (unhide HE) mb
theorem entry_len {w : World} {rb g n cap : Nat} {X : Except Nat Ent} (hb : ((n : Int) == 1) = false) (hE : X = .error 111) : Calls Tryz.prog 91 #[ptr rb, .slice (some ⟨g, 0, none⟩) n cap] w (EntRes w X) := by
 have HB1 := hide ((Below.refl w.heap.size w).alloc (Nat.le_refl _) (.cells #[.string ⟨#[]⟩, .slice none 0 0] 56))
 have HV := hide (alloc_new w (.cells #[.string ⟨#[]⟩, .slice none 0 0] 56))
 have HE := hide hE
 clear hE
 go_enter Tryz.func91, Tryz.ntmps91
 go_wp2
 obtain ⟨m0, m1, -, -⟩ := ent_cells (unhide HV)
 refine bodyPost_ret (v := .tuple #[.agg #[.string ⟨#[]⟩, .slice none 0 0], .int .i64 111]) (by simp [results, Tryz.results91, go_sem]) rfl ?_
 exact EntRes.no (c := 111) (unhide HE) (unhide HB1)
theorem entry_any {B n0 rb wb l0 : Nat} {w : World} {F : Fil} {P : Pts} (h : DH B w rb F P wb l0) (hM : Mx B w) (hBw : B ≤ w.heap.size) (hN : Np (fun a => ∀ x ∈ a, 0 ≤ x ∧ x ≤ 65535) F) {v : Value} {row : List Bs} (hS : StrRow n0 w v (row.map Fld.str)) (hf : ∀ f ∈ row, f.length ≤ 65536) :
  Calls Tryz.prog 91 #[ptr rb, v] w (EntRes w (entRow F row)) := by
 obtain ⟨g, cap, rfl, hg, hlen, hcm, -, hcl⟩ := str_cells hS
 by_cases h1 : row.length = 1
 ·have hH := EntH.of (B := B) (rb := rb) h1 hg hcl
  have hf0 : row[0]? = some (fld row 0) := by unfold fld; rw [List.getElem?_eq_getElem (by omega)]; rfl
  have hz := hf _ (List.mem_of_getElem? hf0)
  have hzs : (Fld.str (fld row 0)).size = (fld row 0).length := by show (fld row 0).toArray.size = _; simp
  have hdd : (Fld.str (fld row 0)).data.toList = fld row 0 := by simp [Fld.str]
  have hX : entRow F row = entE F (fld row 0) := by
   unfold entRow
   rw [if_neg (by simp [h1])]
  have hR := fun W => RdW.read_any (Fld.str (fld row 0)) W (by rw [hzs]; omega)
  rw [hdd] at hR
  rw [h1]
  rcases hr : Wd.rd [] (fld row 0) with _ | ⟨a, r, c⟩
  ·rw [hr] at hR
   exact entry_esc hH hR (by rw [hX]; unfold entE; rw [hr])
  ·have hz2 := rd_len0 (s := Fld.str (fld row 0)) (by rw [hdd]; exact hr)
   rw [hr] at hR
   have hW := fun W => checkWord_any (Wd.str a) W (by omega)
   rw [Wd.str_list] at hW
   have hD := fun W (b : Below w.heap.size w W) => dflags_any (h.below b) (hM.low (b.mono hBw)) hN (Wd.str r) (by omega)
   rw [Wd.str_list] at hD
   by_cases hk : chkW a = 0
   ·rw [hk] at hW
    cases c with
    | false =>
     refine entry_plain (a := a) hH hR hW rfl ?_
     rw [hX]; unfold entE; rw [hr]
     simp [hk]
    | true =>
     by_cases hd : flgsE F r = 0
     ·rw [hd] at hD
      refine entry_known (a := a) (fl := flgS F r) hH hR hW (fun W b => (hD W b).mono ?_) rfl ?_
      ·rintro e w' ⟨u, rfl, f, k⟩
       exact ⟨u, rfl, f rfl, k⟩
      ·rw [hX]; unfold entE; rw [hr]
       simp [hk, hd]
     ·refine entry_bad (c0 := flgsE F r) hH hR hW (fun W b => (hD W b).mono ?_) hd ?_
      ·rintro e w' ⟨u, rfl, f, k⟩
       exact ⟨u, rfl, trivial, k⟩
      ·rw [hX]; unfold entE; rw [hr]
       simp [hk, hd]
   ·refine entry_word (c0 := chkW a) hH hR hW hk ?_
    rw [hX]; unfold entE; rw [hr]
    simp [hk]
 ·exact entry_len (by simp; omega) (by unfold entRow; rw [if_pos h1])
structure WPts where
 ve : Value
 mb : Nat
 fv : List Value
 nf : Bs → Value
def entC (x : Ent) (v : Value) : List Value := [.string (Wd.str x.word), v]
def numsF : Nat → List Ent → Bs → List Int
 | _, [], _ => []
 | k, x :: t, s => if x.word = s then (k : Int) :: numsF (k + 1) t s else numsF (k + 1) t s
theorem numsF_snoc : ∀ (E : List Ent) (k : Nat) (x : Ent) (s : Bs), numsF k (E ++ [x]) s = numsF k E s ++ (if x.word = s then [((k + E.length : Nat) : Int)] else [])
 | [], k, x, s => by
  simp only [List.nil_append, numsF, List.length_nil, Nat.add_zero]
 | y :: t, k, x, s => by
  rw [List.cons_append, numsF, numsF, numsF_snoc t (k + 1) x s, show k + 1 + t.length = k + (y :: t).length by simp; omega]
  by_cases h : y.word = s
  ·rw [if_pos h, if_pos h]; rfl
  ·rw [if_neg h, if_neg h]
theorem numsF_head : ∀ (E : List Ent) (k : Nat) (s : Bs) (i : Int) (t : List Int), numsF k E s = i :: t → ∃ (j : Nat) (x : Ent), i = ((k + j : Nat) : Int) ∧ E[j]? = some x ∧ x.word = s
 | [], k, s, i, t, h => by cases h
 | x :: r, k, s, i, t, h => by
  rw [numsF] at h
  by_cases e : x.word = s
  ·rw [if_pos e] at h
   injection h with h _
   exact ⟨0, x, by rw [← h]; rfl, rfl, e⟩
  ·rw [if_neg e] at h
   obtain ⟨j, y, h1, h2, h3⟩ := numsF_head r (k + 1) s i t h
   exact ⟨j + 1, y, by rw [h1]; congr 1; omega, by simpa using h2, h3⟩
theorem numsF_nil : ∀ (E : List Ent) (k : Nat) (s : Bs), s ∉ E.map (·.word) → numsF k E s = []
 | [], _, _, _ => rfl
 | x :: t, k, s, h => by
  simp only [List.map_cons, List.mem_cons, not_or] at h
  rw [numsF, if_neg (fun e => h.1 e.symm), numsF_nil t (k + 1) s h.2]
theorem numsF_ne : ∀ (E : List Ent) (k : Nat) (s : Bs), s ∈ E.map (·.word) → numsF k E s ≠ []
 | [], _, _, h => by cases h
 | x :: t, k, s, h => by
  rw [numsF]
  by_cases e : x.word = s
  ·rw [if_pos e]; simp
  ·rw [if_neg e]
   simp only [List.map_cons, List.mem_cons] at h
   exact numsF_ne t (k + 1) s (h.resolve_left fun q => e q.symm)
theorem numsF_len : ∀ (E : List Ent) (k : Nat) (s : Bs), (numsF k E s).length ≤ E.length
 | [], _, _ => by simp [numsF]
 | x :: t, k, s => by
  have := numsF_len t (k + 1) s
  rw [numsF]
  split <;> simp <;> omega
def numM (E : List Ent) (nf : Bs → Value) : Lit → Option Value
 | .string s => if s ∈ E.map (·.word) then some (nf s) else none
 | _ => none
structure WA (n : Nat) (w : World) (wb : Nat) (E1 E2 : List Ent) (Q : WPts) : Prop where
 wbN : n ≤ wb
 mbN : n ≤ Q.mb
 base : n ≤ w.heap.size
 hd : w.heap[wb]? = some (.cells #[Q.ve, .map (some Q.mb)] 120 (0, 0))
 ents : w.ownsRow n 56 2 Q.ve E1.length ((E1.zip Q.fv).flatMap fun p => entC p.1 p.2)
 fvs : Q.fv.length = E1.length ∧ ∀ (i : Nat) v x, Q.fv[i]? = some v → E1[i]? = some x → FNx n w v x.flags
 mp : ∃ k, k ≤ E2.length ∧ MapF w 9 Q.mb k (numM E2 Q.nf)
 nums : ∀ s, s ∈ E2.map (·.word) → So.IRow n w (Q.nf s) (numsF 0 E2 s)
 few : E2.length ≤ 8192
theorem WA.frame {n wb : Nat} {w w' : World} {E1 E2 : List Ent} {Q : WPts} {T : List TypeId} {M : Nat → Prop} (h : WA n w wb E1 E2 Q) (k : Kq T M w w') (t1 : 120 ∉ T) (t2 : 56 ∉ T) (t3 : 36 ∉ T) (t4 : 3 ∉ T) (m : ¬ M Q.mb) : WA n w' wb E1 E2 Q := by
 obtain ⟨j, hj, hm⟩ := h.mp
 exact ⟨h.wbN, h.mbN, Nat.le_trans h.base k.size, (k.cells _ _ _ _ h.hd t1).trans h.hd, own_kq h.ents k t2, ⟨h.fvs.1, fun i v x a b => fnx_kq (h.fvs.2 i v x a b) k t3⟩, ⟨j, hj, hm.kq k m⟩, fun s hs => own_kq (h.nums s hs) k t4, h.few⟩
theorem WA.below {n wb : Nat} {w w' : World} {E1 E2 : List Ent} {Q : WPts} (h : WA n w wb E1 E2 Q) (k : Below w.heap.size w w') : WA n w' wb E1 E2 Q :=
 h.frame (T := []) (M := noM) (Kq.below k) (by simp) (by simp) (by simp) (by simp) (fun x => x)
theorem WA.lt {n wb : Nat} {w : World} {E1 E2 : List Ent} {Q : WPts} (h : WA n w wb E1 E2 Q) : wb < w.heap.size := lt_some h.hd
theorem WA.cells {n wb : Nat} {w : World} {E1 E2 : List Ent} {Q : WPts} (h : WA n w wb E1 E2 Q) : w.cell? ⟨wb, 0, none⟩ = some Q.ve ∧ w.cell? ⟨wb, 1, none⟩ = some (.map (some Q.mb)) ∧ ∀ k, w.frozen? ⟨wb, k, none⟩ = false := by
 have := h.hd
 refine ⟨?_, ?_, fun k => ?_⟩ <;> simp [World.cell?, World.frozen?, this]
def numV (E : List Ent) (nf : Bs → Value) (s : Bs) : Value := if s ∈ E.map (·.word) then nf s else .slice none 0 0
theorem numM_get (E : List Ent) (nf : Bs → Value) (s : Bs) : (numM E nf (.string s)).getD (.slice none 0 0) = numV E nf s := by
 by_cases h : s ∈ E.map (·.word)
 ·simp only [numM, numV, if_pos h, Option.getD_some]
 ·simp only [numM, numV, if_neg h, Option.getD_none]
theorem zeroNums (w : World) : (zeroValue 76).run Tryz.prog w = .ok (.slice none 0 0) w := by kernel_rfl
theorem WA.look {n wb : Nat} {w : World} {E1 E2 : List Ent} {Q : WPts} (h : WA n w wb E1 E2 Q) (s : Bs) (hs : s.length ≤ 65536) :
  (∀ w', w'.heap[Q.mb]? = w.heap[Q.mb]? → (Instr.lookup 118 (.map (some Q.mb)) (.string (Wd.str s)) false).run Tryz.prog w' = .ok (numV E2 Q.nf s) w') ∧ So.IRow n w (numV E2 Q.nf s) (numsF 0 E2 s) := by
 obtain ⟨j, hj, hm⟩ := h.mp
 refine ⟨fun w' hw => ?_, ?_⟩
 ·have := (hm.kept hw).look law9 Tryz.underlying118 (zeroNums w') (key9 (s := Wd.str s) (by rw [show (Wd.str s).size = s.length by show s.toArray.size = _; simp]; unfold maxLen; omega))
  rw [Wd.str_list, numM_get] at this
  exact this
 ·unfold numV
  by_cases e : s ∈ E2.map (·.word)
  ·rw [if_pos e]; exact h.nums s e
  ·rw [if_neg e, numsF_nil E2 0 s e]
   exact So.IRow.nil n w
theorem irow_apart {n : Nat} {w : World} {v v' : Value} {i i' : Int} {t t' : List Int} (h : So.IRow n w v (i :: t)) (h' : So.IRow n w v' (i' :: t')) (hne : i ≠ i') : v.ownBlock ≠ v'.ownBlock := by
 obtain ⟨g, c, e, -, -, -, -, -, hc⟩ := own_at h (by simp)
 obtain ⟨g', c', e', -, -, -, -, -, hc'⟩ := own_at h' (by simp)
 subst e
 subst e'
 intro q
 injection q with q
 subst q
 have h0 := hc 0 (by simp)
 rw [hc' 0 (by simp)] at h0
 simp [So.encI] at h0
 exact hne h0.symm
theorem WA.put {n wb : Nat} {V W5 : World} {E : List Ent} {Q : WPts} (h : WA n V wb E E Q) (x : Ent) (hx : x.word.length ≤ 65536) (he : E.length < 8192) {v' : Value}
  (o5 : W5.ownsRow n 3 1 v' ((numsF 0 E x.word).length + 1) ((numsF 0 E x.word).map So.encI ++ [.int .i64 (E.length : Nat)])) (k5 : Kq [3] noM V W5) (l5 : Below n V W5) (b5 : ∀ b, b < V.heap.size → (numV E Q.nf x.word).ownBlock ≠ some b → W5.heap[b]? = V.heap[b]?) :
  ∃ W6, (Instr.mapUpdate 118 (.map (some Q.mb)) (.string (Wd.str x.word)) v').run Tryz.prog W5 = .ok () W6 ∧ WA n W6 wb E (E ++ [x]) { Q with nf := fun s => if s = x.word then v' else Q.nf s } ∧ Kq [3] (fun g => g = Q.mb) V W6 ∧ Below n V W6 := by
 obtain ⟨j, hj, hm⟩ := h.mp
 have hm5 := hm.kq k5 (fun q => q)
 obtain ⟨W6, hr, hput, hg⟩ := hm5.put (key := .string (Wd.str x.word)) (kl := .string x.word) law9 Tryz.underlying118 (by unfold maxLen; omega) (by
  have := key9 (s := Wd.str x.word) (by rw [show (Wd.str x.word).size = x.word.length by show x.word.toArray.size = _; simp]; unfold maxLen; omega)
  rwa [Wd.str_list] at this) (by trivial) v'
 obtain ⟨es, c, hes⟩ := hm5.isMap
 have k6 : Kq [3] (fun g => g = Q.mb) W5 W6 := by
  refine ⟨hg.size, fun g cur t fz e _ => hg.block g (lt_some e) ?_, fun g es' c' e ne => hg.block g (lt_some e) ?_⟩
  ·intro q
   injection q with q
   rw [q, hes] at e
   cases e
  ·intro q
   injection q with q
   exact ne q
 have l6 : Below n W5 W6 := (Below.refl _ _).grown hg (Nat.le_trans h.base k5.size) (fun g e => by injection e with e; subst e; exact h.mbN)
 have hK : Kq [3] (fun g => g = Q.mb) V W6 := (k5.wide (fun t ht => ht) (fun g hg => hg.elim)).trans k6
 have hold : ∀ s, s ∈ E.map (·.word) → s ≠ x.word → So.IRow n W6 (Q.nf s) (numsF 0 E s) := by
  intro s hs hne
  have hrow := h.nums s hs
  have hdiff : (numV E Q.nf x.word).ownBlock ≠ (Q.nf s).ownBlock := by
   cases hq : numsF 0 E s with
   | nil => exact absurd hq (numsF_ne E 0 s hs)
   | cons i t =>
    obtain ⟨a, y, a1, a2, a3⟩ := numsF_head E 0 s i t hq
    rw [hq] at hrow
    have hl := (h.look x.word hx).2
    cases hq2 : numsF 0 E x.word with
    | nil =>
     have hnm : x.word ∉ E.map (·.word) := fun m => numsF_ne E 0 _ m hq2
     unfold numV
     rw [if_neg hnm]
     obtain ⟨g, c', e', -⟩ := own_at hrow (by simp)
     rw [e']
     simp [Value.ownBlock]
    | cons i2 t2 =>
     obtain ⟨a', y', b1, b2, b3⟩ := numsF_head E 0 _ i2 t2 hq2
     rw [hq2] at hl
     refine irow_apart hl hrow fun e => ?_
     have : a' = a := by rw [b1, a1] at e; omega
     subst this
     rw [a2] at b2
     injection b2 with b2
     exact hne (by rw [← a3, b2, b3])
  have h5 : So.IRow n W5 (Q.nf s) (numsF 0 E s) := by
   obtain ⟨hl, ⟨e1, e2⟩ | ⟨g, cap, cur, e1, h1, hg', r⟩⟩ := hrow
   ·exact ⟨hl, .inl ⟨e1, e2⟩⟩
   ·refine ⟨hl, .inr ⟨g, cap, cur, e1, h1, (b5 g (lt_some hg') fun q => hdiff ?_).trans hg', r⟩⟩
    rw [q, e1]
    rfl
  exact own_kept h5 fun g cur e => hg.block g (lt_some e) (by intro q; injection q with q; rw [q, hes] at e; cases e)
 have hnew : So.IRow n W6 v' (numsF 0 (E ++ [x]) x.word) := by
  rw [numsF_snoc, if_pos rfl]
  have := own_kept o5 (fun g cur e => hg.block g (lt_some e) (by intro q; injection q with q; rw [q, hes] at e; cases e))
  unfold So.IRow
  rw [List.length_append, List.length_singleton, List.map_append, List.map_singleton, Nat.zero_add]
  exact this
 refine ⟨W6, hr, ⟨h.wbN, h.mbN, Nat.le_trans h.base hK.size, (hK.cells _ _ _ _ h.hd (by decide)).trans h.hd, own_kq h.ents hK (by decide), ⟨h.fvs.1, fun i v y a b => fnx_kq (h.fvs.2 i v y a b) hK (by decide)⟩, ⟨j + 1, by simp; omega, hput _ ?_ ?_⟩, fun s hs => ?_, by simp; omega⟩, hK, l5.trans l6⟩
 ·simp [numM]
 ·intro k hk
  cases k with
  | string s =>
   have hne : s ≠ x.word := fun e => hk (by rw [e])
   simp only [numM, List.map_append, List.map_cons, List.map_nil, List.mem_append, List.mem_singleton, hne, or_false, if_false]
  | _ => rfl
 ·by_cases e : s = x.word
  ·subst e
   simp only [if_true]
   exact hnew
  ·simp only [if_neg e]
   rw [numsF_snoc, if_neg (fun q => e q.symm), List.append_nil]
   refine hold s ?_ e
   simp only [List.map_append, List.map_cons, List.map_nil, List.mem_append, List.mem_singleton] at hs
   exact hs.resolve_right e
theorem WA.push {n wb : Nat} {W W' : World} {E : List Ent} {x : Ent} {Q : WPts} {u v' : Value} (h : WA n W wb E (E ++ [x]) Q) (fx : FNx n W u x.flags)
  (o : W'.ownsRow n 56 2 v' (E.length + 1) ((E.zip Q.fv).flatMap (fun p => entC p.1 p.2) ++ [.string (Wd.str x.word), u])) (k : Kq [56] noM W W') (l : Below n W W') :
  WA n (W'.setCell ⟨wb, 0, none⟩ v') wb (E ++ [x]) (E ++ [x]) { Q with ve := v', fv := Q.fv ++ [u] } ∧ Kq [56, 120] noM W (W'.setCell ⟨wb, 0, none⟩ v') ∧ Below n W (W'.setCell ⟨wb, 0, none⟩ v') := by
 have hd' := (k.cells _ _ _ _ h.hd (by decide)).trans h.hd
 have k2 : Kq [56, 120] noM W' (W'.setCell ⟨wb, 0, none⟩ v') := Kq.kp (kp_set W' wb 0 v') hd' (by simp)
 have kk := (k.wide (T' := [56, 120]) (M' := noM) (fun t ht => by simp at ht ⊢; exact .inl ht) (fun g hg => hg)).trans k2
 obtain ⟨j, hj, hm⟩ := h.mp
 have e : ((E ++ [x]).zip (Q.fv ++ [u])).flatMap (fun p => entC p.1 p.2) = (E.zip Q.fv).flatMap (fun p => entC p.1 p.2) ++ [.string (Wd.str x.word), u] := by
  rw [List.zip_append h.fvs.1.symm, List.flatMap_append]
  rfl
 refine ⟨⟨h.wbN, h.mbN, Nat.le_trans h.base kk.size, ?_, ?_, ⟨by simp [h.fvs.1], fun i v y a b => ?_⟩, ⟨j, hj, hm.kq kk (fun q => q)⟩, fun s hs => own_kq (h.nums s hs) kk (by decide), h.few⟩, kk, l.setCell (p := ⟨wb, 0, none⟩) h.wbN v'⟩
 ·rw [set_heap1 hd']
  rfl
 ·rw [List.length_append, List.length_singleton, e]
  exact own_kept o (fun g cur q => by
   by_cases hgw : g = wb
   ·subst hgw; rw [hd'] at q; injection q with q; injection q with _ q _; exact absurd q (by decide)
   ·exact (kp_set W' wb 0 v').2 g (lt_some q) hgw)
 ·by_cases hi : i < E.length
  ·rw [List.getElem?_append_left (by rw [h.fvs.1]; exact hi)] at a
   rw [List.getElem?_append_left hi] at b
   exact fnx_kq (h.fvs.2 i v y a b) kk (by decide)
  ·have hi2 : i = E.length := by
    have := (List.getElem?_eq_some_iff.1 b).1
    simp at this
    omega
   subst hi2
   rw [List.getElem?_append_right (by rw [h.fvs.1]; exact Nat.le_refl _), h.fvs.1] at a
   rw [List.getElem?_append_right (Nat.le_refl _)] at b
   simp at a b
   subst a
   subst b
   exact fnx_kq fx kk (by decide)
theorem infoE : (Tryz.prog.info? 56).map (fun i => (i.zero, i.size, i.bytes)) = some (some (.agg #[.string ⟨#[]⟩, .slice none 0 0]), 2, 40) := by kernel_rfl
theorem infoI3 : (Tryz.prog.info? 3).map (fun i => (i.zero, i.size, i.bytes)) = some (some (.int .i64 0), 1, 8) := by kernel_rfl
theorem len_any {n wb : Nat} {w : World} {E1 E2 : List Ent} {Q : WPts} (h : WA n w wb E1 E2 Q) : Calls Tryz.prog 24 #[ptr wb] w fun e w' => e = .returned (.int .i64 (E1.length : Nat)) ∧ w' = w := by
 obtain ⟨d0, d1, -⟩ := h.cells
 have hlt := h.lt
 obtain ⟨a, c, e⟩ := own_slice h.ents
 rw [e] at d0
 clear h e
 generalize E1.length = m at *
 go_enter Tryz.func24, Tryz.ntmps24
 go_wp2
 go_ret
 exact ⟨rfl, rfl⟩
def AddRes (n : Nat) (w : World) (wb : Nat) (E : List Ent) (x : Ent) (Q : WPts) (e : Ending) (w' : World) : Prop := e = .returned (.tuple #[]) ∧ (∃ Q', WA n w' wb (E ++ [x]) (E ++ [x]) Q' ∧ Q'.mb = Q.mb) ∧ Kq [3, 56, 120] (fun g => g = Q.mb) w w' ∧ Below n w w'
theorem add_any {n wb : Nat} {w : World} {E : List Ent} {Q : WPts} {x : Ent} {u : Value} (h : WA n w wb E E Q) (hx : x.word.length ≤ 65536) (he : E.length < 8192) (fx : FNx n w u x.flags) :
  Calls Tryz.prog 92 #[ptr wb, .agg #[.string (Wd.str x.word), u]] w (AddRes n w wb E x Q) := by
 obtain ⟨ua, un, uc, rfl⟩ := fnx_slice fx
 -- the world in which the first region runs
 obtain ⟨V0, hV0⟩ : ∃ V0, V0 = w.alloc (.cells #[.string (Wd.str x.word), .slice ua un uc] 56) := ⟨_, rfl⟩
 have hb0 : Below w.heap.size w V0 := by rw [hV0]; exact (Below.refl _ _).alloc (Nat.le_refl _) _
 have hbox : V0.heap[w.heap.size]? = some (.cells #[.string (Wd.str x.word), .slice ua un uc] 56 (0, 0)) := by rw [hV0]; exact alloc_new w _
 have hV : Below w.heap.size w V0.drew := hb0.drew
 have h1 := h.below hV
 have f1 := fnx_below fx hV
 have hboxV : V0.drew.heap[w.heap.size]? = some (.cells #[.string (Wd.str x.word), .slice ua un uc] 56 (0, 0)) := hbox
 generalize hVV : V0.drew = V at *
 obtain ⟨lk, ir⟩ := h1.look x.word hx
 obtain ⟨va, vc, ev⟩ := own_slice ir
 obtain ⟨ea, ec, ee⟩ := own_slice h1.ents
 have hnl := numsF_len E 0 x.word
 -- the number is laid into memory
 have hXb : Below V.heap.size V (V.alloc (.cells #[.int .i64 (E.length : Nat)] 3)) := (Below.refl _ _).alloc (Nat.le_refl _) _
 obtain ⟨a5, c5, W5, hap, o5, k5, l5, b5⟩ := push1 (B := n) (w := V) (X := V.alloc (.cells #[.int .i64 (E.length : Nat)] 3)) (t := 76) (v := numV E Q.nf x.word) Tryz.underlying76 infoI3 rfl (by decide) ir h1.base hXb (alloc_new V _) rfl (by intro q hq; simp at hq; subst hq; rfl) (by omega) (by decide) 76
 obtain ⟨W6, hmu, h6, k6, l6⟩ := h1.put x hx he o5 k5 l5 b5
 -- the second region
 have f6 := fnx_kq f1 k6 (by decide)
 have hbox6 := (k6.cells _ _ _ _ hboxV (by decide)).trans hboxV
 obtain ⟨V6, hV6⟩ : ∃ V6, V6 = W6.drew := ⟨_, rfl⟩
 have d6 : Below W6.heap.size W6 V6 := by rw [hV6]; exact (Below.refl _ _).drew
 have g6 := h6.below d6
 have fx6 := fnx_below f6 d6
 have hbx6 := (d6.block _ (lt_some hbox6)).trans hbox6
 have eo := g6.ents
 obtain ⟨a7, c7, W7, hap7, o7, k7, l7, b7⟩ := push1 (B := n) (w := V6) (X := V6.alloc (.cells #[.string (Wd.str x.word), .slice ua un uc] 56)) (t := 51) (v := Q.ve) Tryz.underlying51 infoE rfl (by decide) eo g6.base ((Below.refl _ _).alloc (Nat.le_refl _) _) (alloc_new V6 _) rfl (by intro q hq; simp at hq; rcases hq with rfl | rfl <;> rfl) (by omega) (by decide) 51
 obtain ⟨h8, k8, l8⟩ := g6.push fx6 o7 k7 l7
 have HRES : Hid (AddRes n w wb E x Q (.returned (.tuple #[])) (W7.setCell ⟨wb, 0, none⟩ (.slice a7 (E.length + 1) c7))) := by
  refine ⟨rfl, ⟨_, h8, rfl⟩, ?_, ?_⟩
  ·have kw : ∀ {T : List TypeId} {M : Nat → Prop} {a b : World}, Below a.heap.size a b → Kq T M a b := fun k => Kq.below k
   refine (kw hV).trans ?_
   refine (k6.wide (fun t ht => by simp at ht; simp [ht]) (fun g hg => hg)).trans ?_
   exact (kw d6).trans (k8.wide (fun t ht => by simp at ht; simp; rcases ht with e | e <;> simp [e]) (fun g hg => hg.elim))
  ·exact ((hV.mono h.base).trans l6).trans ((d6.mono h6.base).trans l8)
 -- what stands in memory along the first region
 rw [ev] at hap
 rw [ee] at hap7
 have cV := h1.cells
 have bV := (show V.cell? ⟨w.heap.size, 0, none⟩ = some (.string (Wd.str x.word)) ∧ V.cell? ⟨w.heap.size, 1, none⟩ = some (.slice ua un uc) by constructor <;> simp [World.cell?, hboxV])
 have hXk : ∀ {q : Nat}, q < V.heap.size → (V.alloc (.cells #[.int .i64 (E.length : Nat)] 3)).heap[q]? = V.heap[q]? := fun hq => hXb.block _ hq
 have hmbl : Q.mb < V.heap.size := by obtain ⟨j, -, hm⟩ := h1.mp; exact hm.lt
 have l5b : W5.heap[Q.mb]? = V.heap[Q.mb]? := by
  obtain ⟨j, -, hm⟩ := h1.mp
  obtain ⟨es, c, e⟩ := hm.isMap
  exact k5.maps _ _ _ e (fun q => q)
 have S0 : Hid (V.cell? ⟨wb, 1, none⟩ = some (.map (some Q.mb)) ∧ V.cell? ⟨wb, 0, none⟩ = some (.slice ea E.length ec) ∧ V.cell? ⟨w.heap.size, 0, none⟩ = some (.string (Wd.str x.word)) ∧ (Instr.lookup 118 (.map (some Q.mb)) (.string (Wd.str x.word)) false).run Tryz.prog V = .ok (.slice va (numsF 0 E x.word).length vc) V) :=
  ⟨cV.2.1, by rw [← ee]; exact cV.1, bV.1, by rw [← ev]; exact lk V rfl⟩
 have S1 : Hid ((V.alloc (.cells #[.int .i64 (E.length : Nat)] 3)).cell? ⟨wb, 1, none⟩ = some (.map (some Q.mb)) ∧ (V.alloc (.cells #[.int .i64 (E.length : Nat)] 3)).cell? ⟨wb, 0, none⟩ = some (.slice ea E.length ec) ∧ (V.alloc (.cells #[.int .i64 (E.length : Nat)] 3)).cell? ⟨w.heap.size, 0, none⟩ = some (.string (Wd.str x.word)) ∧ (Instr.lookup 118 (.map (some Q.mb)) (.string (Wd.str x.word)) false).run Tryz.prog (V.alloc (.cells #[.int .i64 (E.length : Nat)] 3)) = .ok (.slice va (numsF 0 E x.word).length vc) (V.alloc (.cells #[.int .i64 (E.length : Nat)] 3))) := by
  refine ⟨(hXb.cell (p := ⟨wb, 1, none⟩) h1.lt).trans cV.2.1, (hXb.cell (p := ⟨wb, 0, none⟩) h1.lt).trans (by rw [← ee]; exact cV.1), (hXb.cell (p := ⟨w.heap.size, 0, none⟩) (lt_some hboxV)).trans bV.1, ?_⟩
  rw [← ev]
  exact lk _ (hXk hmbl)
 have S5 : Hid (W5.cell? ⟨wb, 1, none⟩ = some (.map (some Q.mb)) ∧ W5.cell? ⟨wb, 0, none⟩ = some (.slice ea E.length ec) ∧ W5.cell? ⟨w.heap.size, 0, none⟩ = some (.string (Wd.str x.word)) ∧ (Instr.lookup 118 (.map (some Q.mb)) (.string (Wd.str x.word)) false).run Tryz.prog W5 = .ok (.slice va (numsF 0 E x.word).length vc) W5) := by
  refine ⟨(World.cell?_of_block (a := ⟨wb, 1, none⟩) (k5.cells _ _ _ _ h1.hd (by decide))).trans cV.2.1, (World.cell?_of_block (a := ⟨wb, 0, none⟩) (k5.cells _ _ _ _ h1.hd (by decide))).trans (by rw [← ee]; exact cV.1), (World.cell?_of_block (a := ⟨w.heap.size, 0, none⟩) (k5.cells _ _ _ _ hboxV (by decide))).trans bV.1, ?_⟩
  rw [← ev]
  exact lk _ l5b
 -- and along the second
 have cV6 := g6.cells
 have b6 := (show V6.cell? ⟨w.heap.size, 0, none⟩ = some (.string (Wd.str x.word)) ∧ V6.cell? ⟨w.heap.size, 1, none⟩ = some (.slice ua un uc) by constructor <;> simp [World.cell?, hbx6])
 have hX6 : Below V6.heap.size V6 (V6.alloc (.cells #[.string (Wd.str x.word), .slice ua un uc] 56)) := (Below.refl _ _).alloc (Nat.le_refl _) _
 have T0 : Hid (V6.cell? ⟨wb, 0, none⟩ = some (.slice ea E.length ec) ∧ V6.cell? ⟨w.heap.size, 0, none⟩ = some (.string (Wd.str x.word)) ∧ V6.cell? ⟨w.heap.size, 1, none⟩ = some (.slice ua un uc)) := ⟨by rw [← ee]; exact cV6.1, b6.1, b6.2⟩
 have T1 : Hid ((V6.alloc (.cells #[.string (Wd.str x.word), .slice ua un uc] 56)).cell? ⟨wb, 0, none⟩ = some (.slice ea E.length ec) ∧ (V6.alloc (.cells #[.string (Wd.str x.word), .slice ua un uc] 56)).cell? ⟨w.heap.size, 0, none⟩ = some (.string (Wd.str x.word)) ∧ (V6.alloc (.cells #[.string (Wd.str x.word), .slice ua un uc] 56)).cell? ⟨w.heap.size, 1, none⟩ = some (.slice ua un uc)) :=
  ⟨(hX6.cell (p := ⟨wb, 0, none⟩) g6.lt).trans (by rw [← ee]; exact cV6.1), (hX6.cell (p := ⟨w.heap.size, 0, none⟩) (lt_some hbx6)).trans b6.1, (hX6.cell (p := ⟨w.heap.size, 1, none⟩) (lt_some hbx6)).trans b6.2⟩
 have kx7 : W7.cell? ⟨wb, 0, none⟩ = some (.slice ea E.length ec) ∧ W7.frozen? ⟨wb, 0, none⟩ = false ∧ wb < W7.heap.size := by
  have e7 := (k7.cells _ _ _ _ g6.hd (by decide)).trans g6.hd
  rw [ee] at e7
  refine ⟨?_, ?_, lt_some e7⟩ <;> simp [World.cell?, World.frozen?, e7]
 have hbox7 : W7.heap[w.heap.size]? = some (.cells #[.string (Wd.str x.word), .slice ua un uc] 56 (0, 0)) := by
  refine (b7 _ (lt_some hbx6) fun q => ?_).trans hbx6
  obtain ⟨-, ⟨e1, -⟩ | ⟨g, cap, cur, e1, -, hg', -⟩⟩ := h.ents
  ·rw [e1] at q; cases q
  ·rw [e1] at q
   have q2 : some g = some w.heap.size := q
   injection q2 with q2
   have := lt_some hg'
   omega
 have T7 : Hid (W7.cell? ⟨wb, 0, none⟩ = some (.slice ea E.length ec) ∧ W7.cell? ⟨w.heap.size, 0, none⟩ = some (.string (Wd.str x.word)) ∧ W7.cell? ⟨w.heap.size, 1, none⟩ = some (.slice ua un uc)) := by
  refine ⟨kx7.1, ?_, ?_⟩ <;> simp [World.cell?, hbox7]
 have HW7 := hide kx7
 have HAP5 := hide hap
 have HAP := hide hap7
 have HMU := hide hmu
 have hlt := h.lt
 clear h fx h1 f1 lk ir ev ee hnl o5 k5 l5 b5 h6 k6 l6 f6 d6 g6 fx6 eo o7 k7 l7 b7 h8 k8 l8 cV bV cV6 b6 hXk hmbl l5b hX6 kx7 hbx6 hbox6 hbox7 hboxV hbox hb0 hV hXb hap hap7 hmu hx he
 subst hV6
 subst hVV
 have ed : ∀ (W : World) (o : Obj), W.drew.alloc o = (W.alloc o).drew := fun _ _ => rfl
 have es : ∀ (W : World), W.drew.heap.size = W.heap.size := fun _ => rfl
 rw [ed] at S1 HAP5 T1 HAP
 rw [es] at HAP5 HAP
 clear ed es
 have HV0 := hide hV0
 clear hV0
 generalize Wd.str x.word = sx at *
 generalize (numsF 0 E x.word).length = nk at *
 generalize E.length = m at *
 go_enter Tryz.func92, Tryz.ntmps92
 go_wp2_with fail
 refine gen_world ?_
 intro V1 hV1
 obtain rfl : V1 = V0 := hV1.trans (unhide HV0).symm
 clear HV0
 clear hV1
 refine Lst.region_last (ops1 := ?ops1) (o := ?op1) (S := fun w' => w'.cell? ⟨wb, 1, none⟩ = some (.map (some Q.mb)) ∧ w'.cell? ⟨wb, 0, none⟩ = some (.slice ea m ec) ∧ w'.cell? ⟨w.heap.size, 0, none⟩ = some (.string sx) ∧ (Instr.lookup 118 (.map (some Q.mb)) (.string sx) false).run Tryz.prog w' = .ok (.slice va nk vc) w') (by kernel_rfl) ?hp1 ?hb1 ?hk1 (by exact unhide S0) ?hn1
 case hp1 => (simp only [List.pop_toArray, List.dropLast_cons_cons, List.dropLast_singleton]; rfl)
 case hb1 => (simp only [List.back?_toArray, List.getLast?_cons_cons, List.getLast?_singleton]; rfl)
 case hk1 => kernel_rfl
 intro hHeld
 refine wpAnyH_take (i := 0) (v := ?v2) (by simp only [List.getElem?_toArray, List.getElem?_cons_zero]; rfl) (by kernel_rfl) (by kernel_rfl) (by kernel_rfl) (by exact fun _ _ _ h => h) (Or.inl ⟨by rfl, ?hy2⟩) (by assumption) ?_
 case hy2 => (intro w hSw; (try dsimp only at hSw); go_simp; first | done | (with_reducible rfl))
 (try simp only [Act.put, List.setIfInBounds_toArray, List.set_cons_zero, List.set_cons_succ])
 refine wpAnyH_take (i := 1) (v := ?v3) (by simp only [List.getElem?_toArray, List.getElem?_cons_succ, List.getElem?_cons_zero]; rfl) (by kernel_rfl) (by kernel_rfl) (by kernel_rfl) (by exact fun _ _ _ h => h) (Or.inl ⟨by rfl, ?hy3⟩) (by assumption) ?_
 case hy3 => (intro w hSw; (try dsimp only at hSw); go_simp; first | done | (with_reducible rfl))
 (try simp only [Act.put, List.setIfInBounds_toArray, List.set_cons_zero, List.set_cons_succ])
 refine wpAnyH_take (i := 2) (v := ?v4) (by simp only [List.getElem?_toArray, List.getElem?_cons_succ, List.getElem?_cons_zero]; rfl) (by kernel_rfl) (by kernel_rfl) (by kernel_rfl) (by exact fun _ _ _ h => h) (Or.inl ⟨by rfl, ?hy4⟩) (by assumption) ?_
 case hy4 => (intro w hSw; (try dsimp only at hSw); go_simp; first | done | (with_reducible rfl))
 (try simp only [Act.put, List.setIfInBounds_toArray, List.set_cons_zero, List.set_cons_succ])
 refine wpAnyH_take (i := 3) (v := ?v5) (by simp only [List.getElem?_toArray, List.getElem?_cons_succ, List.getElem?_cons_zero]; rfl) (by kernel_rfl) (by kernel_rfl) (by kernel_rfl) (by exact fun _ _ _ h => h) (Or.inl ⟨by rfl, ?hy5⟩) (by assumption) ?_
 case hy5 => (intro w hSw; (try dsimp only at hSw); go_simp; first | done | (with_reducible rfl))
 (try simp only [Act.put, List.setIfInBounds_toArray, List.set_cons_zero, List.set_cons_succ])
 refine wpAnyH_take (i := 4) (v := ?v6) (by simp only [List.getElem?_toArray, List.getElem?_cons_succ, List.getElem?_cons_zero]; rfl) (by kernel_rfl) (by kernel_rfl) (by kernel_rfl) (by exact fun _ _ _ h => h) (Or.inl ⟨by rfl, ?hy6⟩) (by assumption) ?_
 case hy6 => (intro w hSw; (try dsimp only at hSw); go_simp; first | done | (with_reducible rfl))
 (try simp only [Act.put, List.setIfInBounds_toArray, List.set_cons_zero, List.set_cons_succ])
 refine wpAnyH_take (i := 5) (v := ?v7) (by simp only [List.getElem?_toArray, List.getElem?_cons_succ, List.getElem?_cons_zero]; rfl) (by kernel_rfl) (by kernel_rfl) (by kernel_rfl) (by exact fun _ _ _ h => h) (Or.inl ⟨by rfl, ?hy7⟩) (by assumption) ?_
 case hy7 => (intro w hSw; (try dsimp only at hSw); go_simp; first | done | (with_reducible rfl))
 (try simp only [Act.put, List.setIfInBounds_toArray, List.set_cons_zero, List.set_cons_succ])
 refine wpAnyH_take (i := 6) (v := ?v8) (by simp only [List.getElem?_toArray, List.getElem?_cons_succ, List.getElem?_cons_zero]; rfl) (by kernel_rfl) (by kernel_rfl) (by kernel_rfl) (by exact fun _ _ _ h => h) (Or.inl ⟨by rfl, ?hy8⟩) (by assumption) ?_
 case hy8 => (intro w hSw; (try dsimp only at hSw); go_simp; first | done | (with_reducible rfl))
 (try simp only [Act.put, List.setIfInBounds_toArray, List.set_cons_zero, List.set_cons_succ])
 refine wpAnyH_take (i := 7) (v := ?v9) (by simp only [List.getElem?_toArray, List.getElem?_cons_succ, List.getElem?_cons_zero]; rfl) (by kernel_rfl) (by kernel_rfl) (by kernel_rfl) (by exact fun _ _ _ h => h) (Or.inl ⟨by rfl, ?hy9⟩) (by assumption) ?_
 case hy9 => (intro w hSw; (try dsimp only at hSw); go_simp; first | done | (with_reducible rfl))
 (try simp only [Act.put, List.setIfInBounds_toArray, List.set_cons_zero, List.set_cons_succ])
 refine wpAnyH_take (i := 8) (v := ?v10) (by simp only [List.getElem?_toArray, List.getElem?_cons_succ, List.getElem?_cons_zero]; rfl) (by kernel_rfl) (by kernel_rfl) (by kernel_rfl) (by exact fun _ _ _ h => h) (Or.inl ⟨by rfl, ?hy10⟩) (by assumption) ?_
 case hy10 => (intro w hSw; (try dsimp only at hSw); go_simp; first | done | (with_reducible rfl))
 (try simp only [Act.put, List.setIfInBounds_toArray, List.set_cons_zero, List.set_cons_succ])
 refine wpAnyH_take (i := 9) (v := ?v11) (by simp only [List.getElem?_toArray, List.getElem?_cons_succ, List.getElem?_cons_zero]; rfl) (by kernel_rfl) (by kernel_rfl) (by kernel_rfl) (by exact fun _ _ _ h => h) (Or.inl ⟨by rfl, ?hy11⟩) (by assumption) ?_
 case hy11 => (intro w hSw; (try dsimp only at hSw); go_simp; first | done | (with_reducible rfl))
 (try simp only [Act.put, List.setIfInBounds_toArray, List.set_cons_zero, List.set_cons_succ])
 refine wpAnyH_take (i := 10) (v := ?v12) (by simp only [List.getElem?_toArray, List.getElem?_cons_succ, List.getElem?_cons_zero]; rfl) (by kernel_rfl) (by kernel_rfl) (by kernel_rfl) (by exact fun _ _ _ h => h) (Or.inl ⟨by rfl, ?hy12⟩) (by assumption) ?_
 case hy12 => (intro w hSw; (try dsimp only at hSw); go_simp; first | done | (with_reducible rfl))
 (try simp only [Act.put, List.setIfInBounds_toArray, List.set_cons_zero, List.set_cons_succ])
 refine wpAnyH_take (i := 11) (v := ?v13) (by simp only [List.getElem?_toArray, List.getElem?_cons_succ, List.getElem?_cons_zero]; rfl) (by kernel_rfl) (by kernel_rfl) (by kernel_rfl) (by exact fun _ _ _ h => h) (Or.inl ⟨by rfl, ?hy13⟩) (by assumption) ?_
 case hy13 => (intro w hSw; (try dsimp only at hSw); go_simp; first | done | (with_reducible rfl))
 (try simp only [Act.put, List.setIfInBounds_toArray, List.set_cons_zero, List.set_cons_succ])
 refine wpAnyH_take (i := 12) (v := ?v14) (by simp only [List.getElem?_toArray, List.getElem?_cons_succ, List.getElem?_cons_zero]; rfl) (by kernel_rfl) (by kernel_rfl) (by kernel_rfl) (by exact fun _ _ _ h => h) (Or.inl ⟨by rfl, ?hy14⟩) (by assumption) ?_
 case hy14 => (intro w hSw; (try dsimp only at hSw); go_simp; first | done | (with_reducible rfl))
 (try simp only [Act.put, List.setIfInBounds_toArray, List.set_cons_zero, List.set_cons_succ])
 refine wpAnyH_take (i := 13) (v := ?v15) (by simp only [List.getElem?_toArray, List.getElem?_cons_succ, List.getElem?_cons_zero]; rfl) (by kernel_rfl) (by kernel_rfl) (by kernel_rfl) (by exact fun _ _ _ h => h) (Or.inl ⟨by rfl, ?hy15⟩) (by assumption) ?_
 case hy15 => (intro w hSw; (try dsimp only at hSw); go_simp; first | done | (with_reducible rfl))
 (try simp only [Act.put, List.setIfInBounds_toArray, List.set_cons_zero, List.set_cons_succ])
 refine wpAnyH_take (i := 14) (v := ?v16) (by simp only [List.getElem?_toArray, List.getElem?_cons_succ, List.getElem?_cons_zero]; rfl) (by kernel_rfl) (by kernel_rfl) (by kernel_rfl) (by exact fun _ _ _ h => h) (Or.inl ⟨by rfl, ?hy16⟩) (by assumption) ?_
 case hy16 => (intro w hSw; (try dsimp only at hSw); go_simp; first | done | (with_reducible rfl))
 (try simp only [Act.put, List.setIfInBounds_toArray, List.set_cons_zero, List.set_cons_succ])
 refine wpAnyH_take (i := 15) (v := ?v17) (by simp only [List.getElem?_toArray, List.getElem?_cons_succ, List.getElem?_cons_zero]; rfl) (by kernel_rfl) (by kernel_rfl) (by kernel_rfl) (by exact fun _ _ _ h => h) (Or.inl ⟨by rfl, ?hy17⟩) (by assumption) ?_
 case hy17 => (intro w hSw; (try dsimp only at hSw); go_simp; first | done | (with_reducible rfl))
 (try simp only [Act.put, List.setIfInBounds_toArray, List.set_cons_zero, List.set_cons_succ])
 refine wpAnyH_take (i := 16) (v := ?v18) (by simp only [List.getElem?_toArray, List.getElem?_cons_succ, List.getElem?_cons_zero]; rfl) (by kernel_rfl) (by kernel_rfl) (by kernel_rfl) (by exact fun _ _ _ h => h) (Or.inl ⟨by rfl, ?hy18⟩) (by assumption) ?_
 case hy18 => (intro w hSw; (try dsimp only at hSw); go_simp; first | done | (with_reducible rfl))
 (try simp only [Act.put, List.setIfInBounds_toArray, List.set_cons_zero, List.set_cons_succ])
 refine wpAnyH_take (i := 17) (v := ?v19) (by simp only [List.getElem?_toArray, List.getElem?_cons_succ, List.getElem?_cons_zero]; rfl) (by kernel_rfl) (by kernel_rfl) (by kernel_rfl) (by exact fun _ _ _ h => h) (Or.inl ⟨by rfl, ?hy19⟩) (by assumption) ?_
 case hy19 => (intro w hSw; (try dsimp only at hSw); go_simp; first | done | (with_reducible rfl))
 (try simp only [Act.put, List.setIfInBounds_toArray, List.set_cons_zero, List.set_cons_succ])
 refine wpAnyH_ready (rs := [18]) (by kernel_rfl) (by simp) ?_
 refine AllReadyH.cons (by simp only [List.getElem?_toArray, List.getElem?_cons_succ, List.getElem?_cons_zero]; rfl) (fun K hK => ?_) AllReadyH.nil
 go_simp
 refine hK.out _ _ (unhide S1) (fun hh1 => ?_)
 clear hK K
 (try simp only [Act.put, List.setIfInBounds_toArray, List.set_cons_zero, List.set_cons_succ])
 refine wpAnyH_ready (rs := [19]) (by kernel_rfl) (by simp) ?_
 refine AllReadyH.cons (by simp only [List.getElem?_toArray, List.getElem?_cons_succ, List.getElem?_cons_zero]; rfl) (fun K hK => ?_) AllReadyH.nil
 refine step_app (by rfl) _ _ _ (by rfl) _ _ _ _ (by rfl) (by rfl) (by exact unhide HAP5) ?_
 refine hK.out _ _ (unhide S5) (fun hh5 => ?_)
 clear hK K
 (try simp only [Act.put, List.setIfInBounds_toArray, List.set_cons_zero, List.set_cons_succ])
 refine wpAnyH_done (by kernel_rfl) ?_ _
 show Oper.wp _ _ _ _ _ _
 have hmu := unhide HMU
 go_simp
 rename_i K2 hK2
 apply hK2
 clear hmu S0 S1 S5 HAP5 HMU
 go_wp2_with fail
 refine Lst.region_last (ops1 := ?ops20) (o := ?op20) (S := fun w' => w'.cell? ⟨wb, 0, none⟩ = some (.slice ea m ec) ∧ w'.cell? ⟨w.heap.size, 0, none⟩ = some (.string sx) ∧ w'.cell? ⟨w.heap.size, 1, none⟩ = some (.slice ua un uc)) (by kernel_rfl) ?hp20 ?hb20 ?hk20 (by exact unhide T0) ?hn20
 case hp20 => (simp only [List.pop_toArray, List.dropLast_cons_cons, List.dropLast_singleton]; rfl)
 case hb20 => (simp only [List.back?_toArray, List.getLast?_cons_cons, List.getLast?_singleton]; rfl)
 case hk20 => kernel_rfl
 intro hHeld
 refine wpAnyH_take (i := 0) (v := ?v21) (by simp only [List.getElem?_toArray, List.getElem?_cons_zero]; rfl) (by kernel_rfl) (by kernel_rfl) (by kernel_rfl) (by exact fun _ _ _ h => h) (Or.inl ⟨by rfl, ?hy21⟩) (by assumption) ?_
 case hy21 => (intro w hSw; (try dsimp only at hSw); go_simp; first | done | (with_reducible rfl))
 (try simp only [Act.put, List.setIfInBounds_toArray, List.set_cons_zero, List.set_cons_succ])
 refine wpAnyH_take (i := 1) (v := ?v22) (by simp only [List.getElem?_toArray, List.getElem?_cons_succ, List.getElem?_cons_zero]; rfl) (by kernel_rfl) (by kernel_rfl) (by kernel_rfl) (by exact fun _ _ _ h => h) (Or.inl ⟨by rfl, ?hy22⟩) (by assumption) ?_
 case hy22 => (intro w hSw; (try dsimp only at hSw); go_simp; first | done | (with_reducible rfl))
 (try simp only [Act.put, List.setIfInBounds_toArray, List.set_cons_zero, List.set_cons_succ])
 refine wpAnyH_take (i := 2) (v := ?v23) (by simp only [List.getElem?_toArray, List.getElem?_cons_succ, List.getElem?_cons_zero]; rfl) (by kernel_rfl) (by kernel_rfl) (by kernel_rfl) (by exact fun _ _ _ h => h) (Or.inl ⟨by rfl, ?hy23⟩) (by assumption) ?_
 case hy23 => (intro w hSw; (try dsimp only at hSw); go_simp; first | done | (with_reducible rfl))
 (try simp only [Act.put, List.setIfInBounds_toArray, List.set_cons_zero, List.set_cons_succ])
 refine wpAnyH_take (i := 3) (v := ?v24) (by simp only [List.getElem?_toArray, List.getElem?_cons_succ, List.getElem?_cons_zero]; rfl) (by kernel_rfl) (by kernel_rfl) (by kernel_rfl) (by exact fun _ _ _ h => h) (Or.inl ⟨by rfl, ?hy24⟩) (by assumption) ?_
 case hy24 => (intro w hSw; (try dsimp only at hSw); go_simp; first | done | (with_reducible rfl))
 (try simp only [Act.put, List.setIfInBounds_toArray, List.set_cons_zero, List.set_cons_succ])
 refine wpAnyH_take (i := 4) (v := ?v25) (by simp only [List.getElem?_toArray, List.getElem?_cons_succ, List.getElem?_cons_zero]; rfl) (by kernel_rfl) (by kernel_rfl) (by kernel_rfl) (by exact fun _ _ _ h => h) (Or.inl ⟨by rfl, ?hy25⟩) (by assumption) ?_
 case hy25 => (intro w hSw; (try dsimp only at hSw); go_simp; first | done | (with_reducible rfl))
 (try simp only [Act.put, List.setIfInBounds_toArray, List.set_cons_zero, List.set_cons_succ])
 refine wpAnyH_take (i := 5) (v := ?v26) (by simp only [List.getElem?_toArray, List.getElem?_cons_succ, List.getElem?_cons_zero]; rfl) (by kernel_rfl) (by kernel_rfl) (by kernel_rfl) (by exact fun _ _ _ h => h) (Or.inl ⟨by rfl, ?hy26⟩) (by assumption) ?_
 case hy26 => (intro w hSw; (try dsimp only at hSw); go_simp; first | done | (with_reducible rfl))
 (try simp only [Act.put, List.setIfInBounds_toArray, List.set_cons_zero, List.set_cons_succ])
 refine wpAnyH_ready (rs := [6]) (by kernel_rfl) (by simp) ?_
 refine AllReadyH.cons (by simp only [List.getElem?_toArray, List.getElem?_cons_succ, List.getElem?_cons_zero]; rfl) (fun K hK => ?_) AllReadyH.nil
 go_simp
 refine hK.out _ _ (unhide T1) (fun hh6 => ?_)
 clear hK K
 (try simp only [Act.put, List.setIfInBounds_toArray, List.set_cons_zero, List.set_cons_succ])
 refine wpAnyH_ready (rs := [7]) (by kernel_rfl) (by simp) ?_
 refine AllReadyH.cons (by simp only [List.getElem?_toArray, List.getElem?_cons_succ, List.getElem?_cons_zero]; rfl) (fun K hK => ?_) AllReadyH.nil
 refine step_app (by rfl) _ _ _ (by rfl) _ _ _ _ (by rfl) (by rfl) (by exact unhide HAP) ?_
 refine hK.out _ _ (unhide T7) (fun hh7 => ?_)
 clear hK K
 (try simp only [Act.put, List.setIfInBounds_toArray, List.set_cons_zero, List.set_cons_succ])
 refine wpAnyH_take (i := 8) (v := ?v27) (by simp only [List.getElem?_toArray, List.getElem?_cons_succ, List.getElem?_cons_zero]; rfl) (by kernel_rfl) (by kernel_rfl) (by kernel_rfl) (by exact fun _ _ _ h => h) (Or.inl ⟨by rfl, ?hy27⟩) (by assumption) ?_
 case hy27 => (intro w hSw; (try dsimp only at hSw); go_simp; first | done | (with_reducible rfl))
 (try simp only [Act.put, List.setIfInBounds_toArray, List.set_cons_zero, List.set_cons_succ])
 refine wpAnyH_take (i := 9) (v := ?v28) (by simp only [List.getElem?_toArray, List.getElem?_cons_succ, List.getElem?_cons_zero]; rfl) (by kernel_rfl) (by kernel_rfl) (by kernel_rfl) (by exact fun _ _ _ h => h) (Or.inl ⟨by rfl, ?hy28⟩) (by assumption) ?_
 case hy28 => (intro w hSw; (try dsimp only at hSw); go_simp; first | done | (with_reducible rfl))
 (try simp only [Act.put, List.setIfInBounds_toArray, List.set_cons_zero, List.set_cons_succ])
 refine wpAnyH_done (by kernel_rfl) ?_ _
 show Oper.wp _ _ _ _ _ _
 obtain ⟨c7w, f7w, l7w⟩ := unhide HW7
 go_simp
 go_end0
 exact unhide HRES
abbrev TD : List TypeId := [3, 56, 120, 116]
theorem FAt.stay {T : List TypeId} {M : Nat → Prop} {B : Nat} {w w' : World} {F : Fil} {P : Pts} (h : FAt B w F P) (k : Kq T M w w') (t1 : 97 ∉ T) (t2 : 90 ∉ T) (t3 : 54 ∉ T) (t4 : 94 ∉ T) (t5 : 79 ∉ T) (t6 : 36 ∉ T) (m : ¬ M P.pm) : FAt B w' F P := by
 obtain ⟨n, hn, hm⟩ := h.plc
 exact ⟨h.fbB, h.pmB, (k.cells _ _ _ _ h.fil t1).trans h.fil, ⟨n, hn, hm.kq k m⟩, own_kq h.reps k t2, own_kq h.alis k t3, ⟨h.aliF.1, fun i v a x y => fnx_kq (h.aliF.2 i v a x y) k t6⟩, own_kq h.clss k t4, own_kq h.ruls k t5, ⟨h.rulF.1, fun i v a x y => fnx_kq (h.rulF.2 i v a x y) k t6⟩, h.ok⟩
structure EnI (n0 : Nat) (w wr : World) (rb wb mb : Nat) (F : Fil) (P : Pts) (l : Nat) (E : List Ent) (Q : WPts) : Prop where
 kq : Kq TD (fun g => g = mb) w wr
 low : Below n0 w wr
 rbN : n0 ≤ rb
 rdr : wr.heap[rb]? = some (.cells (rdC P.fb wb l F) 116 (0, 0))
 wa : WA n0 wr wb E E Q
 mbq : Q.mb = mb
section
variable {n0 rb wb mb l : Nat} {w wr : World} {F : Fil} {P : Pts} {E : List Ent} {Q : WPts}
theorem EnI.dh {B : Nat} (h : EnI n0 w wr rb wb mb F P l E Q) (hF : FAt B w F P) (hp : P.pm ≠ mb) : DH B wr rb F P wb l :=
 ⟨h.rdr, hF.stay h.kq (by decide) (by decide) (by decide) (by decide) (by decide) (by decide) hp⟩
theorem EnI.below {W : World} (h : EnI n0 w wr rb wb mb F P l E Q) (k : Below wr.heap.size wr W) : EnI n0 w W rb wb mb F P l E Q :=
 ⟨h.kq.trans (Kq.below k), h.low.trans (k.mono h.wa.base), h.rbN, (k.block _ (lt_some h.rdr)).trans h.rdr, h.wa.below k, h.mbq⟩
theorem EnI.line (h : EnI n0 w wr rb wb mb F P l E Q) (l' : Nat) : EnI n0 w (wr.setCell ⟨rb, 7, none⟩ (.int .i64 (l' : Nat))) rb wb mb F P l' E Q := by
 have kp := kp_set wr rb 7 (.int .i64 (l' : Nat))
 have kq : Kq [116] noM wr (wr.setCell ⟨rb, 7, none⟩ (.int .i64 (l' : Nat))) := Kq.kp kp h.rdr (by simp)
 exact ⟨h.kq.trans (kq.wide (fun t ht => by simp at ht; subst ht; simp) (fun g hg => hg.elim)), h.low.trans ((Below.refl _ _).setCell (p := ⟨rb, 7, none⟩) h.rbN _), h.rbN, set_heap1 h.rdr _, h.wa.frame kq (by decide) (by decide) (by decide) (by decide) (fun q => q), h.mbq⟩
theorem EnI.add {x : Ent} {e : Ending} {W : World} (h : EnI n0 w wr rb wb mb F P l E Q) (r : AddRes n0 wr wb E x Q e W) : e = .returned (.tuple #[]) ∧ ∃ Q', EnI n0 w W rb wb mb F P l (E ++ [x]) Q' := by
 obtain ⟨r1, ⟨Q', r2, r3⟩, r4, r5⟩ := r
 refine ⟨r1, Q', ⟨h.kq.trans (r4.wide (fun t ht => ?_) (fun g hg => hg.trans h.mbq)), h.low.trans r5, h.rbN, (r4.cells _ _ _ _ h.rdr (by decide)).trans h.rdr, r2, r3.trans h.mbq⟩⟩
 simp only [List.mem_cons, List.not_mem_nil, or_false] at ht ⊢
 rcases ht with rfl | rfl | rfl <;> simp
end
theorem entRow_code {F : Fil} {row : List Bs} {c : Nat} (h : entRow F row = .error c) : c ≠ 0 := by
 unfold entRow at h
 split at h
 ·injection h with h; omega
 ·unfold entE at h
  split at h
  ·injection h with h; omega
  ·split at h
   ·rename_i hk; injection h with h; omega
   ·split at h
    ·cases h
    ·split at h
     ·rename_i hk; injection h with h; omega
     ·cases h
theorem entRow_word {F : Fil} {row : List Bs} {x : Ent} (hf : ∀ f ∈ row, f.length ≤ 65536) (h : entRow F row = .ok x) : x.word.length ≤ 65536 := by
 unfold entRow at h
 split at h
 ·cases h
 ·rename_i h1
  have h1 : row.length = 1 := by simpa using h1
  have hz := hf (fld row 0) (by unfold fld; rw [List.getElem?_eq_getElem (by omega)]; exact List.getElem_mem _)
  unfold entE at h
  split at h
  ·cases h
  ·rename_i a r c hr
   have := (rd_len [] (fld row 0) hr).1
   simp at this
   split at h
   ·cases h
   ·split at h
    ·injection h with h; subst h; show a.length ≤ 65536; omega
    ·split at h
     ·cases h
     ·injection h with h; subst h; show a.length ≤ 65536; omega
def EnRes (n0 : Nat) (w : World) (rb wb mb : Nat) (F : Fil) (P : Pts) (X : Except Er (List Ent)) (e : Ending) (w' : World) : Prop :=
 ∃ l' E' Q', EnI n0 w w' rb wb mb F P l' E' Q' ∧ match X with
 | .ok E => e = .returned (.int .i64 0) ∧ E' = E
 | .error er => e = .returned (.int .i64 (er.2 : Nat)) ∧ l' = er.1
theorem EnRes.yes {n0 rb wb mb l : Nat} {w w' : World} {F : Fil} {P : Pts} {X : Except Er (List Ent)} {E : List Ent} {Q : WPts} (h : X = .ok E) (k : EnI n0 w w' rb wb mb F P l E Q) : EnRes n0 w rb wb mb F P X (.returned (.int .i64 0)) w' := by
 subst h
 exact ⟨l, E, Q, k, rfl, rfl⟩
theorem EnRes.no {n0 rb wb mb l c : Nat} {w w' : World} {F : Fil} {P : Pts} {X : Except Er (List Ent)} {E : List Ent} {Q : WPts} (h : X = .error (l, c)) (k : EnI n0 w w' rb wb mb F P l E Q) : EnRes n0 w rb wb mb F P X (.returned (.int .i64 (c : Nat))) w' := by
 subst h
 exact ⟨l, E, Q, k, rfl, rfl⟩
theorem rows_cell {B : Nat} {w : World} {ao : Option Addr} {n cap : Nat} {R : List (Nat × List Bs)} (h : RowsAt B w (.slice ao n cap) R) {j l : Nat} {fs : List Bs} (hj : R[j]? = some (l, fs)) : ∃ g off fv, ao = some ⟨g, off, none⟩ ∧ g < w.heap.size ∧ w.cell? ⟨g, off + j * 2, none⟩ = some (.int .i64 (l : Nat)) ∧ w.cell? ⟨g, off + j * 2 + 1, none⟩ = some fv ∧ StrRow B w fv (fs.map Fld.str) := by
 obtain ⟨ao', cap', e, -, -, -, h⟩ := h
 injection e with e1 e2 e3
 obtain ⟨g, off, cur, e4, -, hg, hc⟩ := h (by intro q; rw [q] at hj; cases hj)
 obtain ⟨fv, c1, c2, c3, -⟩ := hc j l fs hj
 refine ⟨g, off, fv, by rw [e1, e4], lt_some hg, ?_, ?_, c3⟩
 ·simp only [World.cell?, hg, show off + j * 2 = off + 2 * j by omega]
  simpa using c1
 ·simp only [World.cell?, hg, show off + j * 2 + 1 = off + 2 * j + 1 by omega]
  simpa using c2
theorem cell_1 {W : World} {b : Nat} {x0 x1 : Value} {t : TypeId} (h : W.heap[b]? = some (.cells #[x0, x1] t (0, 0))) : W.cell? ⟨b, 1, none⟩ = some x1 := by simp [World.cell?, h]
theorem ents_full {F : Fil} {n l : Nat} {row : List Bs} {t : List (Nat × List Bs)} {E : List Ent} (h : E.length = n) : ents F n ((l, row) :: t) E = .error (l, 116) := by rw [ents, if_pos h]
theorem ents_bad {F : Fil} {n l c : Nat} {row : List Bs} {t : List (Nat × List Bs)} {E : List Ent} (h : E.length ≠ n) (he : entRow F row = .error c) : ents F n ((l, row) :: t) E = .error (l, c) := by rw [ents, if_neg h, he]
theorem ents_more {F : Fil} {n l : Nat} {row : List Bs} {t : List (Nat × List Bs)} {E : List Ent} {x : Ent} (h : E.length ≠ n) (he : entRow F row = .ok x) : ents F n ((l, row) :: t) E = ents F n t (E ++ [x]) := by rw [ents, if_neg h, he]
theorem readEntries_any {B n0 rb wb mb l0 n : Nat} {w : World} {F : Fil} {P : Pts} {Q0 : WPts} {v : Value} {R : List (Nat × List Bs)} (hF : FAt B w F P) (hM : Mx B w) (hBn : B ≤ n0) (hN : Np (fun a => ∀ x ∈ a, 0 ≤ x ∧ x ≤ 65535) F) (hp : P.pm ≠ mb)
  (h0 : EnI n0 w w rb wb mb F P l0 [] Q0) (hR : RowsAt B w v R) (hRk : RowsOk R) (hn : n ≤ 8192) :
  Calls Tryz.prog 65 #[ptr rb, v, .int .i64 (n : Nat)] w (EnRes n0 w rb wb mb F P (ents F n R [])) := by
 obtain ⟨N, hNN⟩ : ∃ N, R.length = N := ⟨_, rfl⟩
 obtain ⟨ao, cap, rfl, hrl, hrc, -, -⟩ := id hR
 unfold maxLen at hrc
 rw [hNN] at hrl hR ⊢
 have HF := hide hF
 have HM := hide hM
 have HN := hide hN
 have HP := hide hp
 have HR := hide hR
 have HRK := hide hRk
 have HL := hide hNN
 have H0 := hide h0
 clear hF hM hN hp hR hRk hNN h0
 go_enter Tryz.func65, Tryz.ntmps65
 go_wp2
 go_loopw [13] (fun s13 wr => ∃ j : Nat, s13 = .int .i64 j ∧ j ≤ N ∧ Hid (∃ l E Q, EnI n0 w wr rb wb mb F P l E Q ∧ ents F n (R.drop j) E = ents F n R [] ∧ E.length ≤ n)) (fun s13 _ => N - (intOf s13).toNat)
 case atStart => exact ⟨0, rfl, Nat.zero_le _, ⟨l0, [], Q0, unhide H0, rfl, Nat.zero_le _⟩⟩
 case round =>
  obtain ⟨j, rfl, hj, HI⟩ := hrel
  obtain ⟨l, E, Q, hI, hE, hEn⟩ := unhide HI
  by_cases hlt : j < N
  ·have hltz : (j : Int) < (N : Int) := by omega
   obtain ⟨⟨lj, row⟩, hrow⟩ : ∃ p, R[j]? = some p := ⟨_, List.getElem?_eq_getElem (by rw [unhide HL]; exact hlt)⟩
   have hRw : RowsAt B wr (.slice ao N cap) R := rows_kept (unhide HR) (fun g cur q => hI.kq.cells g cur _ (0, 0) q (by decide)) (fun g cur q => hI.kq.cells g cur _ (0, 0) q (by decide))
   obtain ⟨g, off, fv, rfl, hg, hc0, hc1, hSR⟩ := rows_cell hRw hrow
   have hdrop : R.drop j = (lj, row) :: R.drop (j + 1) := by
    rw [List.drop_eq_getElem_cons (by rw [unhide HL]; exact hlt)]
    congr 1
    exact (List.getElem?_eq_some_iff.1 hrow).2
   rw [hdrop] at hE
   obtain ⟨rk1, rk2, rk3⟩ := unhide HRK _ (List.mem_of_getElem? hrow)
   -- the world in which the row was looked at
   have hI1 := hI.line lj
   have hI2 := hI1.below ((Below.refl _ _).alloc (Nat.le_refl _) (.cells #[.int .i64 (lj : Nat), fv] 135))
   obtain ⟨gf, cf, rfl, hgf, hfl, hfc, -, -⟩ := str_cells hSR
   have hs1 : StrRow B (wr.setCell ⟨rb, 7, none⟩ (.int .i64 (lj : Nat))) (.slice (some ⟨gf, 0, none⟩) row.length cf) (row.map Fld.str) := by
    refine str_kept hSR fun g' cur q => (kp_set wr rb 7 _).2 g' (lt_some q) ?_
    rintro rfl
    have := hI.rdr
    rw [q] at this
    injection this with this
    injection this with _ this _
    exact absurd this (by decide)
   have hs2 : StrRow B ((wr.setCell ⟨rb, 7, none⟩ (.int .i64 (lj : Nat))).alloc (.cells #[.int .i64 (lj : Nat), .slice (some ⟨gf, 0, none⟩) row.length cf] 135)) (.slice (some ⟨gf, 0, none⟩) row.length cf) (row.map Fld.str) :=
    str_kept hs1 (below_kept ((Below.refl _ _).alloc (Nat.le_refl _) _))
   have HV := hide (fun (V : World) (hV : V = (wr.setCell ⟨rb, 7, none⟩ (.int .i64 (lj : Nat))).alloc (.cells #[.int .i64 (lj : Nat), .slice (some ⟨gf, 0, none⟩) row.length cf] 135)) => (show EnI n0 w V rb wb mb F P lj E Q ∧ StrRow B V (.slice (some ⟨gf, 0, none⟩) row.length cf) (row.map Fld.str) ∧ Mx B V ∧ V.cell? ⟨wr.heap.size, 1, none⟩ = some (.slice (some ⟨gf, 0, none⟩) row.length cf) from by
    subst hV
    refine ⟨hI2, hs2, (unhide HM).low (hI2.low.mono hBn), ?_⟩
    have := alloc_new (wr.setCell ⟨rb, 7, none⟩ (.int .i64 (lj : Nat))) (.cells #[.int .i64 (lj : Nat), .slice (some ⟨gf, 0, none⟩) row.length cf] 135)
    rw [show (wr.setCell ⟨rb, 7, none⟩ (.int .i64 (lj : Nat))).heap.size = wr.heap.size by simp [World.setCell]] at this
    exact cell_1 this))
   have c7 := (show wr.cell? ⟨rb, 7, none⟩ = some (.int .i64 (l : Nat)) ∧ wr.frozen? ⟨rb, 7, none⟩ = false ∧ wr.cell? ⟨rb, 6, none⟩ = some (.pointer (some ⟨wb, 0, none⟩)) ∧ rb < wr.heap.size from by
    have := hI.rdr
    refine ⟨?_, ?_, ?_, lt_some this⟩ <;> simp [World.cell?, World.frozen?, this, rdC])
   obtain ⟨c71, c72, c6, c73⟩ := c7
   have HROW := hide hrow
   have HE := hide hE
   have HK3 := hide rk3
   clear hI1 hI2 hs1 hs2 hSR hRw hdrop hrow hE hI rk1 rk2 rk3
   by_cases hfull : E.length = n
   ·go_wp2_with fail
    refine gen_call ?_
    intro V hV
    obtain ⟨v1, v2, v3, v4⟩ := unhide HV V hV
    have HV1 := hide v1
    have hbf : (((E.length : Nat) : Int) == (n : Nat)) = true := by simp [hfull]
    refine (len_any v1.wa).mono ?_
    rintro e w5 ⟨rfl, hw⟩
    obtain rfl := hw.symm
    clear v1 v2 v3 hV
    go_wp2
    go_ret
    exact EnRes.no (l := lj) (c := 116) (by rw [← unhide HE]; exact ents_full hfull) (unhide HV1)
   ·have hbf : (((E.length : Nat) : Int) == (n : Nat)) = false := by simp; omega
    cases hx : entRow F row with
    | error c =>
     have hc0 := entRow_code hx
     have hcb : ((c : Int) == 0) = false := by simp [hc0]
     have HX := hide hx
     clear hx hc0
     go_wp2_with fail
     refine gen_call ?_
     intro V hV
     obtain ⟨v1, v2, v3, v4⟩ := unhide HV V hV
     have HV1 := hide v1
     have HEN := hide (entry_any (v1.dh (unhide HF) (unhide HP)) v3 (Nat.le_trans hBn v1.wa.base) (unhide HN) v2 (unhide HK3))
     refine (len_any v1.wa).mono ?_
     rintro e w5 ⟨rfl, hw⟩
     obtain rfl := hw.symm
     clear v1 v2 v3 hV
     go_wp2_with fail
     refine (unhide HEN).mono ?_
     rintro e w6 ⟨b6, q⟩
     rw [unhide HX] at q
     simp only at q
     subst q
     have HI6 := hide ((unhide HV1).below b6)
     clear b6
     go_wp2
     go_ret
     exact EnRes.no (l := lj) (c := c) (by rw [← unhide HE]; exact ents_bad hfull (unhide HX)) ((unhide HI6).below ((Below.refl _ _).alloc (Nat.le_refl _) _))
    | ok x =>
     have HW0 := hide (entRow_word (unhide HK3) hx)
     have HX := hide hx
     clear hx
     go_wp2_with fail
     refine gen_call ?_
     intro V hV
     obtain ⟨v1, v2, v3, v4⟩ := unhide HV V hV
     have HV1 := hide v1
     have HEN := hide (entry_any (v1.dh (unhide HF) (unhide HP)) v3 (Nat.le_trans hBn v1.wa.base) (unhide HN) v2 (unhide HK3))
     refine (len_any v1.wa).mono ?_
     rintro e w5 ⟨rfl, hw⟩
     obtain rfl := hw.symm
     clear v1 v2 v3 hV
     go_wp2_with fail
     refine (unhide HEN).mono ?_
     rintro e w6 ⟨b6, q⟩
     rw [unhide HX] at q
     simp only at q
     obtain ⟨u, rfl, fu⟩ := q
     obtain ⟨ua, un, uc, rfl⟩ := fnx_slice fu
     have HI6 := hide ((unhide HV1).below b6)
     have HFU := hide (fnx_low fu (unhide HV1).wa.base)
     clear b6 fu HEN v4
     go_wp2_with fail
     refine gen_world ?_
     intro V7 hV7
     have HI7 : Hid (EnI n0 w V7 rb wb mb F P lj E Q) := by rw [hV7]; exact (unhide HI6).below ((Below.refl _ _).alloc (Nat.le_refl _) _)
     have HF7 : Hid (FNx n0 V7 (.slice ua un uc) x.flags) := by rw [hV7]; exact fnx_below (unhide HFU) ((Below.refl _ _).alloc (Nat.le_refl _) _)
     have hb7 : V7.heap[w6.heap.size]? = some (.cells #[.string (Wd.str x.word), .slice ua un uc] 56 (0, 0)) := by rw [hV7]; exact alloc_new w6 _
     clear hV7
     obtain ⟨k0, k1, -, klt⟩ := ent_cells hb7
     have hr6 : V7.cell? ⟨rb, 6, none⟩ = some (.pointer (some ⟨wb, 0, none⟩)) := by
      have := (unhide HI7).rdr
      simp [World.cell?, this, rdC]
     have HAD := hide (add_any (x := x) ((unhide HI7).wa.below ((Below.refl _ _).drew)) (unhide HW0) (by omega) (fnx_below (unhide HF7) ((Below.refl _ _).drew)))
     have S0 : Hid (V7.cell? ⟨rb, 6, none⟩ = some (.pointer (some ⟨wb, 0, none⟩)) ∧ V7.cell? ⟨w6.heap.size, 0, none⟩ = some (.string (Wd.str x.word)) ∧ V7.cell? ⟨w6.heap.size, 1, none⟩ = some (.slice ua un uc)) := ⟨hr6, k0, k1⟩
     clear hb7 k0 k1 hr6
     generalize Wd.str x.word = sx at *
     refine Lst.region_last (ops1 := ?ops1) (o := ?op1) (S := fun w' => w'.cell? ⟨rb, 6, none⟩ = some (.pointer (some ⟨wb, 0, none⟩)) ∧ w'.cell? ⟨w6.heap.size, 0, none⟩ = some (.string sx) ∧ w'.cell? ⟨w6.heap.size, 1, none⟩ = some (.slice ua un uc)) (by kernel_rfl) ?hp1 ?hb1 ?hk1 (by exact unhide S0) ?hn1
     case hp1 => (simp only [List.pop_toArray, List.dropLast_cons_cons, List.dropLast_singleton]; rfl)
     case hb1 => (simp only [List.back?_toArray, List.getLast?_cons_cons, List.getLast?_singleton]; rfl)
     case hk1 => kernel_rfl
     intro hHeld
     refine wpAnyH_take (i := 0) (v := ?v2) (by simp only [List.getElem?_toArray, List.getElem?_cons_zero]; rfl) (by kernel_rfl) (by kernel_rfl) (by kernel_rfl) (by exact fun _ _ _ h => h) (Or.inl ⟨by rfl, ?hy2⟩) (by assumption) ?_
     case hy2 => (intro w hSw; (try dsimp only at hSw); go_simp; first | done | (with_reducible rfl))
     (try simp only [Act.put, List.setIfInBounds_toArray, List.set_cons_zero, List.set_cons_succ])
     refine wpAnyH_take (i := 1) (v := ?v3) (by simp only [List.getElem?_toArray, List.getElem?_cons_succ, List.getElem?_cons_zero]; rfl) (by kernel_rfl) (by kernel_rfl) (by kernel_rfl) (by exact fun _ _ _ h => h) (Or.inl ⟨by rfl, ?hy3⟩) (by assumption) ?_
     case hy3 => (intro w hSw; (try dsimp only at hSw); go_simp; first | done | (with_reducible rfl))
     (try simp only [Act.put, List.setIfInBounds_toArray, List.set_cons_zero, List.set_cons_succ])
     refine wpAnyH_take (i := 2) (v := ?v4) (by simp only [List.getElem?_toArray, List.getElem?_cons_succ, List.getElem?_cons_zero]; rfl) (by kernel_rfl) (by kernel_rfl) (by kernel_rfl) (by exact fun _ _ _ h => h) (Or.inl ⟨by rfl, ?hy4⟩) (by assumption) ?_
     case hy4 => (intro w hSw; (try dsimp only at hSw); go_simp; first | done | (with_reducible rfl))
     (try simp only [Act.put, List.setIfInBounds_toArray, List.set_cons_zero, List.set_cons_succ])
     refine wpAnyH_take (i := 3) (v := ?v5) (by simp only [List.getElem?_toArray, List.getElem?_cons_succ, List.getElem?_cons_zero]; rfl) (by kernel_rfl) (by kernel_rfl) (by kernel_rfl) (by exact fun _ _ _ h => h) (Or.inl ⟨by rfl, ?hy5⟩) (by assumption) ?_
     case hy5 => (intro w hSw; (try dsimp only at hSw); go_simp; first | done | (with_reducible rfl))
     (try simp only [Act.put, List.setIfInBounds_toArray, List.set_cons_zero, List.set_cons_succ])
     refine wpAnyH_take (i := 4) (v := ?v6) (by simp only [List.getElem?_toArray, List.getElem?_cons_succ, List.getElem?_cons_zero]; rfl) (by kernel_rfl) (by kernel_rfl) (by kernel_rfl) (by exact fun _ _ _ h => h) (Or.inl ⟨by rfl, ?hy6⟩) (by assumption) ?_
     case hy6 => (intro w hSw; (try dsimp only at hSw); go_simp; first | done | (with_reducible rfl))
     (try simp only [Act.put, List.setIfInBounds_toArray, List.set_cons_zero, List.set_cons_succ])
     refine wpAnyH_done (by kernel_rfl) ?_ _
     show Oper.wp _ _ _ _ _ _
     go_simp
     refine (unhide HAD).mono ?_
     rintro e w8 hr8
     obtain ⟨rfl, Q8, hI8⟩ := ((unhide HI7).below ((Below.refl _ _).drew)).add hr8
     have HI8 := hide hI8
     clear hr8 hI8
     go_wp2
     go_roundw
     case rel => exact ⟨j + 1, by go_num, by omega, ⟨lj, E ++ [x], Q8, unhide HI8, by rw [← ents_more hfull (unhide HX)]; exact unhide HE, by simp; omega⟩⟩
     case measure => simp [intOf]; omega
  ·obtain rfl : j = N := by omega
   have hltz : ¬ (j : Int) < (j : Int) := by omega
   have HEE : Hid (ents F n R [] = .ok E) := by
    show ents F n R [] = _
    rw [← hE, List.drop_of_length_le (by rw [unhide HL]; exact Nat.le_refl _)]
    rfl
   have HI2 := hide hI
   clear hI hE
   go_wp2
   go_ret
   exact EnRes.yes (unhide HEE) (unhide HI2)
end Af
end Go.Proofs.YtidhbhdcoanfcaaGreatDoor
