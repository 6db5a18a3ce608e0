import Derived.Test.YtidhbhdcoanfcaaGreatDoorGuBh1
namespace Go.Proofs.YtidhbhdcoanfcaaGreatDoor
open Go.RowKit
namespace Af
open RowB
theorem puts : (∀ (l : List Value) (i : Nat) (a : Value), l.toArray.setIfInBounds i a = (l.set i a).toArray) ∧ (∀ (x : Value) (l : List Value) (a : Value), (x :: l).set 0 a = a :: l) ∧ ∀ (x : Value) (l : List Value) (n : Nat) (a : Value), (x :: l).set (n + 1) a = x :: l.set n a := ⟨fun _ _ _ => by simp, fun _ _ _ => rfl, fun _ _ _ _ => rfl⟩
def dropSeq : Nat → Code → Code
 | 0, c => c
 | n + 1, .seq _ b => dropSeq n b
 | _ + 1, c => c
noncomputable def cls7 : Code := dropSeq 7 (Tryz.f80.body.getD .skip)
def CS (B rb cb : Nat) (w W : World) (R : Rdr) (P0 : Pts) (c : Cls) (hv : Value) (hd : List Bs) (j : Nat) : Prop :=
 ∃ Rj Pj, LP B rb w W Rj Pj P0 hv hd ∧ W.heap[cb]? = some (.cells (clsC c).toArray 94 (0, 0)) ∧ times (rulStep [fld hd 0, fld hd 1] c) j R = .ok Rj ∧ Rj.file.rules.length = R.file.rules.length + j
theorem cls_cells {W : World} {cb : Nat} {c : Cls} (h : W.heap[cb]? = some (.cells (clsC c).toArray 94 (0, 0))) : W.cell? ⟨cb, 0, none⟩ = some (.int .u16 c.flag) ∧ W.cell? ⟨cb, 1, none⟩ = some (.int .i64 c.kind) ∧ W.cell? ⟨cb, 2, none⟩ = some (.bool c.cross) ∧ W.cell? ⟨cb, 3, none⟩ = some (.int .i64 (c.first : Nat)) ∧ W.cell? ⟨cb, 4, none⟩ = some (.int .i64 (c.count : Nat)) := by
 refine ⟨?_, ?_, ?_, ?_, ?_⟩ <;> simp [World.cell?, h, clsC]
set_option maxRecDepth 100000 in
set_option maxHeartbeats 8000000 in
theorem cls_loop {B rb cb g cap : Nat} {R1 : Rdr} {P1 P0 : Pts} {w W : World} {c : Cls} {hd : List Bs} {X : Except Er Rdr} (hL : LP B rb w W R1 P1 P0 (.slice (some ⟨g, 0, none⟩) 4 cap) hd) (hM : Mx B w) (hB : W.heap[cb]? = some (.cells (clsC c).toArray 94 (0, 0))) (hlen : hd.length = 4) (hfew : R1.file.rules.length + c.count ≤ 1024) (hX : X = times (rulStep [fld hd 0, fld hd 1] c) c.count R1) (_hcap : 4 ≤ cap) (_hcap2 : cap ≤ 9223372036854775807)
  (u2 u3 u4 u5 u7 u8 u9 u10 u11 u12 u13 u14 u15 u16 u17 u18 u19 u20 u21 u22 u23 u24 u25 u26 u27 u28 u29 u30 u31 u32 u33 u34 u35 u36 u37 u38 u39 u40 u41 u42 u43 u44 u45 u46 u47 u48 u49 u50 u51 u52 u53 u54 u55 u56 u57 u58 u59 u60 u61 u62 u63 u64 u65 u66 u67 u68 u69 u70 u71 u72 u73 u74 u75 u76 u77 u78 u79 u80 u81 u82 u83 u84 u85 u86 u87 u88 u89 u90 u91 u92 u93 u94 u95 u96 u97 u98 u99 u100 u101 u102 u103 u104 u105 u106 u107 u108 u109 u110 u111 u112 u113 u114 u115 u116 u117 u118 u119 u120 u121 u122 u123 u124 u125 u126 u127 u128 u129 u130 u131 u132 u133 u134 u135 u136 u137 u138 : Value) :
  Code.wp Tryz.prog cls7 (bodyPost Tryz.prog Tryz.f80 (Res B rb P0 w X)) ⟨#[ptr rb, .slice (some ⟨g, 0, none⟩) 4 cap, u2, u3, u4, u5, .pointer (some ⟨cb, 0, none⟩), u7, u8, u9, u10, u11, u12, u13, u14, u15, u16, u17, u18, u19, u20, u21, u22, u23, u24, u25, u26, u27, u28, u29, u30, u31, u32, u33, u34, u35, u36, u37, u38, u39, u40, u41, u42, u43, u44, u45, u46, u47, u48, u49, u50, u51, u52, u53, u54, u55, u56, u57, u58, u59, u60, u61, u62, u63, u64, u65, u66, u67, u68, u69, u70, u71, u72, u73, u74, u75, u76, u77, u78, u79, u80, u81, u82, u83, u84, u85, u86, u87, u88, u89, u90, u91, u92, u93, u94, u95, u96, u97, u98, u99, u100, u101, u102, u103, u104, u105, u106, u107, u108, u109, u110, u111, u112, u113, u114, u115, u116, u117, u118, u119, u120, u121, u122, u123, u124, u125, u126, u127, u128, u129, u130, u131, u132, u133, u134, u135, u136, u137, u138], []⟩ W := by
 conv => arg 2; whnf
 have HS := hide (And.intro hL hB)
 have HM := hide hM
 have HLN := hide hlen
 obtain ⟨-, -, -, -, c4⟩ := cls_cells hB
 have hn1 : c.count ≤ 1024 := by omega
 obtain ⟨n, hn⟩ : ∃ n, c.count = n := ⟨_, rfl⟩
 rw [hn] at c4 hn1 hX hfew
 have HX := hide hX
 have HFW := hide hfew
 have HN := hide hn
 clear hL hM hlen hX hfew hB hn
 go_wp2
 go_loopw [93] (fun s93 wr => ∃ j : Nat, s93 = .int .i64 j ∧ j ≤ n ∧ Hid (CS B rb cb w wr R1 P0 c (.slice (some ⟨g, 0, none⟩) 4 cap) hd j)) (fun s93 _ => n - (intOf s93).toNat)
 case atStart => exact ⟨0, rfl, Nat.zero_le _, ⟨R1, P1, (unhide HS).1, (unhide HS).2, rfl, rfl⟩⟩
 case round =>
  obtain ⟨j, rfl, hj, HR⟩ := hrel
  by_cases hlt : j < n
  ·obtain ⟨Rj, Pj, hL, hblk, ht, hjl⟩ := unhide HR
   have HT := hide ht
   have HJL := hide hjl
   have HL := hide hL
   have HB := hide hblk
   have hltz : (j : Int) < (n : Int) := by omega
   obtain ⟨hg', -, hcc⟩ := str_at hL.row
   have q0 := hcc 0 _ (fld_get (by rw [unhide HLN]; decide))
   have q1 := hcc 1 _ (fld_get (by rw [unhide HLN]; decide))
   clear HR ht hjl hcc c4 HS
   have HA := hide (hL.below (((Below.refl _ wr).alloc (Nat.le_refl _) (.cells #[.string (Fld.str (fld hd 0)), .string (Fld.str (fld hd 1))] 9)).drew))
   have HG := hide (groupRow_any (n := wr.heap.size) (unhide HA).at_ [fld hd 0, fld hd 1] (.slice (some ⟨wr.heap.size, 0, none⟩) 2 2) (str_new wr [fld hd 0, fld hd 1] (by simp) (by simp)) (by simp))
   have bb := fun q i (hb : q < wr.heap.size) => (((Below.refl wr.heap.size wr).alloc (Nat.le_refl _) (.cells #[.string (Fld.str (fld hd 0)), .string (Fld.str (fld hd 1))] 9)).drew).cell (p := ⟨q, i, none⟩) hb
   have q0a := (bb g 0 hg').trans q0
   have q1a := (bb g 1 hg').trans q1
   have HQ : Hid (∀ w2, Kp rb (wr.alloc (.cells #[.string (Fld.str (fld hd 0)), .string (Fld.str (fld hd 1))] 9)).drew w2 → w2.cell? ⟨g, 0, none⟩ = some (.string (Fld.str (fld hd 0))) ∧ w2.cell? ⟨g, 1, none⟩ = some (.string (Fld.str (fld hd 1))) ∧ w2.heap[cb]? = some (.cells (clsC c).toArray 94 (0, 0))) := by
    intro w2 k2
    have ha := (alloc_heap1 hblk (.cells #[.string (Fld.str (fld hd 0)), .string (Fld.str (fld hd 1))] 9) : (wr.alloc (.cells #[.string (Fld.str (fld hd 0)), .string (Fld.str (fld hd 1))] 9)).drew.heap[cb]? = _)
    obtain ⟨-, -, hc2⟩ := str_at (str_kept (unhide HA).row (k2.kept (unhide HA).at_.rdr (ne_cells (by decide))))
    exact ⟨hc2 0 _ (fld_get (by rw [unhide HLN]; decide)), hc2 1 _ (fld_get (by rw [unhide HLN]; decide)), (k2.kept (unhide HA).at_.rdr (ne_cells (by decide)) cb _ ha).trans ha⟩
   clear bb hblk
   generalize Fld.str (fld hd 0) = r0 at *
   generalize Fld.str (fld hd 1) = r1 at *
   clear hL
   cases hgr : grow Rj [fld hd 0, fld hd 1] with
   | error er =>
    have HE := hide (times_err (unhide HT) (rulStep_g hgr) hlt)
    have HGN := hide (gNo (unhide HG) hgr)
    clear HG hgr
    go_wp2_with fail
    refine wp_region_held_drew (S := fun w' => w'.cell? ⟨g, 0, none⟩ = some (.string r0) ∧ w'.cell? ⟨g, 1, none⟩ = some (.string r1)) (by kernel_rfl) ?_ (fun hHeld => ?_)
    ·exact ⟨q0, q1⟩
    refine Lst.tk 0 ?_
    (try simp only [Act.put, puts])
    refine Lst.tk 1 ?_
    (try simp only [Act.put])
    refine Lst.tk 2 ?_
    (try simp only [Act.put])
    refine Lst.tk 3 ?_
    (try simp only [Act.put])
    refine Lst.tk 4 ?_
    (try simp only [Act.put])
    refine Lst.tk 5 ?_
    (try simp only [Act.put])
    refine Lst.tk 6 ?_
    (try simp only [Act.put])
    refine wpAnyH_ready (rs := [7]) (by kernel_rfl) (by simp) ?_
    refine AllReadyH.cons (by simp only [List.getElem?_toArray, List.getElem?_cons_succ, List.getElem?_cons_zero]; rfl) (fun K hK => ?_) AllReadyH.nil
    go_simp
    refine hK.out _ _ (⟨q0a, q1a⟩) (fun hh1 => ?_)
    clear hK K
    (try simp only [Act.put, puts])
    refine wpAnyH_ready (rs := [8]) (by kernel_rfl) (by simp) ?_
    refine AllReadyH.cons (by simp only [List.getElem?_toArray, List.getElem?_cons_succ, List.getElem?_cons_zero]; rfl) (fun K hK => ?_) AllReadyH.nil
    go_simp
    go_wp2_with (go_at_call 102; refine (unhide HGN).mono ?_; rintro e w2 ⟨rfl, k2, l2⟩)
    exact ⟨rfl, (unhide HA).no2 k2 l2 ((unhide HX).trans (unhide HE))⟩
   | ok p =>
    obtain ⟨row, R2⟩ := p
    have HGR := hide hgr
    have HGO := hide (gOk (unhide HG) hgr)
    obtain ⟨lq, tq, hrq, hr1, hr2, hr3, hr4, hr5⟩ := grow_rows hgr
    have HFL := hide (grow_len (unhide HL).at_.rok hgr)
    have HJ1 : Hid (R2.file.rules.length = R1.file.rules.length + j) := by rw [Hid, hr3]; exact unhide HJL
    clear HG hgr hrq hr1 hr2 hr3 hr4 hr5
    go_wp2_with fail
    refine wp_region_held_drew (S := fun w' => w'.cell? ⟨g, 0, none⟩ = some (.string r0) ∧ w'.cell? ⟨g, 1, none⟩ = some (.string r1)) (by kernel_rfl) ?_ (fun hHeld => ?_)
    ·exact ⟨q0, q1⟩
    refine Lst.tk 0 ?_
    (try simp only [Act.put, puts])
    refine Lst.tk 1 ?_
    (try simp only [Act.put])
    refine Lst.tk 2 ?_
    (try simp only [Act.put])
    refine Lst.tk 3 ?_
    (try simp only [Act.put])
    refine Lst.tk 4 ?_
    (try simp only [Act.put])
    refine Lst.tk 5 ?_
    (try simp only [Act.put])
    refine Lst.tk 6 ?_
    (try simp only [Act.put])
    refine wpAnyH_ready (rs := [7]) (by kernel_rfl) (by simp) ?_
    refine AllReadyH.cons (by simp only [List.getElem?_toArray, List.getElem?_cons_succ, List.getElem?_cons_zero]; rfl) (fun K hK => ?_) AllReadyH.nil
    go_simp
    refine hK.out _ _ (⟨q0a, q1a⟩) (fun hh1 => ?_)
    clear hK K
    (try simp only [Act.put, puts])
    refine wpAnyH_ready (rs := [8]) (by kernel_rfl) (by simp) ?_
    refine AllReadyH.cons (by simp only [List.getElem?_toArray, List.getElem?_cons_succ, List.getElem?_cons_zero]; rfl) (fun K hK => ?_) AllReadyH.nil
    go_simp
    go_wp2_with (go_at_call 102; refine (unhide HGO).mono ?_; rintro e w2 ⟨fv, rv, rfl, s2, r2, k2, l2⟩; have HL2 := hide ((unhide HA).grow k2 l2 r2); obtain ⟨q02, q12, hB2⟩ := unhide HQ _ k2; have HB2 := hide hB2; have HS2 := hide s2; obtain ⟨g2, cap2, rfl, hg2, x1, x2, -, -⟩ := str_cells s2; clear s2 r2 k2 l2 hB2)
    refine hK.out _ _ (⟨q02, q12⟩) (fun hh2 => ?_)
    clear hK K
    (try simp only [Act.put, puts])
    refine Lst.tk 9 ?_
    (try simp only [Act.put, puts])
    refine wpAnyH_done (by kernel_rfl) ?_ _
    clear q0 q1 q0a q1a q02 q12
    have hL2 := unhide HL2
    obtain ⟨d0, -, d2, -, -, -, -⟩ := hL2.at_.cells
    obtain ⟨-, -, -, -, k12, -, -⟩ := hL2.at_.file.cells
    obtain ⟨c0, c1, c2, c3, c4⟩ := cls_cells (unhide HB2)
    have ho := hL2.at_.file.ruls
    rw [unhide HJ1] at ho
    obtain ⟨nr, hnr⟩ : ∃ nr, R1.file.rules.length + j = nr := ⟨_, rfl⟩
    have HNR := hide hnr
    rw [hnr] at ho
    have hn1024 : nr < 1024 := by have := unhide HFW; omega
    obtain ⟨av, cv, ev, -, -⟩ := own_len ho
    replace k12 : w2.cell? ⟨Pj.fb, 12, none⟩ = some (.slice av nr cv) := k12.trans (by rw [ev])
    replace d0 : w2.cell? ⟨rb, 0, none⟩ = some (.pointer (some ⟨Pj.fb, 0, none⟩)) := d0
    have HLT := hide (And.intro hL2.at_.lt (And.intro (hL2.at_.file.lt : Pj.fb < w2.heap.size) (lt_some (unhide HB2))))
    have HEV := hide ev
    have HU := hide (rule_any (hL2.at_.below ((Below.refl _ w2).drew)) ((((unhide HM).low hL2.kt.low).low ((Below.refl B w2).drew))) c row (.slice (some ⟨g2, 0, none⟩) row.length cap2) (unhide HS2 : StrRow B w2.drew _ _) (unhide HFL).2)
    unfold clsV at HU
    clear hnr ho ev hL2
    cases hru : rule R2.file R2.line c row with
    | error er =>
     have HE := hide (times_err (unhide HT) (rulStep_r (unhide HGR) hru) hlt)
     have HUN := hide (uNo (unhide HU) hru)
     clear HU hru
     go_wp2_with fail
     refine Lst.region_last (ops1 := ?ops1) (o := ?op1) (S := fun w' => w'.cell? ⟨rb, 0, none⟩ = some (.pointer (some ⟨Pj.fb, 0, none⟩)) ∧ w'.cell? ⟨Pj.fb, 12, none⟩ = some (.slice av nr cv) ∧ w'.cell? ⟨cb, 0, none⟩ = some (.int .u16 c.flag) ∧ w'.cell? ⟨cb, 1, none⟩ = some (.int .i64 c.kind) ∧ w'.cell? ⟨cb, 2, none⟩ = some (.bool c.cross) ∧ w'.cell? ⟨cb, 3, none⟩ = some (.int .i64 (c.first : Nat)) ∧ w'.cell? ⟨cb, 4, none⟩ = some (.int .i64 (c.count : Nat))) (by kernel_rfl) ?hp1 ?hb1 ?hk1 (by exact ⟨d0, k12, c0, c1, c2, c3, c4⟩) ?hn1
     case hp1 => (simp only [List.pop_toArray, List.dropLast_cons_cons, List.dropLast_singleton]; rfl)
     case hb1 => (simp only [List.back?_toArray, List.getLast?_cons_cons, List.getLast?_singleton]; rfl)
     case hk1 => kernel_rfl
     intro hHeld
     refine Lst.tk 0 ?_
     (try simp only [Act.put, puts])
     refine Lst.tk 1 ?_
     (try simp only [Act.put])
     refine Lst.tk 2 ?_
     (try simp only [Act.put])
     refine Lst.tk 3 ?_
     (try simp only [Act.put])
     refine Lst.tk 4 ?_
     (try simp only [Act.put])
     refine Lst.tk 5 ?_
     (try simp only [Act.put])
     refine Lst.tk 6 ?_
     (try simp only [Act.put])
     refine Lst.tk 7 ?_
     (try simp only [Act.put])
     refine Lst.tk 8 ?_
     (try simp only [Act.put])
     refine Lst.tk 9 ?_
     (try simp only [Act.put])
     refine Lst.tk 10 ?_
     (try simp only [Act.put])
     refine Lst.tk 11 ?_
     (try simp only [Act.put])
     refine Lst.tk 12 ?_
     (try simp only [Act.put])
     refine Lst.tk 13 ?_
     (try simp only [Act.put])
     refine Lst.tk 14 ?_
     (try simp only [Act.put])
     refine wpAnyH_ready (rs := [15]) (by kernel_rfl) (by simp) ?_
     refine AllReadyH.cons (by simp only [List.getElem?_toArray, List.getElem?_cons_succ, List.getElem?_cons_zero]; rfl) (fun K hK => ?_) AllReadyH.nil
     go_simp
     go_wp2_with (go_at_call 106; refine (unhide HUN).mono ?_; rintro e w4 ⟨rfl, b4⟩)
     exact ⟨rfl, (unhide HL2).no (((Below.refl w2.heap.size w2).drew).trans b4) ((unhide HX).trans (unhide HE))⟩
    | ok r =>
     have HUO := hide (uOk (unhide HU) hru)
     have HRU := hide hru
     clear HU hru
     go_wp2_with fail
     rename_i K0 hK0
     have HK0 := hide hK0
     clear hK0
     refine Lst.region_last (ops1 := ?ops2) (o := ?op2) (S := fun w' => w'.cell? ⟨rb, 0, none⟩ = some (.pointer (some ⟨Pj.fb, 0, none⟩)) ∧ w'.cell? ⟨Pj.fb, 12, none⟩ = some (.slice av nr cv) ∧ w'.cell? ⟨cb, 0, none⟩ = some (.int .u16 c.flag) ∧ w'.cell? ⟨cb, 1, none⟩ = some (.int .i64 c.kind) ∧ w'.cell? ⟨cb, 2, none⟩ = some (.bool c.cross) ∧ w'.cell? ⟨cb, 3, none⟩ = some (.int .i64 (c.first : Nat)) ∧ w'.cell? ⟨cb, 4, none⟩ = some (.int .i64 (c.count : Nat))) (by kernel_rfl) ?hp2 ?hb2 ?hk2 (by exact ⟨d0, k12, c0, c1, c2, c3, c4⟩) ?hn2
     case hp2 => (simp only [List.pop_toArray, List.dropLast_cons_cons, List.dropLast_singleton]; rfl)
     case hb2 => (simp only [List.back?_toArray, List.getLast?_cons_cons, List.getLast?_singleton]; rfl)
     case hk2 => kernel_rfl
     intro hHeld
     refine Lst.tk 0 ?_
     (try simp only [Act.put, puts])
     refine Lst.tk 1 ?_
     (try simp only [Act.put])
     refine Lst.tk 2 ?_
     (try simp only [Act.put])
     refine Lst.tk 3 ?_
     (try simp only [Act.put])
     refine Lst.tk 4 ?_
     (try simp only [Act.put])
     refine Lst.tk 5 ?_
     (try simp only [Act.put])
     refine Lst.tk 6 ?_
     (try simp only [Act.put])
     refine Lst.tk 7 ?_
     (try simp only [Act.put])
     refine Lst.tk 8 ?_
     (try simp only [Act.put])
     refine Lst.tk 9 ?_
     (try simp only [Act.put])
     refine Lst.tk 10 ?_
     (try simp only [Act.put])
     refine Lst.tk 11 ?_
     (try simp only [Act.put])
     refine Lst.tk 12 ?_
     (try simp only [Act.put])
     refine Lst.tk 13 ?_
     (try simp only [Act.put])
     refine Lst.tk 14 ?_
     (try simp only [Act.put])
     refine wpAnyH_ready (rs := [15]) (by kernel_rfl) (by simp) ?_
     refine AllReadyH.cons (by simp only [List.getElem?_toArray, List.getElem?_cons_succ, List.getElem?_cons_zero]; rfl) (fun K hK => ?_) AllReadyH.nil
     go_simp
     go_wp2_with (go_at_call 106; refine (unhide HUO).mono ?_; rintro e w4 ⟨u, rfl, f4, b4'⟩; have b4 := ((Below.refl w2.heap.size w2).drew).trans b4'; have HB4 := hide b4; have HF4 := hide f4; have bb := fun q i (hb : q < w2.heap.size) => b4.cell (p := ⟨q, i, none⟩) hb; have d04 := (bb rb 0 (unhide HLT).1).trans d0; have k124 := (bb Pj.fb 12 (unhide HLT).2.1).trans k12; have c04 := (bb cb 0 (unhide HLT).2.2).trans c0; have c14 := (bb cb 1 (unhide HLT).2.2).trans c1; have c24 := (bb cb 2 (unhide HLT).2.2).trans c2; have c34 := (bb cb 3 (unhide HLT).2.2).trans c3; have c44 := (bb cb 4 (unhide HLT).2.2).trans c4; clear b4 b4' f4 bb)
     refine hK.out _ _ (⟨d04, k124, c04, c14, c24, c34, c44⟩) (fun hh3 => ?_)
     clear hK K
     (try simp only [Act.put, puts])
     obtain ⟨ao3, n3, c3', rfl⟩ : ∃ a m c, u = .slice a m c := by
      rcases unhide HF4 with ⟨q, -⟩ | ⟨gq, cq, curq, q, -⟩
      ·exact ⟨_, _, _, q⟩
      ·exact ⟨_, _, _, q⟩
     have hL4 := (unhide HL2).below (unhide HB4)
     have ho := hL4.at_.file.ruls
     rw [unhide HJ1, unhide HNR] at ho
     obtain ⟨av5, cv5, w5, hap, o5, k5, l5, b5⟩ := push1 (B := B) (w := w4) (X := w4.alloc (.cells (rulC r (.slice ao3 n3 c3')).toArray 79)) (t := 41) (v := Pj.vu) Tryz.underlying41 infoU rfl (by decide) ho hL4.at_.base ((Below.refl _ _).alloc (Nat.le_refl _) _) (alloc_new w4 _) rfl (by intro u hu; simp [rulC] at hu; rcases hu with rfl | rfl | rfl | rfl | rfl | rfl | rfl <;> rfl) (by omega) (by decide) 41
     rw [unhide HEV] at hap
     have HAP := hide hap
     have hB4 := (below_kept (unhide HB4) _ _ (unhide HB2)).trans (unhide HB2)
     have hB5 := (k5.cells _ _ _ _ hB4 (by decide)).trans hB4
     have HB5 := hide hB5
     obtain ⟨c05, c15, c25, c35, c45⟩ := cls_cells hB5
     have d05 : w5.cell? ⟨rb, 0, none⟩ = some (.pointer (some ⟨Pj.fb, 0, none⟩)) := (World.cell?_of_block (a := ⟨rb, 0, none⟩) (k5.cells _ _ _ _ hL4.at_.rdr (by decide))).trans d04
     have k125 : w5.cell? ⟨Pj.fb, 12, none⟩ = some (.slice av nr cv) := (World.cell?_of_block (a := ⟨Pj.fb, 12, none⟩) (k5.cells _ _ _ _ hL4.at_.file.fil (by decide))).trans k124
     have f5 : w5.frozen? ⟨Pj.fb, 12, none⟩ = false := by
      have := (k5.cells _ _ _ _ hL4.at_.file.fil (by decide)).trans hL4.at_.file.fil
      simp [World.frozen?, this]
     have hfb5 : Pj.fb < w5.heap.size := World.block_lt_of_cell? w5 ⟨Pj.fb, 12, none⟩ k125
     have bb := fun q i (hb : q < w4.heap.size) => ((Below.refl w4.heap.size w4).alloc (Nat.le_refl _) (.cells (rulC r (.slice ao3 n3 c3')).toArray 79)).cell (p := ⟨q, i, none⟩) hb
     have h04 := World.block_lt_of_cell? w4 ⟨cb, 0, none⟩ c04
     have d0a := (bb rb 0 (World.block_lt_of_cell? w4 ⟨rb, 0, none⟩ d04)).trans d04
     have k12a := (bb Pj.fb 12 (World.block_lt_of_cell? w4 ⟨Pj.fb, 12, none⟩ k124)).trans k124
     have c0a := (bb cb 0 h04).trans c04
     have c1a := (bb cb 1 h04).trans c14
     have c2a := (bb cb 2 h04).trans c24
     have c3a := (bb cb 3 h04).trans c34
     have c4a := (bb cb 4 h04).trans c44
     -- the lines
     have k56 : Kq [97] noM w5 (w5.setCell ⟨Pj.fb, 12, none⟩ (.slice av5 (nr + 1) cv5)) := .kp (kp_set w5 Pj.fb 12 _) ((k5.cells _ _ _ _ hL4.at_.file.fil (by decide)).trans hL4.at_.file.fil) (by simp)
     have k46 : Kq [79, 97] noM w4 (w5.setCell ⟨Pj.fb, 12, none⟩ (.slice av5 (nr + 1) cv5)) := (k5.wide (by decide) (fun _ x => x)).trans (k56.wide (by decide) (fun _ x => x))
     have hl := own_kq hL4.at_.lns k46 (by decide)
     rw [unhide HJ1, unhide HNR] at hl
     obtain ⟨al, cl, el, -, -⟩ := own_len hl
     have hB6 : B ≤ (w5.setCell ⟨Pj.fb, 12, none⟩ (.slice av5 (nr + 1) cv5)).heap.size := Nat.le_trans hL4.at_.base k46.size
     obtain ⟨al7, cl7, w7, hap7, o7, k7, l7, b7⟩ := push1 (B := B) (w := w5.setCell ⟨Pj.fb, 12, none⟩ (.slice av5 (nr + 1) cv5)) (X := ((w5.setCell ⟨Pj.fb, 12, none⟩ (.slice av5 (nr + 1) cv5)).alloc (.cells #[.int .i64 (R2.line : Nat)] 3)).drew) (t := 76) (v := Pj.vl) Tryz.underlying76 infoI rfl (by decide) hl hB6 (((Below.refl _ _).alloc (Nat.le_refl _) _).drew) (alloc_new _ _) rfl (by intro u hu; simp at hu; subst hu; rfl) (by omega) (by decide) 76
     rw [el] at hap7
     have HADD := hide ((unhide HL2).at_.addRule r (rule_line (unhide HRU)) (by rw [unhide HJ1, unhide HNR]; omega) (unhide HB4) (unhide HF4) k5 l5 (by rw [unhide HJ1, unhide HNR]; exact o5) k7 l7 (by rw [unhide HJ1, unhide HNR]; exact o7))
     have hr4 := hL4.at_.rdr
     have hr6 := (k46.cells _ _ _ _ hr4 (by decide)).trans hr4
     have hr7 := (k7.cells _ _ _ _ hr6 (by decide)).trans hr6
     obtain ⟨-, -, d24, -, -, d54, z4⟩ := hL4.at_.cells
     have d26 := (World.cell?_of_block (a := ⟨rb, 2, none⟩) (k46.cells _ _ _ _ hr4 (by decide))).trans d24
     have d56 := (World.cell?_of_block (a := ⟨rb, 5, none⟩) (k46.cells _ _ _ _ hr4 (by decide))).trans d54
     have d27 := (World.cell?_of_block (a := ⟨rb, 2, none⟩) (k7.cells _ _ _ _ hr6 (by decide))).trans d26
     have d57 := (World.cell?_of_block (a := ⟨rb, 5, none⟩) (k7.cells _ _ _ _ hr6 (by decide))).trans d56
     replace d56 : (w5.setCell ⟨Pj.fb, 12, none⟩ (.slice av5 (nr + 1) cv5)).cell? ⟨rb, 5, none⟩ = some (.slice al nr cl) := d56.trans (by rw [← el])
     replace d57 : w7.cell? ⟨rb, 5, none⟩ = some (.slice al nr cl) := d57.trans (by rw [← el])
     have f7 : w7.frozen? ⟨rb, 5, none⟩ = false := by simp [World.frozen?, hr7]
     have hrb7 := lt_some hr7
     have hrb6 := lt_some hr6
     have bb6 := fun i => (((Below.refl (w5.setCell ⟨Pj.fb, 12, none⟩ (.slice av5 (nr + 1) cv5)).heap.size (w5.setCell ⟨Pj.fb, 12, none⟩ (.slice av5 (nr + 1) cv5))).alloc (Nat.le_refl _) (.cells #[.int .i64 (R2.line : Nat)] 3)).drew).cell (p := ⟨rb, i, none⟩) hrb6
     have d2a := (bb6 2).trans d26
     have d5a := (bb6 5).trans d56
     have HB7 : Hid ((w7.setCell ⟨rb, 5, none⟩ (.slice al7 (nr + 1) cl7)).heap[cb]? = some (.cells (clsC c).toArray 94 (0, 0))) := by
      have e6 := (k56.cells _ _ _ _ hB5 (by decide)).trans hB5
      have e7 := (k7.cells _ _ _ _ e6 (by decide)).trans e6
      have hne : cb ≠ rb := by
       rintro rfl
       rw [hr7] at e7
       injection e7 with e7
       injection e7 with _ e7 _
       exact absurd e7 (by decide)
      exact (Below.heap_setCell w7 _ _ _ hne).trans e7
     have HAP7 := hide hap7
     clear ho hap o5 k5 l5 b5 hB4 hB5 bb k56 k46 hl hB6 hap7 o7 k7 l7 b7 hr4 hr6 hr7 d24 d54 z4 bb6 el hL4
     unfold rulC at HAP
     have H6 := hide (And.intro d56 d26)
     have H6a := hide (And.intro d5a d2a)
     have H7 := hide (And.intro d57 d27)
     have H7f := hide (And.intro f7 hrb7)
     have H5f := hide (And.intro f5 hfb5)
     have H5a := hide (And.intro d0a (And.intro k12a (And.intro c0a (And.intro c1a (And.intro c2a (And.intro c3a c4a))))))
     have H5 := hide (And.intro d05 (And.intro k125 (And.intro c05 (And.intro c15 (And.intro c25 (And.intro c35 c45))))))
     clear d56 d26 d5a d2a d57 d27 f7 hrb7 hrb6 f5 hfb5 d0a k12a c0a c1a c2a c3a c4a d05 k125 c05 c15 c25 c35 c45 h04 d04 k124 c04 c14 c24 c34 c44
     clear d0 d2 k12 c0 c1 c2 c3 c4
     refine wpAnyH_ready (rs := [16]) (by kernel_rfl) (by simp) ?_
     refine AllReadyH.cons (by simp only [List.getElem?_toArray, List.getElem?_cons_succ, List.getElem?_cons_zero]; rfl) (fun K hK => ?_) AllReadyH.nil
     go_simp
     refine hK.out _ _ (unhide H5a) (fun hh4 => ?_)
     clear hK K
     (try simp only [Act.put, puts])
     refine wpAnyH_ready (rs := [17]) (by kernel_rfl) (by simp) ?_
     refine AllReadyH.cons (by simp only [List.getElem?_toArray, List.getElem?_cons_succ, List.getElem?_cons_zero]; rfl) (fun K hK => ?_) AllReadyH.nil
     refine step_app (by rfl) _ _ _ (by rfl) _ _ _ _ (by rfl) (by rfl) (by exact unhide HAP) ?_
     refine hK.out _ _ (unhide H5) (fun hh5 => ?_)
     clear hK K
     (try simp only [Act.put, puts])
     refine Lst.tk 18 ?_
     (try simp only [Act.put, puts])
     refine Lst.tk 19 ?_
     (try simp only [Act.put])
     refine Lst.tk 20 ?_
     (try simp only [Act.put])
     refine wpAnyH_done (by kernel_rfl) ?_ _
     show Oper.wp _ _ _ _ _ _
     have k125 := (unhide H5).2.1
     obtain ⟨f5, hfb5⟩ := unhide H5f
     go_simp
     apply unhide HK0
     clear k125 f5 hfb5
     refine gen_world ?_
     intro V6 hV6
     rw [← hV6] at H6 H6a HAP7
     clear hV6 HAP H5 H5a H5f
     refine Lst.region_last (ops1 := ?ops3) (o := ?op3) (S := fun w' => w'.cell? ⟨rb, 5, none⟩ = some (.slice al nr cl) ∧ w'.cell? ⟨rb, 2, none⟩ = some (.int .i64 (R2.line : Nat))) (by kernel_rfl) ?hp3 ?hb3 ?hk3 (by exact unhide H6) ?hn3
     case hp3 => (simp only [List.pop_toArray, List.dropLast_cons_cons, List.dropLast_singleton]; rfl)
     case hb3 => (simp only [List.back?_toArray, List.getLast?_cons_cons, List.getLast?_singleton]; rfl)
     case hk3 => kernel_rfl
     intro hHeld
     refine Lst.tk 0 ?_
     (try simp only [Act.put, puts])
     refine Lst.tk 1 ?_
     (try simp only [Act.put])
     refine Lst.tk 2 ?_
     (try simp only [Act.put])
     refine Lst.tk 3 ?_
     (try simp only [Act.put])
     refine Lst.tk 4 ?_
     (try simp only [Act.put])
     refine Lst.tk 5 ?_
     (try simp only [Act.put])
     refine Lst.tk 6 ?_
     (try simp only [Act.put])
     refine Lst.tk 7 ?_
     (try simp only [Act.put])
     refine Lst.tk 8 ?_
     (try simp only [Act.put])
     refine wpAnyH_ready (rs := [9]) (by kernel_rfl) (by simp) ?_
     refine AllReadyH.cons (by simp only [List.getElem?_toArray, List.getElem?_cons_succ, List.getElem?_cons_zero]; rfl) (fun K hK => ?_) AllReadyH.nil
     go_simp
     refine hK.out _ _ (unhide H6a) (fun hh6 => ?_)
     clear hK K
     (try simp only [Act.put, puts])
     refine wpAnyH_ready (rs := [10]) (by kernel_rfl) (by simp) ?_
     refine AllReadyH.cons (by simp only [List.getElem?_toArray, List.getElem?_cons_succ, List.getElem?_cons_zero]; rfl) (fun K hK => ?_) AllReadyH.nil
     refine step_app (by rfl) _ _ _ (by rfl) _ _ _ _ (by rfl) (by rfl) (by exact unhide HAP7) ?_
     refine hK.out _ _ (unhide H7) (fun hh7 => ?_)
     clear hK K
     (try simp only [Act.put, puts])
     refine Lst.tk 11 ?_
     (try simp only [Act.put, puts])
     refine Lst.tk 12 ?_
     (try simp only [Act.put])
     refine wpAnyH_done (by kernel_rfl) ?_ _
     show Oper.wp _ _ _ _ _ _
     have d57 := (unhide H7).1
     obtain ⟨f7, hrb7⟩ := unhide H7f
     go_simp
     go_wp2
     go_roundw
     case rel => exact ⟨j + 1, by go_num, by omega, ⟨_, _, (unhide HL2).turn (unhide HADD) ⟨rfl, rfl, rfl⟩, unhide HB7, times_ok (unhide HT) (rulStep_ok (unhide HGR) (unhide HRU)), by simp [unhide HJ1]; omega⟩⟩
     case measure => simp [intOf]; omega
  ·obtain rfl : j = n := by omega
   have hltz : ¬ (j : Int) < (j : Int) := by omega
   obtain ⟨Rj, Pj, hL, hblk, ht, hjl⟩ := unhide HR
   have HL := hide hL
   have HXX := hide ((unhide HX).trans ht)
   clear HR hL ht hjl hblk HS
   go_wp2
   go_end0
   exact (unhide HL).yes (unhide HXX)
end Af
end Go.Proofs.YtidhbhdcoanfcaaGreatDoor
