import Derived.Test.YtidhbhdcoanfcaaGreatDoorGuBi1
namespace Go.Proofs.YtidhbhdcoanfcaaGreatDoor
open Go.RowKit
namespace Af
open RowB
noncomputable def cls5 : Code := dropSeq 5 (Tryz.f80.body.getD .skip)
def withC (R : Rdr) (c : Cls) : Rdr := { R with file := { R.file with classes := R.file.classes ++ [c] } }
set_option maxRecDepth 100000 in
set_option maxHeartbeats 8000000 in
theorem cls_mid {B rb cb g cap : Nat} {R : Rdr} {P : Pts} {w V : World} {c : Cls} {hd : List Bs} {X : Except Er Rdr} (hR : RAt B V rb R P) (hK : Kt B P.pm P.hm w V) (hrow : StrRow B V (.slice (some ⟨g, 0, none⟩) 4 cap) (hd.map Fld.str)) (hM : Mx B w) (hB : V.heap[cb]? = some (.cells (clsC c).toArray 94 (0, 0))) (hnew : P.vc.ownBlock ≠ some cb)
  (hf1 : 1 ≤ c.flag ∧ c.flag ≤ 65535) (hf2 : findC R.file.classes c.flag = none) (hcn : R.file.classes.length ≤ 65536) (hlen : hd.length = 4) (hfew : R.file.rules.length + c.count ≤ 1024) (hX : X = times (rulStep [fld hd 0, fld hd 1] c) c.count (withC R c)) (hcap : 4 ≤ cap) (hcap2 : cap ≤ 9223372036854775807)
  (u2 u3 u4 u5 u7 u8 u9 u10 u11 u12 u13 u14 u15 u16 u17 u18 u19 u20 u21 u22 u23 u24 u25 u26 u27 u28 u29 u30 u31 u32 u33 u34 u35 u36 u37 u38 u39 u40 u41 u42 u43 u44 u45 u46 u47 u48 u49 u50 u51 u52 u53 u54 u55 u56 u57 u58 u59 u60 u61 u62 u63 u64 u65 u66 u67 u68 u69 u70 u71 u72 u73 u74 u75 u76 u77 u78 u79 u80 u81 u82 u83 u84 u85 u86 u87 u88 u89 u90 u91 u92 u93 u94 u95 u96 u97 u98 u99 u100 u101 u102 u103 u104 u105 u106 u107 u108 u109 u110 u111 u112 u113 u114 u115 u116 u117 u118 u119 u120 u121 u122 u123 u124 u125 u126 u127 u128 u129 u130 u131 u132 u133 u134 u135 u136 u137 u138 : Value) :
  Code.wp Tryz.prog cls5 (bodyPost Tryz.prog Tryz.f80 (Res B rb P w X)) ⟨#[ptr rb, .slice (some ⟨g, 0, none⟩) 4 cap, u2, u3, u4, u5, .pointer (some ⟨cb, 0, none⟩), u7, u8, u9, u10, u11, u12, u13, u14, u15, u16, u17, u18, u19, u20, u21, u22, u23, u24, u25, u26, u27, u28, u29, u30, u31, u32, u33, u34, u35, u36, u37, u38, u39, u40, u41, u42, u43, u44, u45, u46, u47, u48, u49, u50, u51, u52, u53, u54, u55, u56, u57, u58, u59, u60, u61, u62, u63, u64, u65, u66, u67, u68, u69, u70, u71, u72, u73, u74, u75, u76, u77, u78, u79, u80, u81, u82, u83, u84, u85, u86, u87, u88, u89, u90, u91, u92, u93, u94, u95, u96, u97, u98, u99, u100, u101, u102, u103, u104, u105, u106, u107, u108, u109, u110, u111, u112, u113, u114, u115, u116, u117, u118, u119, u120, u121, u122, u123, u124, u125, u126, u127, u128, u129, u130, u131, u132, u133, u134, u135, u136, u137, u138], []⟩ V := by
 have HCODE : cls5 = Code.seq (dropSeq 0 (match cls5 with | .seq a _ => a | c => c)) (Code.seq (match dropSeq 1 cls5 with | .seq a _ => a | c => c) cls7) := by kernel_rfl
 obtain ⟨d0, -, -, -, -, -, -⟩ := hR.cells
 obtain ⟨-, -, -, k11, -, k13, kz⟩ := hR.file.cells
 obtain ⟨ac, cc, ec, -, -⟩ := own_len hR.file.clss
 rw [ec] at k11
 obtain ⟨V3, hmu, m3, kp3, kq3, l3⟩ := putClass hR.file c hf1.1 hf1.2 hf2 hcn
 obtain ⟨nc, hnc⟩ : ∃ nc, R.file.classes.length = nc := ⟨_, rfl⟩
 rw [hnc] at k11 hmu
 obtain ⟨c0, c1, c2, c3, c4⟩ := cls_cells hB
 have npm1 : rb ≠ P.pm := fun e => by obtain ⟨n0, _, hm0⟩ := hR.file.plc; obtain ⟨es, c', e'⟩ := hm0.isMap; rw [← e, hR.rdr] at e'; cases e'
 have npm2 : P.fb ≠ P.pm := fun e => by obtain ⟨n0, _, hm0⟩ := hR.file.plc; obtain ⟨es, c', e'⟩ := hm0.isMap; rw [← e, hR.file.fil] at e'; cases e'
 have npm3 : cb ≠ P.pm := fun e => by obtain ⟨n0, _, hm0⟩ := hR.file.plc; obtain ⟨es, c', e'⟩ := hm0.isMap; rw [← e, hB] at e'; cases e'
 have hpm : ∀ b, b ≠ P.pm → b < V.heap.size → V3.heap[b]? = V.heap[b]? := fun b h1 h2 => kp3.2 b h2 h1
 have hB3 := (hpm cb npm3 (lt_some hB)).trans hB
 have hrd3 := (hpm rb npm1 hR.lt).trans hR.rdr
 have hfl3 := (hpm P.fb npm2 hR.file.lt).trans hR.file.fil
 have d03 := (World.cell?_of_block (a := ⟨rb, 0, none⟩) (hpm rb npm1 hR.lt)).trans d0
 have k113 := (World.cell?_of_block (a := ⟨P.fb, 11, none⟩) (hpm P.fb npm2 hR.file.lt)).trans k11
 have k133 := (World.cell?_of_block (a := ⟨P.fb, 13, none⟩) (hpm P.fb npm2 hR.file.lt)).trans k13
 obtain ⟨c03, c13, c23, c33, c43⟩ := cls_cells hB3
 -- the append
 have hBV3 : B ≤ V3.heap.size := Nat.le_trans hR.base kq3.size
 obtain ⟨av, cv, W5, hap, o5, k5, l5, b5⟩ := push1 (B := B) (w := V3) (X := (V3.alloc (.cells (clsC c).toArray 94)).drew) (t := 40) (v := P.vc) Tryz.underlying40 infoC rfl (by decide) (own_kq hR.file.clss kq3 (by simp)) hBV3 (((Below.refl _ _).alloc (Nat.le_refl _) _).drew) (alloc_new V3 _) rfl (by intro u hu; simp [clsC] at hu; rcases hu with rfl | rfl | rfl | rfl | rfl <;> rfl) (by omega) (by decide) 40
 rw [ec] at hap
 rw [hnc] at hap
 have HADD := hR.newClass c hf1 kq3 l3 m3 k5 l5 o5
 rw [hnc] at HADD
 have hB5 := (b5 cb (lt_some hB3) hnew).trans hB3
 obtain ⟨c05, c15, c25, c35, c45⟩ := cls_cells hB5
 have hrd5 := (k5.cells _ _ _ _ hrd3 (by decide)).trans hrd3
 have hfl5 := (k5.cells _ _ _ _ hfl3 (by decide)).trans hfl3
 have d05 := (World.cell?_of_block (a := ⟨rb, 0, none⟩) (k5.cells _ _ _ _ hrd3 (by decide))).trans d03
 have k115 := (World.cell?_of_block (a := ⟨P.fb, 11, none⟩) (k5.cells _ _ _ _ hfl3 (by decide))).trans k113
 have f5 : W5.frozen? ⟨P.fb, 11, none⟩ = false := by simp [World.frozen?, hfl5]
 have hfbn : P.fb ≠ cb := fun e => by rw [← e, hfl5] at hB5; injection hB5 with q; injection q with _ q _; exact absurd q (by decide)
 have bb := fun q i (hb : q < V3.heap.size) => (((Below.refl V3.heap.size V3).alloc (Nat.le_refl _) (.cells (clsC c).toArray 94)).drew).cell (p := ⟨q, i, none⟩) hb
 have h03 := lt_some hB3
 have H5 := hide (And.intro d05 (And.intro k115 (And.intro c05 (And.intro c15 (And.intro c25 (And.intro c35 c45))))))
 have HA := hide (And.intro ((bb rb 0 (lt_some hrd3)).trans d03) (And.intro ((bb P.fb 11 (lt_some hfl3)).trans k113) (And.intro ((bb cb 0 h03).trans c03) (And.intro ((bb cb 1 h03).trans c13) (And.intro ((bb cb 2 h03).trans c23) (And.intro ((bb cb 3 h03).trans c33) ((bb cb 4 h03).trans c43)))))))
 have H3 := hide (And.intro d03 (And.intro k113 (And.intro c03 (And.intro c13 (And.intro c23 (And.intro c33 c43))))))
 have H5f := hide (And.intro f5 (lt_some hfl5))
 have HLOOP : Hid (∀ W, W = W5.setCell ⟨P.fb, 11, none⟩ (.slice av (nc + 1) cv) → ∀ (u2 u3 u4 u5 u7 u8 u9 u10 u11 u12 u13 u14 u15 u16 u17 u18 u19 u20 u21 u22 u23 u24 u25 u26 u27 u28 u29 u30 u31 u32 u33 u34 u35 u36 u37 u38 u39 u40 u41 u42 u43 u44 u45 u46 u47 u48 u49 u50 u51 u52 u53 u54 u55 u56 u57 u58 u59 u60 u61 u62 u63 u64 u65 u66 u67 u68 u69 u70 u71 u72 u73 u74 u75 u76 u77 u78 u79 u80 u81 u82 u83 u84 u85 u86 u87 u88 u89 u90 u91 u92 u93 u94 u95 u96 u97 u98 u99 u100 u101 u102 u103 u104 u105 u106 u107 u108 u109 u110 u111 u112 u113 u114 u115 u116 u117 u118 u119 u120 u121 u122 u123 u124 u125 u126 u127 u128 u129 u130 u131 u132 u133 u134 u135 u136 u137 u138 : Value), Code.wp Tryz.prog cls7 (bodyPost Tryz.prog Tryz.f80 (Res B rb P w X)) ⟨#[ptr rb, .slice (some ⟨g, 0, none⟩) 4 cap, u2, u3, u4, u5, .pointer (some ⟨cb, 0, none⟩), u7, u8, u9, u10, u11, u12, u13, u14, u15, u16, u17, u18, u19, u20, u21, u22, u23, u24, u25, u26, u27, u28, u29, u30, u31, u32, u33, u34, u35, u36, u37, u38, u39, u40, u41, u42, u43, u44, u45, u46, u47, u48, u49, u50, u51, u52, u53, u54, u55, u56, u57, u58, u59, u60, u61, u62, u63, u64, u65, u66, u67, u68, u69, u70, u71, u72, u73, u74, u75, u76, u77, u78, u79, u80, u81, u82, u83, u84, u85, u86, u87, u88, u89, u90, u91, u92, u93, u94, u95, u96, u97, u98, u99, u100, u101, u102, u103, u104, u105, u106, u107, u108, u109, u110, u111, u112, u113, u114, u115, u116, u117, u118, u119, u120, u121, u122, u123, u124, u125, u126, u127, u128, u129, u130, u131, u132, u133, u134, u135, u136, u137, u138], []⟩ W) := by
  intro W hW u2 u3 u4 u5 u7 u8 u9 u10 u11 u12 u13 u14 u15 u16 u17 u18 u19 u20 u21 u22 u23 u24 u25 u26 u27 u28 u29 u30 u31 u32 u33 u34 u35 u36 u37 u38 u39 u40 u41 u42 u43 u44 u45 u46 u47 u48 u49 u50 u51 u52 u53 u54 u55 u56 u57 u58 u59 u60 u61 u62 u63 u64 u65 u66 u67 u68 u69 u70 u71 u72 u73 u74 u75 u76 u77 u78 u79 u80 u81 u82 u83 u84 u85 u86 u87 u88 u89 u90 u91 u92 u93 u94 u95 u96 u97 u98 u99 u100 u101 u102 u103 u104 u105 u106 u107 u108 u109 u110 u111 u112 u113 u114 u115 u116 u117 u118 u119 u120 u121 u122 u123 u124 u125 u126 u127 u128 u129 u130 u131 u132 u133 u134 u135 u136 u137 u138
  have hl : LP B rb w W (withC R c) { P with vc := .slice av (nc + 1) cv } P (.slice (some ⟨g, 0, none⟩) 4 cap) hd := by
   rw [hW]
   exact ⟨HADD.1, hK.trans HADD.2, HADD.2.str hrow, rfl, rfl, rfl⟩
  have hb : W.heap[cb]? = some (.cells (clsC c).toArray 94 (0, 0)) := by
   rw [hW]
   exact (Below.heap_setCell _ _ _ _ (fun e => hfbn e.symm)).trans hB5
  exact cls_loop hl hM hb hlen hfew hX hcap hcap2 u2 u3 u4 u5 u7 u8 u9 u10 u11 u12 u13 u14 u15 u16 u17 u18 u19 u20 u21 u22 u23 u24 u25 u26 u27 u28 u29 u30 u31 u32 u33 u34 u35 u36 u37 u38 u39 u40 u41 u42 u43 u44 u45 u46 u47 u48 u49 u50 u51 u52 u53 u54 u55 u56 u57 u58 u59 u60 u61 u62 u63 u64 u65 u66 u67 u68 u69 u70 u71 u72 u73 u74 u75 u76 u77 u78 u79 u80 u81 u82 u83 u84 u85 u86 u87 u88 u89 u90 u91 u92 u93 u94 u95 u96 u97 u98 u99 u100 u101 u102 u103 u104 u105 u106 u107 u108 u109 u110 u111 u112 u113 u114 u115 u116 u117 u118 u119 u120 u121 u122 u123 u124 u125 u126 u127 u128 u129 u130 u131 u132 u133 u134 u135 u136 u137 u138
 have HAP := hide hap
 have hmu' : (Instr.mapUpdate 95 (.map (some P.pm)) (.int .u16 c.flag) (.int .i64 (nc : Nat))).run Tryz.prog V.drew = .ok () V3 := hmu
 have HCL : Hid (clsC c = [.int .u16 c.flag, .int .i64 c.kind, .bool c.cross, .int .i64 (c.first : Nat), .int .i64 (c.count : Nat)]) := rfl
 clear HADD hR hK hrow hM hB hnew hf1 hf2 hcn hlen hfew hX ec hnc m3 kp3 kq3 l3 npm1 npm2 npm3 hpm hB3 hrd3 hfl3 hap o5 k5 l5 b5 hB5 c05 c15 c25 c35 c45 hrd5 hfl5 d05 k115 f5 hfbn bb h03 hBV3 kz hmu c1 c2 c3 c4 c13 c23 c33 c43
 rw [HCODE]
 clear HCODE
 refine wp_seq_k (fun K5 hK5 => ?_)
 conv => arg 2; whnf
 have dd0 : V.drew.cell? ⟨rb, 0, none⟩ = _ := d0
 have dd13 : V.drew.cell? ⟨P.fb, 13, none⟩ = _ := k13
 have dd11 : V.drew.cell? ⟨P.fb, 11, none⟩ = _ := k11
 have ddc : V.drew.cell? ⟨cb, 0, none⟩ = some (.int .u16 c.flag) := c0
 clear d0 k13 k11 c0
 go_region_held2 (fun w' => w'.cell? ⟨rb, 0, none⟩ = some (.pointer (some ⟨P.fb, 0, none⟩)) ∧ w'.cell? ⟨P.fb, 13, none⟩ = some (.map (some P.pm)) ∧ w'.cell? ⟨P.fb, 11, none⟩ = some (.slice ac nc cc) ∧ w'.cell? ⟨cb, 0, none⟩ = some (.int .u16 c.flag)) (first | (with_reducible exact ⟨d03, k133, k113, c03⟩) | (with_reducible exact ⟨dd0, dd13, dd11, ddc⟩)) (fail)
 show K5 _ _
 apply hK5
 clear hmu' dd0 dd13 dd11 ddc k133 c03 d03 k113 hK5 K5
 refine wp_seq_k (fun K6 hK6 => ?_)
 have HK6 := hide hK6
 clear hK6
 conv => arg 2; whnf
 refine Lst.region_last (ops1 := ?ops1) (o := ?op1) (S := fun w' => w'.cell? ⟨rb, 0, none⟩ = some (.pointer (some ⟨P.fb, 0, none⟩)) ∧ w'.cell? ⟨P.fb, 11, none⟩ = some (.slice ac nc cc) ∧ w'.cell? ⟨cb, 0, none⟩ = some (.int .u16 c.flag) ∧ w'.cell? ⟨cb, 1, none⟩ = some (.int .i64 c.kind) ∧ w'.cell? ⟨cb, 2, none⟩ = some (.bool c.cross) ∧ w'.cell? ⟨cb, 3, none⟩ = some (.int .i64 (c.first : Nat)) ∧ w'.cell? ⟨cb, 4, none⟩ = some (.int .i64 (c.count : Nat))) (by kernel_rfl) ?hp1 ?hb1 ?hk1 (by exact unhide H3) ?hn1
 case hp1 => (simp only [List.pop_toArray, List.dropLast_cons_cons, List.dropLast_singleton]; rfl)
 case hb1 => (simp only [List.back?_toArray, List.getLast?_cons_cons, List.getLast?_singleton]; rfl)
 case hk1 => kernel_rfl
 intro hHeld
 refine Lst.tk 0 ?_
 (try simp only [Act.put, List.setIfInBounds_toArray])
 refine Lst.tk 1 ?_
 (try simp only [Act.put])
 refine Lst.tk 2 ?_
 (try simp only [Act.put])
 refine Lst.tk 3 ?_
 (try simp only [Act.put])
 refine Lst.tk 4 ?_
 (try simp only [Act.put])
 refine Lst.tk 5 ?_
 (try simp only [Act.put])
 refine Lst.tk 6 ?_
 (try simp only [Act.put])
 refine Lst.tk 7 ?_
 (try simp only [Act.put])
 refine Lst.tk 8 ?_
 (try simp only [Act.put])
 refine Lst.tk 9 ?_
 (try simp only [Act.put])
 refine Lst.tk 10 ?_
 (try simp only [Act.put])
 refine Lst.tk 11 ?_
 (try simp only [Act.put])
 refine Lst.tk 12 ?_
 (try simp only [Act.put])
 rw [unhide HCL] at HA HAP
 refine wpAnyH_ready (rs := [13]) (by kernel_rfl) (by simp) ?_
 refine AllReadyH.cons (by simp only [List.getElem?_toArray, List.getElem?_cons_succ, List.getElem?_cons_zero]; rfl) (fun K hK => ?_) AllReadyH.nil
 go_simp
 refine hK.out _ _ (unhide HA) (fun hh4 => ?_)
 clear hK K
 (try simp only [Act.put, List.setIfInBounds_toArray, List.set_cons_zero, List.set_cons_succ])
 refine wpAnyH_ready (rs := [14]) (by kernel_rfl) (by simp) ?_
 refine AllReadyH.cons (by simp only [List.getElem?_toArray, List.getElem?_cons_succ, List.getElem?_cons_zero]; rfl) (fun K hK => ?_) AllReadyH.nil
 refine step_app (by rfl) _ _ _ (by rfl) _ _ _ _ (by rfl) (by rfl) (by exact unhide HAP) ?_
 refine hK.out _ _ (unhide H5) (fun hh5 => ?_)
 clear hK K
 (try simp only [Act.put, List.setIfInBounds_toArray, List.set_cons_zero, List.set_cons_succ])
 refine Lst.tk 15 ?_
 (try simp only [Act.put, List.setIfInBounds_toArray])
 refine Lst.tk 16 ?_
 (try simp only [Act.put])
 refine Lst.tk 17 ?_
 (try simp only [Act.put])
 refine wpAnyH_done (by kernel_rfl) ?_ _
 show Oper.wp _ _ _ _ _ _
 have k125 := (unhide H5).2.1
 obtain ⟨f5, hfb5⟩ := unhide H5f
 go_simp
 apply unhide HK6
 exact unhide HLOOP _ rfl _ _ _ _ _ _ _ _ _ _ _ _ _ _ _ _ _ _ _ _ _ _ _ _ _ _ _ _ _ _ _ _ _ _ _ _ _ _ _ _ _ _ _ _ _ _ _ _ _ _ _ _ _ _ _ _ _ _ _ _ _ _ _ _ _ _ _ _ _ _ _ _ _ _ _ _ _ _ _ _ _ _ _ _ _ _ _ _ _ _ _ _ _ _ _ _ _ _ _ _ _ _ _ _ _ _ _ _ _ _ _ _ _ _ _ _ _ _ _ _ _ _ _ _ _ _ _ _ _ _ _ _ _ _ _ _
end Af
end Go.Proofs.YtidhbhdcoanfcaaGreatDoor
