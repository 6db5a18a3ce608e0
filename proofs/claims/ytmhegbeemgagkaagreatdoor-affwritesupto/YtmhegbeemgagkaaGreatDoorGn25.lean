import Derived.Test.YtmhegbeemgagkaaGreatDoorGn23
import Derived.Test.YtmhegbeemgagkaaGreatDoorGn26
import Derived.Test.YtmhegbeemgagkaaGreatDoorGn22
set_option maxHeartbeats 8000000
set_option maxRecDepth 100000
namespace Go.Proofs.YtmhegbeemgagkaaGreatDoor
open Go.RowKit
namespace Af
open RowB
noncomputable def cls5:Code:=dropSeq 5 (Tryz.f89.body.getD .skip)
def withC (R:Rdr) (c:Cls):Rdr:={ R with file:={ R.file with classes:=R.file.classes ++ [c] } }
theorem cls_mid {B rb cb g cap:Nat} {R:Rdr} {P:Pts} {w V:World} {c:Cls} {hd:List Bs} {X:Except Er Rdr} (hR:RAt B V rb R P) (hK:Kt B P.pm P.hm w V) (hrow:StrRow B V (.slice (some ⟨g,0,none⟩) 4 cap) (hd.map Fld.str)) (hM:Mx B w) (hB:V.heap[cb]?=some (.cells (clsC c).toArray 48 (0,0))) (hnew:P.vc.ownBlock≠some cb)
  (hf1:1≤c.flag∧c.flag≤65535) (hf2:findC R.file.classes c.flag=none) (hcn:R.file.classes.length≤65536) (hlen:hd.length=4) (hfew:R.file.rules.length + c.count≤1024) (hX:X=times (rulStep [fld hd 0,fld hd 1] c) c.count (withC R c)) (hcap:4≤cap) (hcap2:cap≤9223372036854775807)
  (u2 u3 u4 u5 u7 u8 u9 u10 u11 u12 u13 u14 u15 u16 u17 u18 u19 u20 u21 u22 u23 u24 u25 u26 u27 u28 u29 u30 u31 u32 u33 u34 u35 u36 u37 u38 u39 u40 u41 u42 u43 u44 u45 u46 u47 u48 u49 u50 u51 u52 u53 u54 u55 u56 u57 u58 u59 u60 u61 u62 u63 u64 u65 u66 u67 u68 u69 u70 u71 u72 u73 u74 u75 u76 u77 u78 u79 u80 u81 u82 u83 u84 u85 u86 u87 u88 u89 u90 u91 u92 u93 u94 u95 u96 u97 u98 u99 u100 u101 u102 u103 u104 u105 u106 u107 u108 u109 u110 u111 u112 u113 u114 u115 u116 u117 u118 u119 u120 u121 u122 u123 u124 u125 u126 u127 u128 u129 u130 u131 u132 u133 u134 u135 u136 u137 u138:Value) :
  Code.wp Tryz.prog cls5 (bodyPost Tryz.prog Tryz.f89 (Res B rb P w X)) ⟨#[ptr rb,.slice (some ⟨g,0,none⟩) 4 cap,u2,u3,u4,u5,.pointer (some ⟨cb,0,none⟩),u7,u8,u9,u10,u11,u12,u13,u14,u15,u16,u17,u18,u19,u20,u21,u22,u23,u24,u25,u26,u27,u28,u29,u30,u31,u32,u33,u34,u35,u36,u37,u38,u39,u40,u41,u42,u43,u44,u45,u46,u47,u48,u49,u50,u51,u52,u53,u54,u55,u56,u57,u58,u59,u60,u61,u62,u63,u64,u65,u66,u67,u68,u69,u70,u71,u72,u73,u74,u75,u76,u77,u78,u79,u80,u81,u82,u83,u84,u85,u86,u87,u88,u89,u90,u91,u92,u93,u94,u95,u96,u97,u98,u99,u100,u101,u102,u103,u104,u105,u106,u107,u108,u109,u110,u111,u112,u113,u114,u115,u116,u117,u118,u119,u120,u121,u122,u123,u124,u125,u126,u127,u128,u129,u130,u131,u132,u133,u134,u135,u136,u137,u138],[]⟩ V:=by
 have HCODE:cls5=Code.seq (dropSeq 0 (match cls5 with | .seq a _ => a | c => c)) (Code.seq (match dropSeq 1 cls5 with | .seq a _ => a | c => c) cls7):=by kernel_rfl
 obtain ⟨d0,-,-,-,-,-,-⟩:=hR.cells
 obtain ⟨-,-,-,k11,-,k13,kz⟩:=hR.file.cells
 obtain ⟨ac,cc,ec,-,-⟩:=own_len hR.file.clss
 rw [ec] at k11
 obtain ⟨V3,hmu,m3,kp3,kq3,l3⟩:=putClass hR.file c hf1.1 hf1.2 hf2 hcn
 obtain ⟨nc,hnc⟩:∃ nc,R.file.classes.length=nc:=⟨_,rfl⟩
 rw [hnc] at k11 hmu
 obtain ⟨c0,c1,c2,c3,c4⟩:=cls_cells hB
 have npm1:rb≠P.pm:=fun e => by obtain ⟨n0,_,hm0⟩:=hR.file.plc;obtain ⟨es,c',e'⟩:=hm0.isMap;rw [← e,hR.rdr] at e';cases e'
 have npm2:P.fb≠P.pm:=fun e => by obtain ⟨n0,_,hm0⟩:=hR.file.plc;obtain ⟨es,c',e'⟩:=hm0.isMap;rw [← e,hR.file.fil] at e';cases e'
 have npm3:cb≠P.pm:=fun e => by obtain ⟨n0,_,hm0⟩:=hR.file.plc;obtain ⟨es,c',e'⟩:=hm0.isMap;rw [← e,hB] at e';cases e'
 have hpm:∀ b,b≠P.pm→b < V.heap.size→V3.heap[b]?=V.heap[b]?:=fun b h1 h2 => kp3.2 b h2 h1
 have hB3:=(hpm cb npm3 (lt_some hB)).trans hB
 have hrd3:=(hpm rb npm1 hR.lt).trans hR.rdr
 have hfl3:=(hpm P.fb npm2 hR.file.lt).trans hR.file.fil
 have d03:=(World.cell?_of_block (a:=⟨rb,0,none⟩) (hpm rb npm1 hR.lt)).trans d0
 have k113:=(World.cell?_of_block (a:=⟨P.fb,11,none⟩) (hpm P.fb npm2 hR.file.lt)).trans k11
 have k133:=(World.cell?_of_block (a:=⟨P.fb,13,none⟩) (hpm P.fb npm2 hR.file.lt)).trans k13
 obtain ⟨c03,c13,c23,c33,c43⟩:=cls_cells hB3
 -- the append
 have hBV3:B≤V3.heap.size:=Nat.le_trans hR.base kq3.size
 obtain ⟨av,cv,W5,hap,o5,k5,l5,b5⟩:=push1 (B:=B) (w:=V3) (X:=(V3.alloc (.cells (clsC c).toArray 48)).drew) (t:=38) (v:=P.vc) Tryz.underlying38 infoC rfl (by decide) (own_kq hR.file.clss kq3 (by simp)) hBV3 (((Below.refl _ _).alloc (Nat.le_refl _) _).drew) (alloc_new V3 _) rfl (by intro u hu;simp [clsC] at hu;rcases hu with rfl | rfl | rfl | rfl | rfl <;> rfl) (by omega) (by decide) 38
 rw [ec] at hap
 rw [hnc] at hap
 have HADD:=hR.newClass c hf1 kq3 l3 m3 k5 l5 o5
 rw [hnc] at HADD
 have hB5:=(b5 cb (lt_some hB3) hnew).trans hB3
 obtain ⟨c05,c15,c25,c35,c45⟩:=cls_cells hB5
 have hrd5:=(k5.cells _ _ _ _ hrd3 (by decide)).trans hrd3
 have hfl5:=(k5.cells _ _ _ _ hfl3 (by decide)).trans hfl3
 have d05:=(World.cell?_of_block (a:=⟨rb,0,none⟩) (k5.cells _ _ _ _ hrd3 (by decide))).trans d03
 have k115:=(World.cell?_of_block (a:=⟨P.fb,11,none⟩) (k5.cells _ _ _ _ hfl3 (by decide))).trans k113
 have f5:W5.frozen? ⟨P.fb,11,none⟩=false:=by simp [World.frozen?,hfl5]
 have hfbn:P.fb≠cb:=fun e => by rw [← e,hfl5] at hB5;injection hB5 with q;injection q with _ q _;exact absurd q (by decide)
 have bb:=fun q i (hb:q < V3.heap.size) => (((Below.refl V3.heap.size V3).alloc (Nat.le_refl _) (.cells (clsC c).toArray 48)).drew).cell (p:=⟨q,i,none⟩) hb
 have h03:=lt_some hB3
 have H5:=hide (And.intro d05 (And.intro k115 (And.intro c05 (And.intro c15 (And.intro c25 (And.intro c35 c45))))))
 have HA:=hide (And.intro ((bb rb 0 (lt_some hrd3)).trans d03) (And.intro ((bb P.fb 11 (lt_some hfl3)).trans k113) (And.intro ((bb cb 0 h03).trans c03) (And.intro ((bb cb 1 h03).trans c13) (And.intro ((bb cb 2 h03).trans c23) (And.intro ((bb cb 3 h03).trans c33) ((bb cb 4 h03).trans c43)))))))
 have H3:=hide (And.intro d03 (And.intro k113 (And.intro c03 (And.intro c13 (And.intro c23 (And.intro c33 c43))))))
 have H5f:=hide (And.intro f5 (lt_some hfl5))
 have HLOOP:Hid (∀ W,W=W5.setCell ⟨P.fb,11,none⟩ (.slice av (nc + 1) cv)→∀ (u2 u3 u4 u5 u7 u8 u9 u10 u11 u12 u13 u14 u15 u16 u17 u18 u19 u20 u21 u22 u23 u24 u25 u26 u27 u28 u29 u30 u31 u32 u33 u34 u35 u36 u37 u38 u39 u40 u41 u42 u43 u44 u45 u46 u47 u48 u49 u50 u51 u52 u53 u54 u55 u56 u57 u58 u59 u60 u61 u62 u63 u64 u65 u66 u67 u68 u69 u70 u71 u72 u73 u74 u75 u76 u77 u78 u79 u80 u81 u82 u83 u84 u85 u86 u87 u88 u89 u90 u91 u92 u93 u94 u95 u96 u97 u98 u99 u100 u101 u102 u103 u104 u105 u106 u107 u108 u109 u110 u111 u112 u113 u114 u115 u116 u117 u118 u119 u120 u121 u122 u123 u124 u125 u126 u127 u128 u129 u130 u131 u132 u133 u134 u135 u136 u137 u138:Value),Code.wp Tryz.prog cls7 (bodyPost Tryz.prog Tryz.f89 (Res B rb P w X)) ⟨#[ptr rb,.slice (some ⟨g,0,none⟩) 4 cap,u2,u3,u4,u5,.pointer (some ⟨cb,0,none⟩),u7,u8,u9,u10,u11,u12,u13,u14,u15,u16,u17,u18,u19,u20,u21,u22,u23,u24,u25,u26,u27,u28,u29,u30,u31,u32,u33,u34,u35,u36,u37,u38,u39,u40,u41,u42,u43,u44,u45,u46,u47,u48,u49,u50,u51,u52,u53,u54,u55,u56,u57,u58,u59,u60,u61,u62,u63,u64,u65,u66,u67,u68,u69,u70,u71,u72,u73,u74,u75,u76,u77,u78,u79,u80,u81,u82,u83,u84,u85,u86,u87,u88,u89,u90,u91,u92,u93,u94,u95,u96,u97,u98,u99,u100,u101,u102,u103,u104,u105,u106,u107,u108,u109,u110,u111,u112,u113,u114,u115,u116,u117,u118,u119,u120,u121,u122,u123,u124,u125,u126,u127,u128,u129,u130,u131,u132,u133,u134,u135,u136,u137,u138],[]⟩ W):=by
  intro W hW u2 u3 u4 u5 u7 u8 u9 u10 u11 u12 u13 u14 u15 u16 u17 u18 u19 u20 u21 u22 u23 u24 u25 u26 u27 u28 u29 u30 u31 u32 u33 u34 u35 u36 u37 u38 u39 u40 u41 u42 u43 u44 u45 u46 u47 u48 u49 u50 u51 u52 u53 u54 u55 u56 u57 u58 u59 u60 u61 u62 u63 u64 u65 u66 u67 u68 u69 u70 u71 u72 u73 u74 u75 u76 u77 u78 u79 u80 u81 u82 u83 u84 u85 u86 u87 u88 u89 u90 u91 u92 u93 u94 u95 u96 u97 u98 u99 u100 u101 u102 u103 u104 u105 u106 u107 u108 u109 u110 u111 u112 u113 u114 u115 u116 u117 u118 u119 u120 u121 u122 u123 u124 u125 u126 u127 u128 u129 u130 u131 u132 u133 u134 u135 u136 u137 u138
  have hl:LP B rb w W (withC R c) { P with vc:=.slice av (nc + 1) cv } P (.slice (some ⟨g,0,none⟩) 4 cap) hd:=by
   rw [hW]
   exact ⟨HADD.1,hK.trans HADD.2,HADD.2.str hrow,rfl,rfl,rfl⟩
  have hb:W.heap[cb]?=some (.cells (clsC c).toArray 48 (0,0)):=by
   rw [hW]
   exact (Below.heap_setCell _ _ _ _ (fun e => hfbn e.symm)).trans hB5
  exact cls_loop hl hM hb hlen hfew hX hcap hcap2 u2 u3 u4 u5 u7 u8 u9 u10 u11 u12 u13 u14 u15 u16 u17 u18 u19 u20 u21 u22 u23 u24 u25 u26 u27 u28 u29 u30 u31 u32 u33 u34 u35 u36 u37 u38 u39 u40 u41 u42 u43 u44 u45 u46 u47 u48 u49 u50 u51 u52 u53 u54 u55 u56 u57 u58 u59 u60 u61 u62 u63 u64 u65 u66 u67 u68 u69 u70 u71 u72 u73 u74 u75 u76 u77 u78 u79 u80 u81 u82 u83 u84 u85 u86 u87 u88 u89 u90 u91 u92 u93 u94 u95 u96 u97 u98 u99 u100 u101 u102 u103 u104 u105 u106 u107 u108 u109 u110 u111 u112 u113 u114 u115 u116 u117 u118 u119 u120 u121 u122 u123 u124 u125 u126 u127 u128 u129 u130 u131 u132 u133 u134 u135 u136 u137 u138
 have HAP:=hide hap
 have hmu':(Instr.mapUpdate 109 (.map (some P.pm)) (.int .u16 c.flag) (.int .i64 (nc:Nat))).run Tryz.prog V.drew=.ok () V3:=hmu
 have HCL:Hid (clsC c=[.int .u16 c.flag,.int .i64 c.kind,.bool c.cross,.int .i64 (c.first:Nat),.int .i64 (c.count:Nat)]):=rfl
 clear HADD hR hK hrow hM hB hnew hf1 hf2 hcn hlen hfew hX ec hnc m3 kp3 kq3 l3 npm1 npm2 npm3 hpm hB3 hrd3 hfl3 hap o5 k5 l5 b5 hB5 c05 c15 c25 c35 c45 hrd5 hfl5 d05 k115 f5 hfbn bb h03 hBV3 kz hmu c1 c2 c3 c4 c13 c23 c33 c43
 rw [HCODE]
 clear HCODE
 refine wp_seq_k (fun K5 hK5 => ?_)
 conv => arg 2;whnf
 have dd0:V.drew.cell? ⟨rb,0,none⟩=_:=d0
 have dd13:V.drew.cell? ⟨P.fb,13,none⟩=_:=k13
 have dd11:V.drew.cell? ⟨P.fb,11,none⟩=_:=k11
 have ddc:V.drew.cell? ⟨cb,0,none⟩=some (.int .u16 c.flag):=c0
 clear d0 k13 k11 c0
 go_region_held2 (fun w' => w'.cell? ⟨rb,0,none⟩=some (.pointer (some ⟨P.fb,0,none⟩))∧w'.cell? ⟨P.fb,13,none⟩=some (.map (some P.pm))∧w'.cell? ⟨P.fb,11,none⟩=some (.slice ac nc cc)∧w'.cell? ⟨cb,0,none⟩=some (.int .u16 c.flag)) (first | (with_reducible exact ⟨d03,k133,k113,c03⟩) | (with_reducible exact ⟨dd0,dd13,dd11,ddc⟩)) (fail)
 show K5 _ _
 apply hK5
 clear hmu' dd0 dd13 dd11 ddc k133 c03 d03 k113 hK5 K5
 refine wp_seq_k (fun K6 hK6 => ?_)
 have HK6:=hide hK6
 clear hK6
 conv => arg 2;whnf
 refine Lst.region_last (ops1:=?ops1) (o:=?op1) (S:=fun w' => w'.cell? ⟨rb,0,none⟩=some (.pointer (some ⟨P.fb,0,none⟩))∧w'.cell? ⟨P.fb,11,none⟩=some (.slice ac nc cc)∧w'.cell? ⟨cb,0,none⟩=some (.int .u16 c.flag)∧w'.cell? ⟨cb,1,none⟩=some (.int .i64 c.kind)∧w'.cell? ⟨cb,2,none⟩=some (.bool c.cross)∧w'.cell? ⟨cb,3,none⟩=some (.int .i64 (c.first:Nat))∧w'.cell? ⟨cb,4,none⟩=some (.int .i64 (c.count:Nat))) (by kernel_rfl) ?hp1 ?hb1 ?hk1 (by exact unhide H3) ?hn1
 case hp1 => (simp only [List.pop_toArray,List.dropLast_cons_cons,List.dropLast_singleton];rfl)
 case hb1 => (simp only [List.back?_toArray,List.getLast?_cons_cons,List.getLast?_singleton];rfl)
 case hk1 => kernel_rfl
 intro hHeld
 refine Lst.tk 0 ?_
 (try simp only [Act.put,List.setIfInBounds_toArray])
 refine Lst.tk 1 ?_
 (try simp only [Act.put])
 refine Lst.tk 2 ?_
 (try simp only [Act.put])
 refine Lst.tk 3 ?_
 (try simp only [Act.put])
 refine Lst.tk 4 ?_
 (try simp only [Act.put])
 refine Lst.tk 5 ?_
 (try simp only [Act.put])
 refine Lst.tk 6 ?_
 (try simp only [Act.put])
 refine Lst.tk 7 ?_
 (try simp only [Act.put])
 refine Lst.tk 8 ?_
 (try simp only [Act.put])
 refine Lst.tk 9 ?_
 (try simp only [Act.put])
 refine Lst.tk 10 ?_
 (try simp only [Act.put])
 refine Lst.tk 11 ?_
 (try simp only [Act.put])
 refine Lst.tk 12 ?_
 (try simp only [Act.put])
 rw [unhide HCL] at HA HAP
 refine wpAnyH_ready (rs:=[13]) (by kernel_rfl) (by simp) ?_
 refine AllReadyH.cons (by simp only [List.getElem?_toArray,List.getElem?_cons_succ,List.getElem?_cons_zero];rfl) (fun K hK => ?_) AllReadyH.nil
 go_simp
 refine hK.out _ _ (unhide HA) (fun hh4 => ?_)
 clear hK K
 (try simp only [Act.put,List.setIfInBounds_toArray,List.set_cons_zero,List.set_cons_succ])
 refine wpAnyH_ready (rs:=[14]) (by kernel_rfl) (by simp) ?_
 refine AllReadyH.cons (by simp only [List.getElem?_toArray,List.getElem?_cons_succ,List.getElem?_cons_zero];rfl) (fun K hK => ?_) AllReadyH.nil
 refine step_app (by rfl) _ _ _ (by rfl) _ _ _ _ (by rfl) (by rfl) (by exact unhide HAP) ?_
 refine hK.out _ _ (unhide H5) (fun hh5 => ?_)
 clear hK K
 (try simp only [Act.put,List.setIfInBounds_toArray,List.set_cons_zero,List.set_cons_succ])
 refine Lst.tk 15 ?_
 (try simp only [Act.put,List.setIfInBounds_toArray])
 refine Lst.tk 16 ?_
 (try simp only [Act.put])
 refine Lst.tk 17 ?_
 (try simp only [Act.put])
 refine wpAnyH_done (by kernel_rfl) ?_ _
 show Oper.wp _ _ _ _ _ _
 have k125:=(unhide H5).2.1
 obtain ⟨f5,hfb5⟩:=unhide H5f
 go_simp
 apply unhide HK6
 exact unhide HLOOP _ rfl _ _ _ _ _ _ _ _ _ _ _ _ _ _ _ _ _ _ _ _ _ _ _ _ _ _ _ _ _ _ _ _ _ _ _ _ _ _ _ _ _ _ _ _ _ _ _ _ _ _ _ _ _ _ _ _ _ _ _ _ _ _ _ _ _ _ _ _ _ _ _ _ _ _ _ _ _ _ _ _ _ _ _ _ _ _ _ _ _ _ _ _ _ _ _ _ _ _ _ _ _ _ _ _ _ _ _ _ _ _ _ _ _ _ _ _ _ _ _ _ _ _ _ _ _ _ _ _ _ _ _ _ _ _ _ _
theorem doClass_f {k:Int} {R:Rdr} {hd:List Bs} {e:Er} (h:newFlag R (fld hd 1)=.error e):doClass k R hd=.error e:=by unfold doClass;rw [h]
theorem doClass_v {k x:Int} {R:Rdr} {hd:List Bs} (h:newFlag R (fld hd 1)=.ok x) (h2:fld hd 2≠[89]∧fld hd 2≠[78]):doClass k R hd=.error (R.line,114):=by unfold doClass;rw [h];simp [h2]
theorem doClass_n {k x:Int} {R:Rdr} {hd:List Bs} {e:Er} (h:newFlag R (fld hd 1)=.ok x) (h2:¬ (fld hd 2≠[89]∧fld hd 2≠[78])) (h3:numb R.line (fld hd 3) 1024=.error e):doClass k R hd=.error e:=by
 unfold doClass
 rw [h]
 simp only
 rw [if_neg h2,h3]
theorem doClass_m {k x:Int} {R:Rdr} {hd:List Bs} {n:Nat} (h:newFlag R (fld hd 1)=.ok x) (h2:¬ (fld hd 2≠[89]∧fld hd 2≠[78])) (h3:numb R.line (fld hd 3) 1024=.ok n) (h4:1024 < R.file.rules.length + n):doClass k R hd=.error (R.line,117):=by
 unfold doClass
 rw [h]
 simp only
 rw [if_neg h2,h3]
 simp only
 rw [if_pos h4]
def cls (k x:Int) (R:Rdr) (hd:List Bs) (n:Nat):Cls:=⟨x,k,fld hd 2 == [89],R.file.rules.length,n⟩
theorem doClass_t {k x:Int} {R:Rdr} {hd:List Bs} {n:Nat} (h:newFlag R (fld hd 1)=.ok x) (h2:¬ (fld hd 2≠[89]∧fld hd 2≠[78])) (h3:numb R.line (fld hd 3) 1024=.ok n) (h4:¬ 1024 < R.file.rules.length + n):doClass k R hd=times (rulStep [fld hd 0,fld hd 1] (cls k x R hd n)) n (withC R (cls k x R hd n)):=by
 unfold doClass
 rw [h]
 simp only
 rw [if_neg h2,h3]
 simp only
 rw [if_neg h4]
 rfl
theorem zero33 {w w2:World} (b:Below (w.alloc (.cells #[.int .u16 0,.int .i64 0,.bool false,.int .i64 0,.int .i64 0] 48)).drew.heap.size (w.alloc (.cells #[.int .u16 0,.int .i64 0,.bool false,.int .i64 0,.int .i64 0] 48)).drew w2):w2.heap[w.heap.size]?=some (.cells #[.int .u16 0,.int .i64 0,.bool false,.int .i64 0,.int .i64 0] 48 (0,0)) :=
 (b.block w.heap.size (by show w.heap.size < (w.alloc _).heap.size;simp)).trans (alloc_new w _)
theorem cells33 {w2:World} {g:Nat} {a b c d e:Value} {t:TypeId} (h:w2.heap[g]?=some (.cells #[a,b,c,d,e] t (0,0))):w2.cell? ⟨g,0,none⟩=some a∧w2.cell? ⟨g,1,none⟩=some b∧w2.cell? ⟨g,2,none⟩=some c∧w2.cell? ⟨g,3,none⟩=some d∧w2.cell? ⟨g,4,none⟩=some e∧∀ k,w2.frozen? ⟨g,k,none⟩=false:=by
 simp [World.cell?,World.frozen?,h]
theorem keep5 {w:World} {b:Nat} {a:Addr} {u x0 x1 x2 x3 x4:Value} (h:w.cell? a=some u) (hne:b≠a.block):(((((w.setCell ⟨b,0,none⟩ x0).setCell ⟨b,1,none⟩ x1).setCell ⟨b,2,none⟩ x2).setCell ⟨b,3,none⟩ x3).setCell ⟨b,4,none⟩ x4).cell? a=some u:=by
 rw [World.cell?_setCell_far _ _ _ _ hne,World.cell?_setCell_far _ _ _ _ hne,World.cell?_setCell_far _ _ _ _ hne,World.cell?_setCell_far _ _ _ _ hne,World.cell?_setCell_far _ _ _ _ hne]
 exact h
theorem calls_ok {g:FuncId} {args:Array Value} {w W:World} {v:Value} {Q:Ending→World→Prop} (b:Below w.heap.size w W) (h:∀ W,Below w.heap.size w W→Calls Tryz.prog g args W fun e w' => e=.returned v∧Below W.heap.size W w') (k:∀ w',Below w.heap.size w w'→Below W.heap.size W w'→Q (.returned v) w'):Calls Tryz.prog g args W Q :=
 (h W b).mono fun e w' q => by rw [q.1];exact k w' (b.trans (q.2.mono b.size)) q.2
theorem readClass_any {B rb:Nat} {R:Rdr} {P:Pts} {w:World} (h:RAt B w rb R P) (hM:Mx B w) (k:Int) (hd:List Bs) (hv:Value) (hrow:StrRow B w hv (hd.map Fld.str)) (hlen:hd.length=4) (hf:∀ f ∈ hd,f.length≤65536) (hcn:R.file.classes.length≤65536) :
  Calls Tryz.prog 89 #[ptr rb,hv,.int .i64 k] w (Res B rb P w (doClass k R hd)):=by
 obtain ⟨d0,-,hl,-,-,-,-⟩:=h.cells
 obtain ⟨-,-,-,-,k12,-,-⟩:=h.file.cells
 have hb:=h.lt
 have hfb:=h.file.lt
 have HH:=hide h
 have HRow:=hide hrow
 obtain ⟨g,cap,rfl,hg,h1,h2,-,hcl⟩:=str_cells hrow
 unfold maxLen at h2
 have q1:=hcl 1 _ (fld_get (by omega))
 have hf1:=hf _ (List.mem_of_getElem? (fld_get (row:=hd) (i:=1) (by omega)))
 obtain ⟨au,cu,eu,-,-⟩:=own_len h.file.ruls
 rw [eu] at k12
 have HN:=hide (fun W (b:Below w.heap.size w W) => newFlag_all (h.below b) (Fld.str (fld hd 1)) (by rw [fstr_wd,Wd.str_size];omega))
 have e1:(Fld.str (fld hd 1)).data.toList=fld hd 1:=by simp [Fld.str]
 rw [e1] at HN
 have HHD:=hide hf
 have HCN:=hide hcn
 have HMX:=hide hM
 clear hcn
 have HLN:=hide hlen
 have HCL:=hide hcl
 have HRW4:Hid (StrRow B w (.slice (some ⟨g,0,none⟩) 4 cap) (hd.map Fld.str)):=by rw [← hlen];exact hrow
 rw [hlen] at h1 ⊢
 clear hcl hf hf1 e1 hrow hlen
 cases hn:newFlag R (fld hd 1) with
 | error er =>
  have HX:=hide (doClass_f (k:=k) hn)
  have HNN:=hide (fun W b => noOf (unhide HN W b) hn)
  clear HN hn h hM eu hl
  generalize Fld.str (fld hd 1)=r1 at *
  generalize R.file.rules.length=nr at *
  go_enter Tryz.func89,Tryz.ntmps89
  go_wp2_with fail
  go_region_held2 (fun w' => w'.cell? ⟨rb,0,none⟩=some (.pointer (some ⟨P.fb,0,none⟩))∧w'.cell? ⟨P.fb,12,none⟩=some (.slice au nr cu)∧w'.cell? ⟨g,1,none⟩=some (.string r1)) (first | exact ⟨d0,k12,q1⟩ | go_keep) (first | (go_at_call 113;refine calls_no2 (.int .u16 0) (by (repeat (first | exact Below.refl _ _ | refine Below.drew ?_ | refine Below.alloc ?_ (by first | (simp; done) | (simp; omega)) _ | refine Below.setCell ?_ (by first | (simp; done) | (simp; omega)) _))) (unhide HNN) (fun w4 b4 => ⟨rfl,Res.no (unhide HX) (Kt.of_below b4 (unhide HH).base)⟩) ?_;intro HF))
  all_goals exact (unhide HF).elim
 | ok x =>
  have HNN:=hide (fun W b => okOf (unhide HN W b) hn)
  unfold flgV at HNN
  have HNO:=hide hn
  clear HN hn h hM eu hl
  generalize Fld.str (fld hd 1)=r1 at *
  obtain ⟨nr,hnr⟩:∃ nr,R.file.rules.length=nr:=⟨_,rfl⟩
  rw [hnr] at k12
  have HNR:=hide hnr
  clear hnr
  have HN1:Hid (w.heap.size≠rb):=Nat.ne_of_gt hb
  have HN2:Hid (w.heap.size≠P.fb):=Nat.ne_of_gt hfb
  have HN3:Hid (w.heap.size≠g):=Nat.ne_of_gt hg
  go_enter Tryz.func89,Tryz.ntmps89
  go_wp2_with fail
  rename_i K hK
  have TAIL:Hid (∀ cb V,Hid (Below w.heap.size w V∧w.heap.size≤cb∧V.heap[cb]?=some (.cells #[.int .u16 x,.int .i64 k,.bool false,.int .i64 (nr:Nat),.int .i64 0] 48 (0,0)))→K { tmps:=#[ptr rb,.slice (some ⟨g,0,none⟩) 4 cap,.int .i64 k,undef,undef,undef,.pointer (some ⟨cb,0,none⟩),undef,.int .i64 k,ptr rb,.slice (some ⟨g,0,none⟩) 4 cap,.pointer (some ⟨g,1,none⟩),.string r1,.int .u16 x,ptr rb,.pointer (some ⟨rb,0,none⟩),.pointer (some ⟨rb,0,none⟩),.pointer (some ⟨P.fb,0,none⟩),.pointer (some ⟨P.fb,0,none⟩),.pointer (some ⟨P.fb,0,none⟩),.pointer (some ⟨P.fb,12,none⟩),.slice au nr cu,.int .i64 (nr:Nat),.agg #[.int .u16 x,.int .i64 k,.bool false,.int .i64 (nr:Nat),.int .i64 0],undef,undef,undef,undef,undef,undef,undef,undef,undef,undef,undef,undef,undef,undef,undef,undef,undef,undef,undef,undef,undef,undef,undef,undef,undef,undef,undef,undef,undef,undef,undef,undef,undef,undef,undef,undef,undef,undef,undef,undef,undef,undef,undef,undef,undef,undef,undef,undef,undef,undef,undef,undef,undef,undef,undef,undef,undef,undef,undef,undef,undef,undef,undef,undef,undef,undef,undef,undef,undef,undef,undef,undef,undef,undef,undef,undef,undef,undef,undef,undef,undef,undef,undef,undef,undef,undef,undef,undef,undef,undef,undef,undef,undef,undef,undef,undef,undef,undef,undef,undef,undef,undef,undef,undef,undef,undef,undef,undef,undef,undef,undef,undef,undef,undef,undef],defers:=[] } V):=by
   intro cb V hT
   obtain ⟨bV,hnew,hblk⟩:=unhide hT
   apply hK
   clear hK hT
   clear K
   have HBV:=hide bV
   have HBLK:=hide hblk
   have q2:=(bV.cell (p:=⟨g,2,none⟩) hg).trans (unhide HCL 2 _ (fld_get (by rw [unhide HLN];decide)))
   have q3:=(bV.cell (p:=⟨g,3,none⟩) hg).trans (unhide HCL 3 _ (fld_get (by rw [unhide HLN];decide)))
   have hf3:=unhide HHD _ (List.mem_of_getElem? (fld_get (row:=hd) (i:=3) (by rw [unhide HLN];decide)))
   obtain ⟨c0,c1,c2,c3,c4,cf⟩:=cells33 hblk
   have hcbl:=lt_some hblk
   have HNE:Hid (cb≠g):=by have:=hg;exact fun e => by omega
   have e2:(Fld.str (fld hd 2)).toList=fld hd 2:=by rw [Lib.toList_data];simp [Fld.str]
   clear d0 k12 q1 bV hblk HNN
   by_cases hyn:fld hd 2≠[89]∧fld hd 2≠[78]
   ·
    have HX:=hide (doClass_v (k:=k) (unhide HNO) hyn)
    have y1:((Fld.str (fld hd 2)).toList == [89])=false:=by rw [e2];simpa using hyn.1
    have y2:((Fld.str (fld hd 2)).toList == [78])=false:=by rw [e2];simpa using hyn.2
    have HV:=hide (leaveIf_no rb R.line 114 V (by decide) (by decide) ((unhide HH).below (unhide HBV)).cells.2.2.1)
    clear hyn e2
    generalize Fld.str (fld hd 2)=r2 at *
    go_wp2_with (go_at_call 91;refine (unhide HV).mono ?_;rintro e w4 ⟨rfl,rfl⟩)
    exact ⟨rfl,Res.no (unhide HX) (Kt.of_below (unhide HBV) (unhide HH).base)⟩
   ·have HY:=hide hyn
    have HYN:Hid ((((Fld.str (fld hd 2)).toList == [89])=true∧(fld hd 2 == [89])=true)∨(((Fld.str (fld hd 2)).toList == [89])=false∧((Fld.str (fld hd 2)).toList == [78])=true∧(fld hd 2 == [89])=false)):=by
     rw [Hid,e2]
     by_cases q:fld hd 2=[89]
     ·exact .inl ⟨by simpa using q,by simpa using q⟩
     ·refine .inr ⟨by simpa using q,?_,by simpa using q⟩
      have:fld hd 2=[78]:=Classical.byContradiction fun z => hyn ⟨q,z⟩
      simpa using this
    clear hyn e2
    have HNU:=hide (fun W (b:Below w.heap.size w W) => number_any rb R.line (Fld.str (fld hd 3)) 1024 W (by rw [fstr_wd,Wd.str_size];omega) (by decide) ((unhide HH).below b).cells.2.2.1)
    have e3:(Fld.str (fld hd 3)).data.toList=fld hd 3:=by simp [Fld.str]
    rw [e3] at HNU
    clear e3 hf3
    generalize Fld.str (fld hd 2)=r2 at *
    generalize Fld.str (fld hd 3)=r3 at *
    have b2:∀ v,Below w.heap.size w (V.setCell ⟨cb,2,none⟩ v):=fun v => (unhide HBV).setCell (p:=⟨cb,2,none⟩) hnew v
    have HB2:=hide b2
    clear b2
    have q3s:∀ v,(V.setCell ⟨cb,2,none⟩ v).cell? ⟨g,3,none⟩=some (.string r3):=fun v => by rw [World.cell?_setCell_far _ _ _ _ (unhide HNE)];exact q3
    cases hnum:numb R.line (fld hd 3) 1024 with
    | error er =>
     have HX:=hide (doClass_n (k:=k) (unhide HNO) (unhide HY) hnum)
     have HNO2:=hide (fun W b => noOf (unhide HNU W b) hnum)
     clear HNU hnum
     rcases unhide HYN with ⟨y1,y3⟩ | ⟨y1,y2,y3⟩
     all_goals
      clear HYN y3
      go_wp2_with (first | (go_at_call 91;with_reducible (show Calls _ _ #[_,.bool false,.int .i64 114] _ _);refine (leaveIf_ok _ _ _).mono ?_;rintro e w4 ⟨rfl,rfl⟩) | (go_at_call 114;refine (unhide HNO2 _ (unhide HB2 _)).mono ?_;rintro e w4 ⟨rfl,rfl⟩))
      exact ⟨rfl,Res.no (unhide HX) (Kt.of_below (unhide HB2 _) (unhide HH).base)⟩
    | ok n =>
     have HNO2:=hide (fun W b => okOf (unhide HNU W b) hnum)
     have HNB:=hide (numb_le hnum)
     by_cases h4:1024 < R.file.rules.length + n
     ·
      have HX:=hide (doClass_m (k:=k) (unhide HNO) (unhide HY) hnum h4)
      have hn1:=unhide HNB
      have hr1:=(unhide HH).file.ok.rul
      rw [unhide HNR] at h4 hr1
      have h4i:(1024:Int) < (nr:Int) + (n:Int):=by omega
      clear HNU hnum h4
      rcases unhide HYN with ⟨y1,y3⟩ | ⟨y1,y2,y3⟩
      all_goals
       clear HYN y3
       go_wp2_with (first | (go_at_call 91;with_reducible (show Calls _ _ #[_,.bool false,.int .i64 114] _ _);refine (leaveIf_ok _ _ _).mono ?_;rintro e w4 ⟨rfl,rfl⟩) | (go_at_call 114;refine (unhide HNO2 _ (unhide HB2 _)).mono ?_;rintro e w4 ⟨rfl,rfl⟩))
       have b4:=fun v u => (unhide HB2 v).setCell (p:=⟨cb,4,none⟩) hnew u
       refine (leaveIf_no rb R.line 117 _ (by decide) (by decide) ((unhide HH).below (b4 _ _)).cells.2.2.1).mono ?_
       rintro e w5 ⟨rfl,rfl⟩
       exact ⟨rfl,Res.no (unhide HX) (Kt.of_below (b4 _ _) (unhide HH).base)⟩
     ·have HX:=hide (doClass_t (k:=k) (unhide HNO) (unhide HY) hnum h4)
      have hn1:=unhide HNB
      have hr1:=(unhide HH).file.ok.rul
      rw [unhide HNR] at h4 hr1
      have h4i:¬ (1024:Int) < (nr:Int) + (n:Int):=by omega
      have HS4:=hide h4
      clear HNU hnum h4
      have HCR:Hid (∀ cr V2,(fld hd 2 == [89])=cr→V2=(V.setCell ⟨cb,2,none⟩ (.bool cr)).setCell ⟨cb,4,none⟩ (.int .i64 (n:Nat))→Below w.heap.size w V2∧V2.heap[cb]?=some (.cells (clsC (cls k x R hd n)).toArray 48 (0,0))):=by
       rintro cr V2 hcr rfl
       refine ⟨(unhide HB2 _).setCell (p:=⟨cb,4,none⟩) hnew _,?_⟩
       rw [set_heap1 (set_heap1 (unhide HBLK) _)]
       simp [clsC,cls,hcr,unhide HNR]
      rcases unhide HYN with ⟨y1,y3⟩ | ⟨y1,y2,y3⟩
      all_goals
       have HY3:=hide y3
       clear HYN y3
       go_wp2_with (first | (go_at_call 91;with_reducible (show Calls _ _ #[_,.bool false,.int .i64 114] _ _);refine (leaveIf_ok _ _ _).mono ?_;rintro e w4 ⟨rfl,rfl⟩) | (go_at_call 114;refine (unhide HNO2 _ (unhide HB2 _)).mono ?_;rintro e w4 ⟨rfl,rfl⟩))
       refine (leaveIf_f _ _ _ _ (by simp;omega)).mono ?_
       rintro e w5 ⟨rfl,hw5⟩
       rename_i K3 hK3 K2 hK2
       subst w5
       apply hK2
       refine hK3 _ _ ?_
       obtain ⟨bV2,blk2⟩:=unhide HCR _ _ (unhide HY3) rfl
       obtain ⟨x1,x2,x3,x4⟩:=newFlag_pos (unhide HNO)
       refine cls_mid (c:=cls k x R hd n) (hd:=hd) ((unhide HH).below bV2) (Kt.of_below bV2 (unhide HH).base) (str_kept (unhide HRW4) (below_kept bV2)) (unhide HMX) blk2 ?_ ⟨x1,x2⟩ x3 (unhide HCN) (unhide HLN) ?_ ?_ h1 (by omega) _ _ _ _ _ _ _ _ _ _ _ _ _ _ _ _ _ _ _ _ _ _ _ _ _ _ _ _ _ _ _ _ _ _ _ _ _ _ _ _ _ _ _ _ _ _ _ _ _ _ _ _ _ _ _ _ _ _ _ _ _ _ _ _ _ _ _ _ _ _ _ _ _ _ _ _ _ _ _ _ _ _ _ _ _ _ _ _ _ _ _ _ _ _ _ _ _ _ _ _ _ _ _ _ _ _ _ _ _ _ _ _ _ _ _ _ _ _ _ _ _ _ _ _ _ _ _ _ _ _ _ _ _ _ _ _
       ·intro e
        have:=((unhide HH).file.clss.lt cb e).2
        omega
       ·show R.file.rules.length + n≤1024
        rw [unhide HNR];omega
       ·exact unhide HX
  clear hK
  go_region_held2 (fun w' => w'.cell? ⟨rb,0,none⟩=some (.pointer (some ⟨P.fb,0,none⟩))∧w'.cell? ⟨P.fb,12,none⟩=some (.slice au nr cu)∧w'.cell? ⟨g,1,none⟩=some (.string r1)) (first | (with_reducible exact ⟨d0',k12',q1'⟩) | (with_reducible exact ⟨keep5 d0' (unhide HN1),keep5 k12' (unhide HN2),keep5 q1' (unhide HN3)⟩) | (with_reducible exact ⟨d0,k12,q1⟩) | go_keep) (first | (go_at_call 113;with_reducible (show Calls _ _ _ (World.drew (World.alloc _ _)) _);refine calls_ok (by (repeat (first | exact Below.refl _ _ | refine Below.drew ?_ | refine Below.alloc ?_ (by first | (simp; done) | (simp; omega)) _ | refine Below.setCell ?_ (by first | (simp; done) | (simp; omega)) _))) (unhide HNN) ?_;intro w2 b2 b3;have HB2:=hide b2;have HZ:=hide (zero33 b3);obtain ⟨z0,z1,z2,z3,z4,zf⟩:=cells33 (unhide HZ);have hz2:=lt_some (unhide HZ);have d0':=(b2.cell (p:=⟨rb,0,none⟩) hb).trans d0;have k12':=(b2.cell (p:=⟨P.fb,12,none⟩) hfb).trans k12;have q1':=(b2.cell (p:=⟨g,1,none⟩) hg).trans q1;clear b2 b3) | (go_at_call 113;refine calls_ok (by (repeat (first | exact Below.refl _ _ | refine Below.drew ?_ | refine Below.alloc ?_ (by first | (simp; done) | (simp; omega)) _ | refine Below.setCell ?_ (by first | (simp; done) | (simp; omega)) _))) (unhide HNN) ?_;intro w2 b2 b3;have HB2:=hide b2;have HZ:Hid True:=trivial;have d0':=(b2.cell (p:=⟨rb,0,none⟩) hb).trans d0;have k12':=(b2.cell (p:=⟨P.fb,12,none⟩) hfb).trans k12;have q1':=(b2.cell (p:=⟨g,1,none⟩) hg).trans q1;clear b2 b3))
  ·exact unhide TAIL w2.heap.size _ ⟨(unhide HB2).alloc (unhide HB2).size _,(unhide HB2).size,alloc_new w2 _⟩
  ·refine unhide TAIL w.heap.size _ ⟨?_,Nat.le_refl _,?_⟩
   ·exact (((((unhide HB2).setCell (p:=⟨w.heap.size,0,none⟩) (Nat.le_refl _) _).setCell (p:=⟨w.heap.size,1,none⟩) (Nat.le_refl _) _).setCell (p:=⟨w.heap.size,2,none⟩) (Nat.le_refl _) _).setCell (p:=⟨w.heap.size,3,none⟩) (Nat.le_refl _) _).setCell (p:=⟨w.heap.size,4,none⟩) (Nat.le_refl _) _
   ·exact set_heap1 (set_heap1 (set_heap1 (set_heap1 (set_heap1 (unhide HZ) _) _) _) _) _
theorem times_rel {f:Rdr→Except Er Rdr} {rel:Rdr→Rdr→Prop} (rf:∀ R,rel R R) (tr:∀ a b c,rel a b→rel b c→rel a c) (hf:∀ R R',f R=.ok R'→rel R R'):∀ (n:Nat) (R R':Rdr),times f n R=.ok R'→rel R R'
 | 0,R,R',h => by
  simp only [times,Except.ok.injEq] at h
  subst h
  exact rf _
 | n + 1,R,R',h => by
  rw [times] at h
  cases hq:f R with
  | error e => rw [hq] at h;cases h
  | ok R1 => rw [hq] at h;exact tr _ _ _ (hf _ _ hq) (times_rel rf tr hf n R1 R' h)
structure Mo (R R':Rdr):Prop where
 heads:R'.heads=R.heads
 rows:R'.rows.length≤R.rows.length
 cls:R'.file.classes=R.file.classes
theorem Mo.refl (R:Rdr):Mo R R:=⟨rfl,Nat.le_refl _,rfl⟩
theorem Mo.trans {a b c:Rdr} (h:Mo a b) (k:Mo b c):Mo a c:=⟨k.heads.trans h.heads,Nat.le_trans k.rows h.rows,k.cls.trans h.cls⟩
theorem grow_mo {R R1:Rdr} {beg row:List Bs} (h:grow R beg=.ok (row,R1)):Mo R R1∧R1.file=R.file:=by
 obtain ⟨l,t,h1,h2⟩:=grow_fld h
 subst h2
 exact ⟨⟨rfl,by rw [h1];simp,rfl⟩,rfl⟩
theorem repStep_mo {key:Bs} {R R':Rdr} (h:repStep key R=.ok R'):Mo R R'∧R'.file.aliases=R.file.aliases:=by
 unfold repStep at h
 split at h
 ·cases h
 ·rename_i row R1 hg
  obtain ⟨m,e⟩:=grow_mo hg
  split at h
  ·cases h
  ·injection h with h
   subst h
   exact ⟨⟨m.heads,m.rows,m.cls⟩,by rw [e]⟩
theorem aliStep_mo {key:Bs} {R R':Rdr} (h:aliStep key R=.ok R'):Mo R R'∧R'.file.reps=R.file.reps:=by
 unfold aliStep at h
 split at h
 ·cases h
 ·rename_i row R1 hg
  obtain ⟨m,e⟩:=grow_mo hg
  split at h
  ·cases h
  ·injection h with h
   subst h
   exact ⟨⟨m.heads,m.rows,m.cls⟩,by rw [e]⟩
theorem rulStep_mo {beg:List Bs} {c:Cls} {R R':Rdr} (h:rulStep beg c R=.ok R'):Mo R R'∧R'.file.reps=R.file.reps∧R'.file.aliases=R.file.aliases:=by
 unfold rulStep at h
 split at h
 ·cases h
 ·rename_i row R1 hg
  obtain ⟨m,e⟩:=grow_mo hg
  split at h
  ·cases h
  ·injection h with h
   subst h
   exact ⟨⟨m.heads,m.rows,m.cls⟩,by rw [e],by rw [e]⟩
structure Kd (R R':Rdr) (k:Key):Prop where
 heads:R'.heads=R.heads
 rows:R'.rows.length≤R.rows.length
 cls:R'.file.classes.length≤R.file.classes.length + 1
 reps:k≠.reps→R'.file.reps=R.file.reps
 alis:k≠.aliases→R'.file.aliases=R.file.aliases
theorem doKey_kd {R R':Rdr} {h:List Bs} {k:Key} (hk:doKey R h k=.ok R'):Kd R R' k:=by
 cases k with
 | kind =>
  simp only [doKey,doKind] at hk
  repeat' split at hk
  all_goals first | (cases hk;done) | (injection hk with hk;subst hk;exact ⟨rfl,Nat.le_refl _,Nat.le_succ _,fun _ => rfl,fun _ => rfl⟩)
 | charset =>
  simp only [doKey,doCharset] at hk
  split at hk
  ·injection hk with hk;subst hk;exact ⟨rfl,Nat.le_refl _,Nat.le_succ _,fun _ => rfl,fun _ => rfl⟩
  ·cases hk
 | letters =>
  simp only [doKey,doLetters] at hk
  split at hk
  ·injection hk with hk;subst hk;exact ⟨rfl,Nat.le_refl _,Nat.le_succ _,fun _ => rfl,fun _ => rfl⟩
  ·cases hk
 | special i =>
  simp only [doKey,doSpecial] at hk
  split at hk
  ·cases hk
  ·injection hk with hk;subst hk;exact ⟨rfl,Nat.le_refl _,Nat.le_succ _,fun _ => rfl,fun _ => rfl⟩
 | least =>
  simp only [doKey,doLeast] at hk
  repeat' split at hk
  all_goals first | (cases hk;done) | (injection hk with hk;subst hk;exact ⟨rfl,Nat.le_refl _,Nat.le_succ _,fun _ => rfl,fun _ => rfl⟩)
 | reps =>
  simp only [doKey,doReps] at hk
  split at hk
  ·cases hk
  ·have m:=times_rel (rel:=fun R R' => Mo R R'∧R'.file.aliases=R.file.aliases) (fun R => ⟨Mo.refl R,rfl⟩) (fun a b c x y => ⟨x.1.trans y.1,y.2.trans x.2⟩) (fun R R' q => repStep_mo q) _ _ _ hk
   exact ⟨m.1.heads,m.1.rows,by rw [m.1.cls];exact Nat.le_succ _,fun x => absurd rfl x,fun _ => m.2⟩
 | aliases =>
  simp only [doKey,doAliases] at hk
  split at hk
  ·cases hk
  ·split at hk
   ·cases hk
   ·have m:=times_rel (rel:=fun R R' => Mo R R'∧R'.file.reps=R.file.reps) (fun R => ⟨Mo.refl R,rfl⟩) (fun a b c x y => ⟨x.1.trans y.1,y.2.trans x.2⟩) (fun R R' q => aliStep_mo q) _ _ _ hk
    exact ⟨m.1.heads,m.1.rows,by rw [m.1.cls];exact Nat.le_succ _,fun _ => m.2,fun x => absurd rfl x⟩
 | cls kk =>
  simp only [doKey,doClass] at hk
  split at hk
  ·cases hk
  ·split at hk
   ·cases hk
   ·split at hk
    ·cases hk
    ·split at hk
     ·cases hk
     ·have m:=times_rel (rel:=fun R R' => Mo R R'∧R'.file.reps=R.file.reps∧R'.file.aliases=R.file.aliases) (fun R => ⟨Mo.refl R,rfl,rfl⟩) (fun a b c x y => ⟨x.1.trans y.1,y.2.1.trans x.2.1,y.2.2.trans x.2.2⟩) (fun R R' q => rulStep_mo q) _ _ _ hk
      exact ⟨m.1.heads,m.1.rows,by rw [m.1.cls];simp,fun _ => m.2.1,fun _ => m.2.2⟩
structure Inv (R:Rdr):Prop where
 cls:R.file.classes.length≤R.heads.length
 few:R.heads.length + R.rows.length≤65536
 reps:[82,69,80] ∉ R.heads→R.file.reps=[]
 alis:[65,70] ∉ R.heads→R.file.aliases=[]
theorem kw_reps {s:Bs} {k:Kw} (h:kwOf s=some k) (hk:k.key=.reps):s=[82,69,80]∧k.again=false∧k.fields=2:=by
 unfold kwOf at h
 obtain ⟨p,hp,rfl⟩:=Option.map_eq_some_iff.1 h
 have hm:=List.mem_of_find?_eq_some hp
 have hs:p.1=s:=by simpa using List.find?_some hp
 subst hs
 simp [kws] at hm
 rcases hm with rfl | rfl | rfl | rfl | rfl | rfl | rfl | rfl | rfl | rfl | rfl | rfl | rfl <;> first | (cases hk;done) | exact ⟨rfl,rfl,rfl⟩
theorem kw_alis {s:Bs} {k:Kw} (h:kwOf s=some k) (hk:k.key=.aliases):s=[65,70]∧k.again=false∧k.fields=2:=by
 unfold kwOf at h
 obtain ⟨p,hp,rfl⟩:=Option.map_eq_some_iff.1 h
 have hm:=List.mem_of_find?_eq_some hp
 have hs:p.1=s:=by simpa using List.find?_some hp
 subst hs
 simp [kws] at hm
 rcases hm with rfl | rfl | rfl | rfl | rfl | rfl | rfl | rfl | rfl | rfl | rfl | rfl | rfl <;> first | (cases hk;done) | exact ⟨rfl,rfl,rfl⟩
theorem heading_inv {R R':Rdr} {l:Nat} {hd:List Bs} {t:List (Nat × List Bs)} (hi:Inv R) (hr:R.rows=(l,hd) :: t) (h:heading { R with rows:=t } l hd=.ok R'):Inv R'∧R'.rows.length≤t.length:=by
 unfold heading at h
 split at h
 ·cases h
 ·rename_i k hk
  split at h
  ·cases h
  ·split at h
   ·cases h
   ·rename_i hag
    split at h
    ·cases h
    ·rename_i R2 hd2
     injection h with h
     subst h
     have d:=doKey_kd hd2
     have hl:=hi.few
     have hc:=hi.cls
     rw [hr,List.length_cons] at hl
     have e1:R2.heads=R.heads:=d.heads
     have e2:R2.rows.length≤t.length:=d.rows
     have e3:R2.file.classes.length≤R.file.classes.length + 1:=d.cls
     refine ⟨⟨?_,?_,fun hn => ?_,fun hn => ?_⟩,e2⟩
     ·simp only [List.length_append,List.length_singleton,e1];omega
     ·simp only [List.length_append,List.length_singleton,e1];omega
     ·simp only [List.mem_append,List.mem_singleton,not_or,e1] at hn
      have:k.key≠.reps:=fun q => hn.2 (kw_reps hk q).1.symm
      exact (d.reps this).trans (hi.reps hn.1)
     ·simp only [List.mem_append,List.mem_singleton,not_or,e1] at hn
      have:k.key≠.aliases:=fun q => hn.2 (kw_alis hk q).1.symm
      exact (d.alis this).trans (hi.alis hn.1)
def fnOf:Key→FuncId
 | .kind => 82
 | .charset => 83
 | .letters => 84
 | .special _ => 85
 | .least => 86
 | .reps => 87
 | .aliases => 88
 | .cls _ => 89
def whOf:Key→Int
 | .special i => i
 | .cls k => k
 | _ => 0
def kval (k:Kw):Value:=kwV k.fields k.again (fnOf k.key) (whOf k.key)
theorem kw_table:kwL13=kws.map fun p => (p.1,kval p.2):=by rfl
theorem kwF_of (s:Bs):kwF kwL13 (.string s)=(kwOf s).map kval:=by
 show (kwL13.find? fun p => p.1 == s).map (·.2)=_
 rw [kw_table,List.find?_map]
 unfold kwOf
 simp only [Option.map_map]
 rfl
theorem ent_fn (k:Key) (x y z:Value) (W:World):Sem.run Tryz.prog (callFunc (fnOf k) #[x,y,z]) W=.ok (.enter (fnOf k) #[x,y,z]) W:=by
 cases k <;> kernel_rfl
theorem dispatch {B rb:Nat} {R:Rdr} {P:Pts} {w:World} {s:Bs} {k:Kw} (hk:kwOf s=some k) (h:RAt B w rb R P) (hM:Mx B w) (hd:List Bs) (hv:Value) (hrow:StrRow B w hv (hd.map Fld.str)) (hlen:hd.length=k.fields) (hf:∀ f ∈ hd,f.length≤65536)
  (hcn:R.file.classes.length≤65536) (hre:k.key=.reps→R.file.reps=[]) (hal:k.key=.aliases→R.file.aliases=[]) :
  Calls Tryz.prog (fnOf k.key) #[ptr rb,hv,.int .i64 (whOf k.key)] w (Res B rb P w (doKey R hd k.key)):=by
 unfold kwOf at hk
 obtain ⟨p,hp,rfl⟩:=Option.map_eq_some_iff.1 hk
 have hm:=List.mem_of_find?_eq_some hp
 simp [kws] at hm
 rcases hm with rfl | rfl | rfl | rfl | rfl | rfl | rfl | rfl | rfl | rfl | rfl | rfl | rfl
 ·exact readKind_any h _ hd hv hrow hlen
 ·exact readCharset_any h _ hd hv hrow hlen hf
 ·exact readTry_any h _ hd hv hrow hlen hf
 ·exact readSpecial_any (i:=0) (by decide) h hd hv hrow hlen hf
 ·exact readSpecial_any (i:=1) (by decide) h hd hv hrow hlen hf
 ·exact readSpecial_any (i:=2) (by decide) h hd hv hrow hlen hf
 ·exact readSpecial_any (i:=3) (by decide) h hd hv hrow hlen hf
 ·exact readSpecial_any (i:=4) (by decide) h hd hv hrow hlen hf
 ·exact readLeast_any h _ hd hv hrow hlen hf
 ·exact readReps_any h _ hd hv hrow hlen hf (hre rfl)
 ·exact readAliases_any h hM _ hd hv hrow hlen hf (hal rfl)
 ·exact readClass_any h hM 1 hd hv hrow hlen hf hcn
 ·exact readClass_any h hM 2 hd hv hrow hlen hf hcn
theorem cnt_getD (H:List Bs) (s:Bs):(cnt H (.string s)).getD (.int .i64 0)=.int .i64 (H.count s:Nat):=by
 by_cases h:s ∈ H
 ·rw [cnt_in h];rfl
 ·rw [cnt_out h,List.count_eq_zero.2 h];rfl
theorem RAt.head {B rb:Nat} {R:Rdr} {P:Pts} {w:World} (h:RAt B w rb R P) (key:Bs) (hk:key.length≤65536) (hlt:R.heads.length < 65536) :
  (Instr.lookup 82 (.map (some P.hm)) (.string (Fld.str key)) false).run Tryz.prog w=.ok (.int .i64 (R.heads.count key:Nat)) w ∧
  ∃ w',(Instr.mapUpdate 82 (.map (some P.hm)) (.string (Fld.str key)) (.int .i64 ((R.heads.count key:Nat) + 1))).run Tryz.prog w=.ok () w'∧RAt B w' rb { R with heads:=R.heads ++ [key] } P∧Kt B P.pm P.hm w w':=by
 obtain ⟨n,hn,hm⟩:=h.hds
 have hsz:(Fld.str key).size≤maxLen:=by rw [fstr_wd,Wd.str_size];unfold maxLen;omega
 have e1:(Fld.str key).data.toList=key:=by simp [Fld.str]
 have hkey:=key9 hsz
 rw [e1] at hkey
 have hlook:=hm.look law9 Tryz.underlying82 (zero3 w) hkey
 rw [cnt_getD] at hlook
 refine ⟨hlook,?_⟩
 obtain ⟨w',hr,hput,hg⟩:=hm.put (v:=.int .i64 ((R.heads.count key:Nat) + 1)) law9 Tryz.underlying82 (by unfold maxLen;omega) hkey trivial
 obtain ⟨es,c,ee⟩:=hm.isMap
 have kp:Kp P.hm w w':=Kp.of_grown hg
 have kq:Kq [] (·=P.hm) w w':=Kq.kpm kp ee rfl
 have low:Below B w w':=(Below.refl B w).grown hg (Nat.le_of_lt (Nat.lt_of_le_of_lt h.hmB hm.lt)) (fun k hk => by injection hk with hk;rw [← hk];exact h.hmB)
 have hf:FAt B w' R.file P:=h.file.kq kq rfl rfl ((kq.cells _ _ _ _ h.file.fil (by simp)).trans h.file.fil) (.inr ⟨rfl,fun e => h.hne e.symm⟩) (.inr ⟨rfl,rfl,by simp⟩) (.inr ⟨rfl,rfl,rfl,by simp⟩) (.inr ⟨rfl,rfl,by simp⟩) (.inr ⟨rfl,rfl,rfl,by simp⟩) (by simp) h.file.ok
 refine ⟨w',hr,⟨h.rbB,h.hmB,(kq.cells _ _ _ _ h.rdr (by simp)).trans h.rdr,rows_kept h.rows (fun g cur q => kq.cells g cur _ (0,0) q (by simp)) (fun g cur q => kq.cells g cur _ (0,0) q (by simp)),⟨n + 1,by simp;omega,hput _ ?_ ?_⟩,h.hne,own_kq h.lns kq (by simp),hf,⟨by simp;omega,h.few.2.1,h.few.2.2⟩,h.rok⟩,kq.kt low (by simp) (fun g e => .inr e)⟩
 ·rw [cnt_in (by simp)]
  simp [List.count_append]
 ·intro x hx
  cases x with
  | string s =>
   have hne:s≠key:=fun e => hx (by rw [e])
   simp only [cnt,List.mem_append,List.mem_singleton,hne,or_false,List.count_append]
   rw [List.count_singleton]
   have:(key == s)=false:=by simpa using fun e:key=s => hne e.symm
   simp [this]
  | _ => rfl
end Af
namespace Af
theorem kw_mem {s:Bs} {k:Kw} (h:kwOf s=some k):(s,k) ∈ kws:=by
 unfold kwOf at h
 obtain ⟨p,hp,rfl⟩:=Option.map_eq_some_iff.1 h
 have hm:=List.mem_of_find?_eq_some hp
 have hs:p.1=s:=by simpa using List.find?_some hp
 subst hs
 exact hm
structure KwSp (s:Bs) (k:Kw):Prop where
 sp:spN s=match k.key with
  | .special i => (i:Int)
  | _ => -1
 lt:∀ i,k.key=.special i→i < 5
 cl:(∃ q,k.key=.cls q)↔(s=[80,70,88]∨s=[83,70,88])
theorem kw_sp {s:Bs} {k:Kw} (h:kwOf s=some k):KwSp s k:=by
 have hm:=kw_mem h
 simp only [kws,List.mem_cons,Prod.mk.injEq,List.not_mem_nil,or_false] at hm
 rcases hm with ⟨rfl,rfl⟩ | ⟨rfl,rfl⟩ | ⟨rfl,rfl⟩ | ⟨rfl,rfl⟩ | ⟨rfl,rfl⟩ | ⟨rfl,rfl⟩ | ⟨rfl,rfl⟩ | ⟨rfl,rfl⟩ | ⟨rfl,rfl⟩ | ⟨rfl,rfl⟩ | ⟨rfl,rfl⟩ | ⟨rfl,rfl⟩ | ⟨rfl,rfl⟩
 all_goals refine ⟨by decide,fun i hi => ?_,?_⟩
 all_goals first
  | (injection hi with hi;subst hi;decide)
  | (cases hi;done)
  | (
    constructor
    ·rintro ⟨q,hq⟩
     first
      | (cases hq;done)
      | decide
    ·intro hq
     first
      | exact ⟨_,rfl⟩
      | (exact absurd hq (by decide)))
def Ks (R R':Rdr):Prop:=R'.file.specials=R.file.specials∧R'.file.classes=R.file.classes
theorem grow_ks {R R1:Rdr} {beg row:List Bs} (h:grow R beg=.ok (row,R1)):Ks R R1:=by
 obtain ⟨-,e⟩:=grow_mo h
 exact ⟨by rw [e],by rw [e]⟩
theorem repStep_ks {key:Bs} {R R':Rdr} (h:repStep key R=.ok R'):Ks R R':=by
 unfold repStep at h
 split at h
 ·cases h
 ·rename_i row R1 hg
  split at h
  ·cases h
  ·injection h with h
   subst h
   exact ⟨(grow_ks hg).1,(grow_ks hg).2⟩
theorem aliStep_ks {key:Bs} {R R':Rdr} (h:aliStep key R=.ok R'):Ks R R':=by
 unfold aliStep at h
 split at h
 ·cases h
 ·rename_i row R1 hg
  split at h
  ·cases h
  ·injection h with h
   subst h
   exact ⟨(grow_ks hg).1,(grow_ks hg).2⟩
theorem rulStep_ks {beg:List Bs} {c:Cls} {R R':Rdr} (h:rulStep beg c R=.ok R'):Ks R R':=by
 unfold rulStep at h
 split at h
 ·cases h
 ·rename_i row R1 hg
  split at h
  ·cases h
  ·injection h with h
   subst h
   exact ⟨(grow_ks hg).1,(grow_ks hg).2⟩
theorem Ks.refl (R:Rdr):Ks R R:=⟨rfl,rfl⟩
theorem Ks.trans {a b c:Rdr} (h:Ks a b) (k:Ks b c):Ks a c:=⟨k.1.trans h.1,k.2.trans h.2⟩
theorem times_ks {f:Rdr→Except Er Rdr} (hf:∀ R R',f R=.ok R'→Ks R R') {n:Nat} {R R':Rdr} (h:times f n R=.ok R'):Ks R R':=times_rel (rel:=Ks) Ks.refl (fun _ _ _ => Ks.trans) hf n R R' h
structure KsK (R R':Rdr) (k:Key):Prop where
 sp:∀ i,k=.special i→(i < R.file.specials.length→∃ x ∈ R'.file.specials,x≠0)∧R'.file.classes=R.file.classes
 cl:∀ q,k=.cls q→R'.file.specials=R.file.specials∧R'.file.classes≠[]
 no:(∀ i,k≠.special i)→(∀ q,k≠.cls q)→Ks R R'
theorem KsK.of {R R':Rdr} {k:Key} (h:Ks R R') (h1:∀ i,k≠.special i) (h2:∀ q,k≠.cls q):KsK R R' k:=⟨fun i e => absurd e (h1 i),fun q e => absurd e (h2 q),fun _ _ => h⟩
theorem doKey_ks {R R':Rdr} {h:List Bs} {k:Key} (hk:doKey R h k=.ok R'):KsK R R' k:=by
 cases k with
 | kind =>
  refine .of ?_ (fun i e => by cases e) (fun q e => by cases e)
  simp only [doKey,doKind] at hk
  repeat' split at hk
  all_goals first | (cases hk;done) | (injection hk with hk;subst hk;exact ⟨rfl,rfl⟩)
 | charset =>
  refine .of ?_ (fun i e => by cases e) (fun q e => by cases e)
  simp only [doKey,doCharset] at hk
  split at hk
  ·injection hk with hk;subst hk;exact ⟨rfl,rfl⟩
  ·cases hk
 | letters =>
  refine .of ?_ (fun i e => by cases e) (fun q e => by cases e)
  simp only [doKey,doLetters] at hk
  split at hk
  ·injection hk with hk;subst hk;exact ⟨rfl,rfl⟩
  ·cases hk
 | special i =>
  simp only [doKey,doSpecial] at hk
  split at hk
  ·cases hk
  ·rename_i x hx
   injection hk with hk
   subst hk
   have hp:=(newFlag_pos hx).1
   refine ⟨fun j e => ⟨fun hj => ⟨x,?_,by omega⟩,rfl⟩,fun q e => (by cases e),fun h1 _ => absurd rfl (h1 i)⟩
   injection e with e
   subst e
   exact List.mem_of_getElem? (i:=i) (by simp [hj])
 | least =>
  refine .of ?_ (fun i e => by cases e) (fun q e => by cases e)
  simp only [doKey,doLeast] at hk
  repeat' split at hk
  all_goals first | (cases hk;done) | (injection hk with hk;subst hk;exact ⟨rfl,rfl⟩)
 | reps =>
  refine .of ?_ (fun i e => by cases e) (fun q e => by cases e)
  simp only [doKey,doReps] at hk
  split at hk
  ·cases hk
  ·exact times_ks (fun R R' => repStep_ks) hk
 | aliases =>
  refine .of ?_ (fun i e => by cases e) (fun q e => by cases e)
  simp only [doKey,doAliases] at hk
  split at hk
  ·cases hk
  ·split at hk
   ·cases hk
   ·exact times_ks (fun R R' => aliStep_ks) hk
 | cls kk =>
  simp only [doKey,doClass] at hk
  split at hk
  ·cases hk
  ·split at hk
   ·cases hk
   ·split at hk
    ·cases hk
    ·split at hk
     ·cases hk
     ·have m:=times_ks (fun R R' => rulStep_ks) hk
      refine ⟨fun i e => (by cases e),fun q e => ⟨m.1,?_⟩,fun _ h2 => absurd rfl (h2 kk)⟩
      rw [m.2]
      simp
structure Dv (R:Rdr):Prop where
 sp:(∃ x ∈ R.file.specials,x≠0)↔∃ q ∈ R.heads,0≤spN q
 cl:R.file.classes≠[]↔([80,70,88] ∈ R.heads∨[83,70,88] ∈ R.heads)
theorem start_dv (l:Bs):Dv (start l):=by
 refine ⟨⟨?_,?_⟩,⟨?_,?_⟩⟩
 ·rintro ⟨x,hx,hn⟩
  simp [start] at hx
  exact absurd hx hn
 ·rintro ⟨q,hq,-⟩
  simp [start] at hq
 ·intro h
  exact absurd rfl h
 ·rintro (h | h) <;> simp [start] at h
theorem heading_dv {R R':Rdr} {l:Nat} {hd:List Bs} {t:List (Nat × List Bs)} (h5:R.file.specials.length=5) (hi:Dv R) (h:heading { R with rows:=t } l hd=.ok R'):Dv R':=by
 unfold heading at h
 split at h
 ·cases h
 ·rename_i k hk
  split at h
  ·cases h
  ·split at h
   ·cases h
   ·split at h
    ·cases h
    ·rename_i R2 hd2
     injection h with h
     subst h
     have e1:R2.heads=R.heads:=(doKey_kd hd2).heads
     have d:=doKey_ks hd2
     have s:=kw_sp hk
     generalize fld hd 0=key at *
     refine ⟨?_,?_⟩
     ·simp only [e1,List.mem_append,List.mem_singleton]
      by_cases hs:∃ i,k.key=.special i
      ·obtain ⟨i,hs⟩:=hs
       have h1:=((d.sp i hs).1 (by show i < R.file.specials.length;rw [h5];exact s.lt i hs))
       have h2:spN key=(i:Int):=by rw [s.sp,hs]
       exact ⟨fun _ => ⟨key,.inr rfl,by omega⟩,fun _ => h1⟩
      ·have hs':∀ i,k.key≠.special i:=fun i e => hs ⟨i,e⟩
       have h2:spN key=-1:=by
        rw [s.sp]
        cases hkk:k.key with
        | special i => exact absurd hkk (hs' i)
        | _ => rfl
       have h3:R2.file.specials=R.file.specials:=by
        by_cases hc:∃ q,k.key=.cls q
        ·obtain ⟨q,hc⟩:=hc
         exact (d.cl q hc).1
        ·exact (d.no hs' fun q e => hc ⟨q,e⟩).1
       rw [h3,hi.sp]
       constructor
       ·rintro ⟨q,hq,hp⟩
        exact ⟨q,.inl hq,hp⟩
       ·rintro ⟨q,hq | rfl,hp⟩
        ·exact ⟨q,hq,hp⟩
        ·omega
     ·simp only [e1,List.mem_append,List.mem_singleton]
      by_cases hc:∃ q,k.key=.cls q
      ·have h1:=s.cl.1 hc
       obtain ⟨q,hc⟩:=hc
       refine ⟨fun _ => ?_,fun _ => (d.cl q hc).2⟩
       rcases h1 with h1 | h1
       ·exact .inl (.inr h1.symm)
       ·exact .inr (.inr h1.symm)
      ·have h1:¬ (key=[80,70,88]∨key=[83,70,88]):=fun e => hc (s.cl.2 e)
       have h3:R2.file.classes=R.file.classes:=by
        by_cases hs:∃ i,k.key=.special i
        ·obtain ⟨i,hs⟩:=hs
         exact (d.sp i hs).2
        ·exact (d.no (fun i e => hs ⟨i,e⟩) fun q e => hc ⟨q,e⟩).2
       rw [h3,hi.cl]
       constructor
       ·rintro (q | q)
        ·exact .inl (.inl q)
        ·exact .inr (.inl q)
       ·rintro ((q | q) | (q | q))
        ·exact .inl q
        ·exact absurd (.inl q.symm) h1
        ·exact .inr q
        ·exact absurd (.inr q.symm) h1
def barK (q:Bs):Prop:=0≤spN q∨q=[65,70]∨q=[80,70,88]∨q=[83,70,88]
theorem kind_bar {R:Rdr} (d:Dv R):(∃ q ∈ R.heads,barK q)↔((∃ x ∈ R.file.specials,x≠0)∨[65,70] ∈ R.heads∨R.file.classes≠[]):=by
 rw [d.sp,d.cl]
 constructor
 ·rintro ⟨q,hq,h | rfl | rfl | rfl⟩
  ·exact .inl ⟨q,hq,h⟩
  ·exact .inr (.inl hq)
  ·exact .inr (.inr (.inl hq))
  ·exact .inr (.inr (.inr hq))
 ·rintro (⟨q,hq,h⟩ | h | h | h)
  ·exact ⟨q,hq,.inl h⟩
  ·exact ⟨_,h,.inr (.inl rfl)⟩
  ·exact ⟨_,h,.inr (.inr (.inl rfl))⟩
  ·exact ⟨_,h,.inr (.inr (.inr rfl))⟩
open RowB
theorem flags_doc {B:Nat} {F:Fil} {P:DPts} {w:World} (h:DFAt B w F P) (s:ByteArray) (hs:s.size≤1048576) :
  Calls Tryz.prog 19 #[ptr P.fb,.string s] w fun e w' => ∃ u,e=.returned (.tuple #[u,.int .i64 (flgE F s.data.toList)])∧So.IRow 0 w' u (flgS F s.data.toList)∧Below w.heap.size w w':=by
 obtain ⟨d0,-,-,-,-,d10,-,-,dz⟩:=h.cells
 by_cases ha:F.aliases=[]
 ·have e1:flgE F s.data.toList=So.rE F.kind s.data.toList:=by unfold flgE;rw [if_pos ha]
  have e2:flgS F s.data.toList=So.rS F.kind s.data.toList:=by unfold flgS;rw [if_pos ha]
  rw [e1,e2]
  have HR:=hide (fun W => So.refReadAll F.kind s W hs)
  obtain ⟨ao,cap,e0,-,-⟩:=own_len h.alis
  rw [e0,show F.aliases.length=0 by rw [ha];rfl] at d10
  clear e1 e2 ha h e0
  generalize P.fb=fb at *
  go_enter Tryz.func19,Tryz.ntmps19
  go_wp2_with (go_at_call 44;refine (unhide HR _).mono ?_;rintro e w3 ⟨u,rfl,f3,b3⟩)
  go_ret2
  exact ⟨u,rfl,f3,b3⟩
 ·have hpos:0 < F.aliases.length:=List.length_pos_iff.2 ha
  have h1024:=h.ok.ali
  obtain ⟨g,cap,e0,hgB,hg,hcap,hmx,-,hcl⟩:=own_at h.alis hpos
  rw [e0] at d10
  have hN0:((F.aliases.length:Int) == 0)=false:=by rw [beq_eq_false_iff_ne];omega
  have HN:=hide (fun W => NumW.ref_any s (F.aliases.length:Int) W (by unfold maxLen;omega) (by omega) (by omega))
  by_cases hq:Num.numE s.data.toList F.aliases.length=0∧flgN F s.data.toList≠0
  ·have e1:flgE F s.data.toList=0:=by unfold flgE;rw [if_neg ha,if_pos hq]
   have e2:flgS F s.data.toList=(F.aliases[flgN F s.data.toList - 1]?).getD []:=by unfold flgS;rw [if_neg ha,if_pos hq]
   obtain ⟨n1,n2⟩:=num_pos hq.1
   have hq1:=hq.1
   have hq2:=hq.2
   unfold flgN at hq2 e2
   rw [hq1,n1] at HN
   rw [e1,e2]
   generalize (Num.numN s.data.toList F.aliases.length).toNat=k at *
   obtain ⟨a,hka⟩:∃ a,F.aliases[k - 1]?=some a:=⟨_,List.getElem?_eq_getElem (by omega)⟩
   obtain ⟨v,hkv⟩:∃ v,P.av[k - 1]?=some v:=⟨_,List.getElem?_eq_getElem (by rw [h.aliF.1];omega)⟩
   have hfn:=h.aliF.2 _ _ _ hkv hka
   have hcv:w.cell? ⟨g,k - 1,none⟩=some v:=(hcl _ (by omega)).trans hkv
   rw [hka,Option.getD_some]
   obtain ⟨ao,cp,rfl,-,-⟩:=hfn.form
   have HF:=hide hfn
   have hk00:((k:Int) == 0)=false:=by rw [beq_eq_false_iff_ne];omega
   have hk0:¬ ((k:Int)=0):=by omega
   have hk1:¬ ((k:Int) - 1 < 0):=by omega
   have hk2:((k:Int) - 1) < (F.aliases.length:Int):=by omega
   have hk3:((k:Int) - 1).toNat=k - 1:=by omega
   have hkb:(k:Int)≤65536:=by omega
   generalize F.aliases.length=N at *
   clear e1 e2 ha h hq hq1 n1 hka hkv hfn hcl e0 d0
   generalize P.fb=fb at *
   go_enter Tryz.func19,Tryz.ntmps19
   go_wp2_with (go_at_call 45;refine (unhide HN _).mono ?_;rintro e w3 ⟨rfl,rfl⟩)
   go_ret2
   exact ⟨_,rfl,unhide HF,Below.refl _ _⟩
  ·have e1:flgE F s.data.toList=13:=by unfold flgE;rw [if_neg ha,if_neg hq]
   have e2:flgS F s.data.toList=[]:=by unfold flgS;rw [if_neg ha,if_neg hq]
   rw [e1,e2]
   have hcs:Hid ((Num.numE s.data.toList F.aliases.length=0∧Num.numN s.data.toList F.aliases.length=0)∨Num.numE s.data.toList F.aliases.length=13):=by
    rcases numE_or s.data.toList F.aliases.length with q | q
    ·obtain ⟨n1,-⟩:=num_pos q
     unfold flgN at hq
     have z:¬ (Num.numN s.data.toList F.aliases.length).toNat≠0:=fun z => hq ⟨q,z⟩
     exact .inl ⟨q,by omega⟩
    ·exact .inr q
   clear e1 e2 ha h hq e0 d0 hcl
   generalize P.fb=fb at *
   rcases unhide hcs with ⟨q1,q2⟩ | q1
   ·rw [q1,q2] at HN
    clear q1 q2 hcs
    generalize F.aliases.length=N at *
    go_enter Tryz.func19,Tryz.ntmps19
    go_wp2_with (go_at_call 45;refine (unhide HN _).mono ?_;rintro e w3 ⟨rfl,rfl⟩)
    go_ret2
    exact ⟨_,rfl,So.IRow.nil _ _,Below.refl _ _⟩
   ·rw [q1] at HN
    clear q1 hcs
    generalize Num.numN s.data.toList F.aliases.length=nn at *
    generalize F.aliases.length=N at *
    go_enter Tryz.func19,Tryz.ntmps19
    go_wp2_with (go_at_call 45;refine (unhide HN _).mono ?_;rintro e w3 ⟨rfl,rfl⟩)
    go_ret2
    exact ⟨_,rfl,So.IRow.nil _ _,Below.refl _ _⟩
theorem kind_ok {F:Fil} (ok:FilOk F) (k:Int) (hk:k=1∨k=2∨k=3):FilOk { F with kind:=k }:=⟨hk,ok.spec,ok.specB,ok.cls,ok.reps,ok.ali,ok.aliS,ok.rul,ok.len⟩
theorem RowIn.get {B:Nat} {w:World} {v:Value} {L:List Bs} (h:RowIn B w v L):∃ g cap,v=.slice (some ⟨g,0,none⟩) L.length cap∧g < B∧(L.length:Int)≤9223372036854775807∧∀ i,i < L.length→w.cell? ⟨g,i,none⟩=some (.string (Fld.str (fld L i))):=by
 obtain ⟨g,cap,e,h1,h2,h3,h4⟩:=h
 refine ⟨g,cap,e,h1,by unfold maxLen at h3;omega,fun i hi => h4 i _ (fld_get hi)⟩
theorem kind_doc {B rb:Nat} {w:World} {R:Rdr} {P:DPts} {v:Value} {A:List (Nat × List Bs)} (h:DAt B w rb R P v A) (hD:Dv R) (hd:List Bs) (hv:Value) (hrow:RowIn B w hv hd) (hlen:hd.length=2) :
  Calls Tryz.prog 62 #[ptr rb,hv] w (DRes B rb v A w (doKind R (fld hd 1))):=by
 obtain ⟨ao,cap,eh,hmx,hcl⟩:=own_strs h.hds
 have HH:=hide h
 have HSP:=hide (fun s W => special_any s W)
 have HBW:Hid (∀ w1,Below w.heap.size w w1→Below B w w1):=fun w1 b => b.mono h.base
 have HCE:Hid (∀ w1,Below w.heap.size w w1→w1.cell? ⟨rb,0,none⟩=some (.pointer (some ⟨P.fb,0,none⟩))∧w1.cell? ⟨rb,4,none⟩=some (.slice ao R.heads.length cap)∧w1.cell? ⟨rb,5,none⟩=some (.int .i64 (R.line:Nat))∧w1.cell? ⟨P.fb,0,none⟩=some (.int .i64 R.file.kind)∧(∀ j,w1.frozen? ⟨P.fb,j,none⟩=false)∧P.fb < w1.heap.size):=fun w1 b => by
  have h1:=h.below b
  obtain ⟨c0,-,-,-,c4,c5,-⟩:=h1.cells
  obtain ⟨k0,-,-,-,-,-,-,-,kz⟩:=h1.file.cells
  exact ⟨c0,by rw [c4,eh],c5,k0,kz,h1.file.lt⟩
 obtain ⟨g,rc,rfl,hg,hgn,hrc⟩:=hrow.get
 have q1:Hid (∀ w1,Below w.heap.size w w1→w1.cell? ⟨g,1,none⟩=some (.string (Fld.str (fld hd 1)))):=fun w1 b => ((b.mono h.base).cell (p:=⟨g,1,none⟩) hg).trans (hrc 1 (by omega))
 have hne:∀ x,x ∈ R.heads.take R.heads.length↔x ∈ R.heads:=fun x => by rw [List.take_length]
 have HBAR:=hide (fun (x:Bs) (hx:x ∈ R.heads) (hb:barK x) => doKind_o (f:=fld hd 1) ((kind_bar hD).1 ⟨x,hx,hb⟩))
 have HNO:Hid ((∀ x ∈ R.heads,¬ barK x)→doKind R (fld hd 1)=if fld hd 1=[115,104,111,114,116] then .ok { R with file:={ R.file with kind:=1 } } else if fld hd 1=[108,111,110,103] then .ok { R with file:={ R.file with kind:=2 } } else if fld hd 1=[110,117,109] then .ok { R with file:={ R.file with kind:=3 } } else .error (R.line,114)):=fun hn => doKind_k (fun q => by
  obtain ⟨x,hx,hb⟩:=(kind_bar hD).2 q
  exact hn x hx hb)
 have HFS:=hide (fun (w1:World) (b:Below w.heap.size w w1) (k:Int) (hk:k=1∨k=2∨k=3) => h.fset b (F':={ R.file with kind:=k }) 0 (.int .i64 k) rfl rfl rfl rfl rfl (kind_ok h.file.ok k hk))
 have e1:(Fld.str (fld hd 1)).data.toList=fld hd 1:=str_toList _
 rw [hlen]
 clear hrow hrc hgn
 obtain ⟨n,hn⟩:∃ n,R.heads.length=n:=⟨_,rfl⟩
 rw [hn] at hmx hne HCE
 have HN:=hide hn
 have HC:=hide hcl
 have HE:=hide hne
 have hrb:=h.lt
 unfold maxLen at hmx
 clear h eh hcl hn hne hD hlen
 obtain ⟨c0,c4,c5,k0,kz,kf⟩:=unhide HCE w (Below.refl _ _)
 clear c0 c5 k0 kz kf
 go_enter Tryz.func62,Tryz.ntmps62
 go_wp2
 go_loopw [5,6] (fun i _ wr => ∃ k:Nat,i=.int .i64 k∧k≤n∧Hid (Below w.heap.size w wr)∧Hid (∀ y ∈ R.heads.take k,¬ barK y)) (fun i _ _ => n - (intOf i).toNat)
 case atStart => exact ⟨0,rfl,Nat.zero_le _,Below.refl _ _,hide (fun y hy => by simp at hy)⟩
 case round =>
  obtain ⟨k,rfl,hk,HB,HT⟩:=hrel
  obtain ⟨c0,c4,c5,k0,kz,kf⟩:=unhide HCE _ (unhide HB)
  by_cases hkn:k < n
  ·have hki:(k:Int) < (n:Int):=by omega
   have hk0:¬ (k:Int) < 0:=by omega
   obtain ⟨x,hx⟩:∃ x,R.heads[k]?=some x:=⟨_,List.getElem?_eq_getElem (by rw [unhide HN];exact hkn)⟩
   obtain ⟨gx,rfl,hgx,hcx⟩:=unhide HC k x hx
   replace hcx:=((unhide HB).cell (p:=⟨gx,k,none⟩) hgx).trans hcx
   unfold strC at hcx
   have HSX:=hide (fun W => unhide HSP (Fld.str x) W)
   have ex:(Fld.str x).data.toList=x:=str_toList x
   rw [ex] at HSX
   have HRX:Hid (barK x→doKind R (fld hd 1)=.error (R.line,113)):=fun hb => unhide HBAR x (List.mem_of_getElem? hx) hb
   have HTX:Hid (¬ barK x→∀ y ∈ R.heads.take (k + 1),¬ barK y):=fun hb => take_none (unhide HT) hx hb
   have hbx:barK x↔(0≤spN x∨x=[65,70]∨x=[80,70,88]∨x=[83,70,88]):=Iff.rfl
   have HBX:=hide hbx
   clear hx hbx
   by_cases s0:0≤spN x
   ·have HX:=hide (unhide HRX ((unhide HBX).2 (.inl s0)))
    clear HBX ex HRX HTX
    generalize spN x=sp at *
    generalize Fld.str x=r1 at *
    go_wp2_with (go_at_call 60;refine (unhide HSX _).mono ?_;rintro e w2 ⟨rfl,rfl⟩)
    go_ret
    exact DRes.no (unhide HX) (unhide HBW _ (unhide HB)) (by decide) rfl c5
   by_cases s1:x=[65,70]
   ·have HX:=hide (unhide HRX ((unhide HBX).2 (.inr (.inl s1))))
    have t1:=lst_t (ex.trans s1)
    clear HBX ex HRX HTX s1
    generalize spN x=sp at *
    generalize Fld.str x=r1 at *
    go_wp2_with (go_at_call 60;refine (unhide HSX _).mono ?_;rintro e w2 ⟨rfl,rfl⟩)
    go_ret
    exact DRes.no (unhide HX) (unhide HBW _ (unhide HB)) (by decide) rfl c5
   by_cases s2:x=[80,70,88]
   ·have HX:=hide (unhide HRX ((unhide HBX).2 (.inr (.inr (.inl s2)))))
    have t1:=lst_f (s:=Fld.str x) (l:=[65,70]) (by rw [ex];exact s1)
    have t2:=lst_t (ex.trans s2)
    clear HBX ex HRX HTX s1 s2
    generalize spN x=sp at *
    generalize Fld.str x=r1 at *
    go_wp2_with (go_at_call 60;refine (unhide HSX _).mono ?_;rintro e w2 ⟨rfl,rfl⟩)
    go_ret
    exact DRes.no (unhide HX) (unhide HBW _ (unhide HB)) (by decide) rfl c5
   by_cases s3:x=[83,70,88]
   ·have HX:=hide (unhide HRX ((unhide HBX).2 (.inr (.inr (.inr s3)))))
    have t1:=lst_f (s:=Fld.str x) (l:=[65,70]) (by rw [ex];exact s1)
    have t2:=lst_f (s:=Fld.str x) (l:=[80,70,88]) (by rw [ex];exact s2)
    have t3:=lst_t (ex.trans s3)
    clear HBX ex HRX HTX s1 s2 s3
    generalize spN x=sp at *
    generalize Fld.str x=r1 at *
    go_wp2_with (go_at_call 60;refine (unhide HSX _).mono ?_;rintro e w2 ⟨rfl,rfl⟩)
    go_ret
    exact DRes.no (unhide HX) (unhide HBW _ (unhide HB)) (by decide) rfl c5
   ·have HT2:=hide (unhide HTX (fun q => by
     rcases (unhide HBX).1 q with q | q | q | q
     ·exact s0 q
     ·exact s1 q
     ·exact s2 q
     ·exact s3 q))
    have t1:=lst_f (s:=Fld.str x) (l:=[65,70]) (by rw [ex];exact s1)
    have t2:=lst_f (s:=Fld.str x) (l:=[80,70,88]) (by rw [ex];exact s2)
    have t3:=lst_f (s:=Fld.str x) (l:=[83,70,88]) (by rw [ex];exact s3)
    clear HBX ex HRX HTX s1 s2 s3
    generalize spN x=sp at *
    generalize Fld.str x=r1 at *
    go_wp2_with (go_at_call 60;refine (unhide HSX _).mono ?_;rintro e w2 ⟨rfl,rfl⟩)
    go_roundw
    case rel => exact ⟨k + 1,by go_num,by omega,HB,HT2⟩
    case measure => simp [intOf];omega
  ·obtain rfl:k=n:=by omega
   have hki:¬ (k:Int) < (k:Int):=by omega
   have HX:=hide (unhide HNO (fun x hx => unhide HT x ((unhide HE x).2 hx)))
   have q1:=unhide q1 _ (unhide HB)
   clear HNO HBAR
   by_cases f1:fld hd 1=[115,104,111,114,116]
   ·have t1:=lst_t (e1.trans f1)
    have HY:=hide ((unhide HX).trans (if_pos f1))
    clear HX e1 f1
    generalize Fld.str (fld hd 1)=r1 at *
    go_wp2
    go_ret
    exact DRes.yes (unhide HY) (unhide HFS _ (unhide HB) 1 (.inl rfl)).2 (unhide HFS _ (unhide HB) 1 (.inl rfl)).1
   by_cases f2:fld hd 1=[108,111,110,103]
   ·have t1:=lst_f (s:=Fld.str (fld hd 1)) (l:=[115,104,111,114,116]) (by rw [e1];exact f1)
    have t2:=lst_t (e1.trans f2)
    have HY:=hide (((unhide HX).trans (if_neg f1)).trans (if_pos f2))
    clear HX e1 f1 f2
    generalize Fld.str (fld hd 1)=r1 at *
    go_wp2
    go_ret
    exact DRes.yes (unhide HY) (unhide HFS _ (unhide HB) 2 (.inr (.inl rfl))).2 (unhide HFS _ (unhide HB) 2 (.inr (.inl rfl))).1
   by_cases f3:fld hd 1=[110,117,109]
   ·have t1:=lst_f (s:=Fld.str (fld hd 1)) (l:=[115,104,111,114,116]) (by rw [e1];exact f1)
    have t2:=lst_f (s:=Fld.str (fld hd 1)) (l:=[108,111,110,103]) (by rw [e1];exact f2)
    have t3:=lst_t (e1.trans f3)
    have HY:=hide ((((unhide HX).trans (if_neg f1)).trans (if_neg f2)).trans (if_pos f3))
    clear HX e1 f1 f2 f3
    generalize Fld.str (fld hd 1)=r1 at *
    go_wp2
    go_ret
    exact DRes.yes (unhide HY) (unhide HFS _ (unhide HB) 3 (.inr (.inr rfl))).2 (unhide HFS _ (unhide HB) 3 (.inr (.inr rfl))).1
   ·have t1:=lst_f (s:=Fld.str (fld hd 1)) (l:=[115,104,111,114,116]) (by rw [e1];exact f1)
    have t2:=lst_f (s:=Fld.str (fld hd 1)) (l:=[108,111,110,103]) (by rw [e1];exact f2)
    have t3:=lst_f (s:=Fld.str (fld hd 1)) (l:=[110,117,109]) (by rw [e1];exact f3)
    have HY:=hide ((((unhide HX).trans (if_neg f1)).trans (if_neg f2)).trans (if_neg f3))
    clear HX e1 f1 f2 f3
    generalize Fld.str (fld hd 1)=r1 at *
    go_wp2
    go_ret
    exact DRes.no (unhide HY) (unhide HBW _ (unhide HB)) (by decide) rfl c5
structure SX (xb:Nat) (w W:World) (r:Rul) (u:Value):Prop where
 low:Below xb w W
 lt:xb < W.heap.size
 blk:W.heap[xb]?=some (.cells (drulC r u).toArray 106 (0,0))
 nxt:So.IRow 0 W u r.next
theorem SX.below {xb:Nat} {w W W':World} {r:Rul} {u:Value} (h:SX xb w W r u) (b:Below W.heap.size W W'):SX xb w W' r u :=
 ⟨h.low.trans (b.mono (Nat.le_of_lt h.lt)),Nat.lt_of_lt_of_le h.lt b.size,(b.block _ h.lt).trans h.blk,irow_kept h.nxt (below_kept b)⟩
theorem SX.set {xb:Nat} {w W:World} {r r':Rul} {u u':Value} (h:SX xb w W r u) (i:Nat) (x:Value) (hc:(drulC r u).toArray.setIfInBounds i x=(drulC r' u').toArray) (hn:So.IRow 0 W u' r'.next):SX xb w (W.setCell ⟨xb,i,none⟩ x) r' u':=by
 have k:Kq [106] noM W (W.setCell ⟨xb,i,none⟩ x):=.kp (kp_set W xb i x) h.blk (by simp)
 refine ⟨h.low.setCell (p:=⟨xb,i,none⟩) (Nat.le_refl _) x,by simp [World.setCell];exact h.lt,by rw [← hc];exact set_heap1 h.blk x,irow_kq hn k (by decide)⟩
theorem SX.cells {xb:Nat} {w W:World} {r:Rul} {u:Value} (h:SX xb w W r u):W.cell? ⟨xb,0,none⟩=some (.int .i64 r.kind)∧W.cell? ⟨xb,3,none⟩=some (.string (Wd.str r.strip))∧W.cell? ⟨xb,4,none⟩=some (.string (Wd.str r.add))∧W.cell? ⟨xb,5,none⟩=some (.string (Wd.str r.cond))∧W.cell? ⟨xb,6,none⟩=some u∧∀ j,W.frozen? ⟨xb,j,none⟩=false:=by
 have h:=h.blk
 refine ⟨?_,?_,?_,?_,?_,fun j => ?_⟩ <;> simp [World.cell?,World.frozen?,h,drulC]
def RRes (xb:Nat) (w:World) (X:Except Er Rul) (e:Ending) (w':World):Prop :=
 Below xb w w'∧match X with
 | .ok r => e=.returned (.int .i64 0)∧∃ u,SX xb w w' r u
 | .error er => e=.returned (.int .i64 (er.2:Nat))∧er.2≠0∧∃ r u,SX xb w w' r u
theorem RRes.yes {xb:Nat} {w w':World} {X:Except Er Rul} {r:Rul} {u:Value} (hX:X=.ok r) (h:SX xb w w' r u):RRes xb w X (.returned (.int .i64 0)) w':=by
 subst hX
 exact ⟨h.low,rfl,u,h⟩
theorem RRes.no {xb:Nat} {w w':World} {X:Except Er Rul} {l c:Nat} {ci:Int} {r:Rul} {u:Value} (hX:X=.error (l,c)) (k:SX xb w w' r u) (h0:c≠0) (hc:ci=(c:Nat)):RRes xb w X (.returned (.int .i64 ci)) w':=by
 subst hX hc
 exact ⟨k.low,rfl,h0,r,u,k⟩
def condX (l:Nat) (r:Rul) (row:List Bs):Except Er Rul:=if row.length=5 then (match condn l (fld row 4) with
 | .error e => .error e
 | .ok k => .ok { r with cond:=k }) else .ok { r with cond:=[46] }
theorem condX_4 {l:Nat} {r:Rul} {row:List Bs} (h:row.length=4):condX l r row=.ok { r with cond:=[46] }:=by unfold condX;rw [if_neg (by omega)]
theorem condX_b {l:Nat} {r:Rul} {row:List Bs} (h:row.length=5) (hb:(fld row 4).all Wd.fit=false):condX l r row=.error (l,21):=by
 unfold condX
 rw [if_pos h,condn_no (e:=(l,21)) (by unfold ckB;rw [VlW.okB_bad hb];rfl)]
theorem ok_B {l:Nat} {f:Bs} (h0:f≠[]) (hb:f.all Wd.fit=true):VlW.okB f=true∧ckB l f=.ok ():=by
 have:VlW.okB f=true:=by
  unfold VlW.okB
  rw [hb]
  cases f with
  | nil => exact absurd rfl h0
  | cons _ _ => rfl
 exact ⟨this,by unfold ckB;rw [if_pos this]⟩
theorem condX_e {l:Nat} {r:Rul} {row:List Bs} (h:row.length=5) (h0:fld row 4≠[]) (hb:(fld row 4).all Wd.fit=true) (he:(Cd.rd (fld row 4)).2≠0):condX l r row=.error (l,(Cd.rd (fld row 4)).2):=by
 unfold condX
 rw [if_pos h,condn_bad (ok_B h0 hb).2 he]
theorem condX_ok {l:Nat} {r:Rul} {row:List Bs} (h:row.length=5) (h0:fld row 4≠[]) (hb:(fld row 4).all Wd.fit=true) (he:(Cd.rd (fld row 4)).2=0):condX l r row=.ok { r with cond:=Cd.sws (Cd.rd (fld row 4)).1 }:=by
 unfold condX
 rw [if_pos h,condn_ok (ok_B h0 hb).2 he]
def rul0 (c:Cls) (l:Nat):Rul:=⟨c.kind,c.flag,c.cross,[],[],[],[],l⟩
structure RH (B xb g cap:Nat) (w0 w:World) (F:Fil) (P:DPts) (l:Nat) (c:Cls) (row:List Bs):Prop where
 file:DFAt B w0 F P
 b0:Below w0.heap.size w0 w
 fresh:w0.heap.size≤xb
 base:B≤w0.heap.size
 sx:SX xb w w (rul0 c l) (.slice none 0 0)
 rowI:RowIn B w (.slice (some ⟨g,0,none⟩) row.length cap) row
 few:∀ f ∈ row,f.length≤65536∧f≠[]
theorem RH.cells {B xb g cap l:Nat} {w0 w:World} {F:Fil} {P:DPts} {c:Cls} {row:List Bs} (h:RH B xb g cap w0 w F P l c row):∀ W,Below xb w W→∀ i,i < row.length→W.cell? ⟨g,i,none⟩=some (.string (Fld.str (fld row i))):=by
 intro W b i hi
 obtain ⟨g',cap',e,hg,-,hc⟩:=(h.rowI.below (b.mono (Nat.le_trans h.base h.fresh))).get
 injection e with e _ _
 injection e with e
 injection e with e _ _
 subst e
 exact hc i hi
theorem RH.flags {B xb g cap l:Nat} {w0 w:World} {F:Fil} {P:DPts} {c:Cls} {row:List Bs} (h:RH B xb g cap w0 w F P l c row):∀ W,Below xb w W→∀ s:ByteArray,s.size≤1048576→Calls Tryz.prog 19 #[ptr P.fb,.string s] W fun e w' => ∃ u,e=.returned (.tuple #[u,.int .i64 (flgE F s.data.toList)])∧So.IRow 0 w' u (flgS F s.data.toList)∧Below W.heap.size W w' :=
 fun _W b s hs => flags_doc (h.file.below (h.b0.trans (b.mono h.fresh))) s hs
theorem RH.cap {B xb g cap l:Nat} {w0 w:World} {F:Fil} {P:DPts} {c:Cls} {row:List Bs} (h:RH B xb g cap w0 w F P l c row):cap≤9223372036854775807:=by
 obtain ⟨g',cap',e,-,-,hm,-⟩:=h.rowI
 injection e with _ _ e
 unfold maxLen at hm
 omega
theorem rule_of {F:Fil} {l:Nat} {c:Cls} {row:List Bs} {s:Bs} {p:Bs × List Int} (hn:row.length=4∨row.length=5) (h1:piece0 l (fld row 2)=.ok s) (h2:added F l c.kind (fld row 3)=.ok p):rule F l c row=condX l ⟨c.kind,c.flag,c.cross,s,p.1,[],p.2,l⟩ row:=by
 unfold rule condX
 rw [if_neg (by omega),h1]
 simp only [h2]
 split <;> rfl
theorem rule_e1 {F:Fil} {l:Nat} {c:Cls} {row:List Bs} {e:Er} (hn:row.length=4∨row.length=5) (h1:piece0 l (fld row 2)=.error e):rule F l c row=.error e:=by
 unfold rule
 rw [if_neg (by omega),h1]
theorem rule_e2 {F:Fil} {l:Nat} {c:Cls} {row:List Bs} {s:Bs} {e:Er} (hn:row.length=4∨row.length=5) (h1:piece0 l (fld row 2)=.ok s) (h2:added F l c.kind (fld row 3)=.error e):rule F l c row=.error e:=by
 unfold rule
 rw [if_neg (by omega),h1]
 simp only [h2]
theorem pc0_ok {l:Nat} {f:Bs} (h:(pcN true f).2=0):piece0 l f=.ok (pcN true f).1:=by
 have:=pc_eq l true f
 rw [if_pos rfl,if_pos h] at this
 exact this
theorem pc0_no {l:Nat} {f:Bs} (h:(pcN true f).2≠0):piece0 l f=.error (l,(pcN true f).2):=by
 have:=pc_eq l true f
 rw [if_pos rfl,if_neg h] at this
 exact this
theorem pc1_ok {l:Nat} {f:Bs} (h:(pcN false f).2=0):piece l f=.ok (pcN false f).1:=by
 have:=pc_eq l false f
 rw [if_neg (by decide),if_pos h] at this
 exact this
theorem pc1_no {l:Nat} {f:Bs} (h:(pcN false f).2≠0):piece l f=.error (l,(pcN false f).2):=by
 have:=pc_eq l false f
 rw [if_neg (by decide),if_neg h] at this
 exact this
def addD (a:Bs):Bs:=if a=[48] then [] else a
theorem added_none {F:Fil} {l:Nat} {k:Int} {f:Bs} (h:Wd.rd [] f=none):added F l k f=.error (l,20):=by unfold added;rw [h]
theorem added_fit {F:Fil} {l:Nat} {k:Int} {f a r:Bs} {c:Bool} (h:Wd.rd [] f=some (a,r,c)) (ha:a≠[48]) (hf:fitN a≠0):added F l k f=.error (l,fitN a):=by
 unfold added
 rw [h]
 simp only [addW,if_neg ha,fit_ck,if_neg hf]
theorem addW_d {l:Nat} {a:Bs} (h:a=[48]∨fitN a=0):addW l a=.ok (addD a):=by
 unfold addW addD
 by_cases ha:a=[48]
 ·rw [if_pos ha,if_pos ha]
 ·rw [if_neg ha,if_neg ha,fit_ck,if_pos (h.resolve_left ha)]
theorem added_cut {F:Fil} {l:Nat} {k:Int} {f a r:Bs} {c:Bool} (h:Wd.rd [] f=some (a,r,c)) (ha:a=[48]∨fitN a=0):added F l k f=if c=false then .ok (addD a,[]) else if k=1 then .error (l,118) else if flgE F r≠0 then .error (l,(flgE F r).toNat) else .ok (addD a,flgS F r):=by
 unfold added
 rw [h]
 simp only [addW_d ha]
end Af
end Go.Proofs.YtmhegbeemgagkaaGreatDoor
