import Derived.Test.YtmhegbeemgagkaaGreatDoorGn34
import Derived.Test.YtmhegbeemgagkaaGreatDoorGn39
set_option maxHeartbeats 8000000
set_option maxRecDepth 100000
namespace Go.Proofs.YtmhegbeemgagkaaGreatDoor
open Go.RowKit
namespace RowR
open FldW RowB

theorem infoRow:(Tryz.prog.info? 101).map (fun i => (i.zero,i.size,i.bytes))=some (some (.agg #[.int .i64 0,.slice none 0 0]),2,32):=by kernel_rfl

theorem rows_push2 {n₀:Nat} {eR:TypeId} {W W1 w1:World} {v v' r:Value} {R:List (Nat × List (List UInt8))} {E:List (Nat × Value)} {k:Nat} {ks:List (List UInt8)} {o:Obj} (he:eR≠9) (hne:eR≠184)
  (hW:Below W.heap.size W W1) (hF:Fits n₀ W E R) (hO:W1.ownsRow n₀ eR 2 v E.length (cellsE E)) (hN:(E.map fun e => e.2.ownBlock).Nodup∧Exact eR E)
  (hr:StrRow W.heap.size W1 r (ks.map Fld.str)) (hn:n₀≤W.heap.size)
  (hown':w1.ownsRow n₀ eR 2 v' (E.length + 1) (cellsE E ++ [.int .i64 (k:Int),r])) (hgrow:(W1.alloc o).grownBy w1 v.ownBlock) :
  RowsAre n₀ eR w1 v' (R ++ [(k,ks)])∧Below n₀ W w1:=by
 have k9:Keep9 W1 w1:=(Keep9.alloc W1 o).trans (Keep9.grown_own (hO.alloc o) he hgrow)
 refine ⟨⟨E ++ [(k,r)],?_,?_,?_⟩,?_⟩
 ·exact Fits.snoc rfl ((hr.mono hn).kept k9) (hF.kept ((Keep9.below hW).trans k9))
 ·rw [cellsE_snoc,List.length_append]
  exact hown'
 ·refine ⟨?_,hN.2.snoc fun h => absurd h hne⟩
  rw [List.map_append]
  refine nodup_snoc hN.1 ?_
  intro hm
  obtain ⟨g2,e2,_,h2⟩:=hF.blocks _ hm
  obtain ⟨g3,cap3,cur3,e3,h3,_⟩:=hr
  rw [e3] at e2
  simp [Value.ownBlock] at e2
  omega
 ·exact ((hW.mono hn).alloc (Nat.le_trans hn hW.size) o).grown hgrow (by have:=hW.size;simp;omega) (fun k e => (hO.lt k e).1)

theorem strs_cell {w:World} {B:Nat} {v:Value} {L:List (List UInt8)} (h:w.ownsRow B 9 1 v L.length (vals L)) (h0:0 < L.length) :
  ∃ g cap,v=.slice (some ⟨g,0,none⟩) L.length cap∧L.length≤cap∧B≤g∧g < w.heap.size∧∀ (j:Nat) f,L[j]?=some f→w.cell? ⟨g,j,none⟩=some (.string (Fld.str f)):=by
 obtain ⟨g,cap,cur,rfl,hg,hh,hc,hm,hz,ht⟩:=strRow_of_owns h (List.length_pos_iff.1 h0)
 rw [List.length_map] at hc ht
 refine ⟨g,cap,by simp,hc,hg,(Array.getElem?_eq_some_iff.1 hh).1,fun j f hf => ?_⟩
 have h1:(cur.toList.take L.length)[j]?=some (.string (Fld.str f)):=by rw [ht];simp [hf]
 have hjl:j < L.length:=(List.getElem?_eq_some_iff.1 hf).1
 rw [List.getElem?_take,if_pos hjl] at h1
 simp only [World.cell?,hh]
 simpa using h1

theorem items_take_succ (L:List (List UInt8)):∀ (k j:Nat) l,L[j]?=some l→(Ln.num k L).take (j + 1)=(Ln.num k L).take j ++ [(k + j,Fld.str l)]:=by
 induction L with
 | nil => intro k j l h;simp at h
 | cons x t ih =>
  intro k j l h
  cases j with
  | zero => simp at h;subst h;simp [Ln.num]
  | succ j =>
   have:=ih (k + 1) j l (by simpa using h)
   simp only [Ln.num,List.take_succ_cons,this]
   simp
   omega

theorem rows_long (s:ByteArray) (w:World) (hs:65536 < (s.size:Int)) :
  Calls Tryz.prog 29 #[.string s] w fun e w' => e=.returned (.tuple #[.slice none 0 0,.int .i64 10])∧w'=w:=by
 go_enter Tryz.func29,Tryz.ntmps29
 go_wp2
 go_ret2
 exact ⟨rfl,rfl⟩

theorem rows_short (s:ByteArray) (w:World) (hs:s.size≤65536) :
  Calls Tryz.prog 29 #[.string s] w fun e w' => ∃ v,e=.returned (.tuple #[v,.int .i64 0])∧RowsAre w.heap.size 101 w' v (Rw.rowsOf s.data.toList)∧Below w.heap.size w w':=by
 have hs2:¬ (65536:Int) < (s.size:Int):=by omega
 obtain ⟨i9,hi9,hz90,hz91,hz92⟩:=info_parts info9
 obtain ⟨i0,hi,hz0,hz1,hz2⟩:=info_parts infoRow
 have HLN:=hide (LnR.lines_any s hs w)
 have hLl:=Ln.linesOf_len s.data.toList
 have hsl:s.data.toList.length=s.size:=by simp
 rw [hsl] at hLl
 clear hsl
 go_enter Tryz.func29,Tryz.ntmps29
 go_wp2_with fail
 refine (unhide HLN).mono ?_
 rintro e wl ⟨vl,rfl,hOl,hBl⟩
 have hvl:∃ al cl,vl=.slice al (Ln.linesOf s.data.toList).length cl:=by
  obtain ⟨_,⟨rfl,h0⟩ | ⟨g,cap,cur,rfl,_⟩⟩:=hOl
  ·exact ⟨none,0,by rw [h0]⟩
  ·exact ⟨_,cap,rfl⟩
 obtain ⟨al,cl,rfl⟩:=hvl
 have HOL:=hide hOl
 have HBL:=hide hBl
 have HRO:Hid (Rw.rowsOf s.data.toList=Rw.rowsP (Ln.num 1 (Ln.linesOf s.data.toList))):=rfl
 have HLE:Hid (∀ l ∈ Ln.linesOf s.data.toList,l.length≤65536):=Ln.linesOf_each s.data.toList (by simpa using hs)
 clear hOl hBl HLN
 generalize Ln.linesOf s.data.toList=L at *
 generalize hzz:L.length=z at *
 have HZ:=hide hzz
 clear hzz
 go_wp2
 go_loopw [4,6] (fun out i wr => ∃ k:Nat,k≤z∧i=.int .i64 k∧RowsAre wl.heap.size 101 wr out (Rw.rowsP ((Ln.num 1 L).take k))∧Below wl.heap.size wl wr) (fun _ i _ => z - (intOf i).toNat)
 case atStart => exact ⟨0,Nat.zero_le _,rfl,⟨[],trivial,World.ownsRow_nil _ _ _ _,by simp,Exact.nil _⟩,Below.refl _ _⟩
 case round =>
  obtain ⟨k,hk,rfl,⟨E,hF,hO,hN⟩,hB⟩:=hrel
  by_cases hlt:k < z
  ·obtain ⟨ln,hln⟩:∃ ln,L[k]?=some ln:=⟨_,List.getElem?_eq_getElem (by rw [unhide HZ];exact hlt)⟩
   have hlnl:ln.length≤65536:=unhide HLE ln (List.mem_of_getElem? hln)
   have hsz:(Fld.str ln).size * 16≤140737488355328:=by
    have:(Fld.str ln).size=ln.length:=by show ln.toArray.size=ln.length;simp
    omega
   have hOl:=unhide HOL
   rw [← unhide HZ] at hOl
   obtain ⟨gl,cl2,e2,hc2,_,hgl,hcell⟩:=strs_cell hOl (by rw [unhide HZ];omega)
   rw [unhide HZ] at hc2
   injection e2 with e3 e4 e5
   subst e3
   subst e5
   have hck:wr.cell? ⟨gl,k,none⟩=some (.string (Fld.str ln)):=(hB.cell (p:=⟨gl,k,none⟩) hgl).trans (hcell k ln hln)
   have hfd:=fun wq => ref_fields_any (Fld.str ln) wq hsz
   rw [Rw.str_data] at hfd
   have HFD:=hide hfd
   have HTS:=hide (items_take_succ L 1 k ln hln)
   have HNE:=hide (Rw.fields_ne ln)
   have hfl:=Fld.fieldsOf_len ln
   have hEl:E.length≤65536:=by
    rw [hF.length]
    have h1:=Rw.rowsP_len ((Ln.num 1 L).take k)
    have h2:((Ln.num 1 L).take k).length≤k:=List.length_take_le _ _
    omega
   have hRS:Rw.rowsP ((Ln.num 1 L).take (k + 1))=Rw.rowsP ((Ln.num 1 L).take k) ++ Rw.rowOf (k + 1) ln:=by
    rw [unhide HTS,Rw.rowsP_snoc,Rw.str_data,Nat.add_comm 1 k]
   have HRS:=hide hRS
   clear hRS hfd hcell hln hsz HTS hOl e4
   go_wp2_with (go_at_call 57;refine (unhide HFD _).mono ?_;rintro e W1 ⟨vf,rfl,hOf,hBf⟩)
   have hvf:∃ af cf,vf=.slice af (Fld.fieldsOf ln).length cf∧(Fld.fieldsOf ln).length≤cf:=by
    obtain ⟨_,⟨rfl,h0⟩ | ⟨g,cap,cur,rfl,_,_,hc,_⟩⟩:=hOf
    ·exact ⟨none,0,by rw [h0],by omega⟩
    ·exact ⟨_,cap,rfl,hc⟩
   obtain ⟨af,cf,rfl,hcf⟩:=hvf
   have hkk:=Rw.keep_le (Fld.fieldsOf ln)
   have HLT:=hide (Rw.keep_lt_of (Fld.fieldsOf ln))
   have HEND:=hide (Rw.keep_end (Fld.fieldsOf ln))
   have HKT:=hide (Rw.keep_take (Fld.fieldsOf ln))
   have HRW:Hid (Rw.rowOf (k + 1) ln=if (Rw.keep (Fld.fieldsOf ln)).isEmpty then [] else [(k + 1,Rw.keep (Fld.fieldsOf ln))]):=rfl
   have HOF:=hide hOf
   generalize Fld.fieldsOf ln=fs at *
   generalize hfz:fs.length=fz at *
   have HFZ:=hide hfz
   generalize hkz:(Rw.keep fs).length=kz at *
   have HKZ:=hide hkz
   obtain ⟨w2,rfl⟩:∃ w2,w2=wr:=⟨wr,rfl⟩
   clear hfz hkz hOf
   go_wp2
   go_loopw [7,9] (fun kept j wr => ∃ q:Nat,q≤kz∧j=.int .i64 q∧wr.ownsRow W1.heap.size 9 1 kept q (vals (fs.take q))∧Below W1.heap.size W1 wr) (fun _ j _ => fz - (intOf j).toNat)
   case atStart => exact ⟨0,Nat.zero_le _,rfl,World.ownsRow_nil _ _ _ _,Below.refl _ _⟩
   case round =>
    obtain ⟨q,hq,rfl,hOk,hBk⟩:=hrel
    by_cases hqz:q < fz
    ·obtain ⟨f,hf⟩:∃ f,fs[q]?=some f:=⟨_,List.getElem?_eq_getElem (by rw [unhide HFZ];exact hqz)⟩
     have hOf:=unhide HOF
     rw [← unhide HFZ] at hOf
     obtain ⟨gf,cf2,e2,_,_,hgf,hcell⟩:=strs_cell hOf (by rw [unhide HFZ];omega)
     injection e2 with e3 e4 e5
     subst e3
     subst e5
     have hcq:wr.cell? ⟨gf,q,none⟩=some (.string (Fld.str f)):=(hBk.cell (p:=⟨gf,q,none⟩) hgf).trans (hcell q f hf)
     obtain ⟨c,t,hct⟩:∃ c t,f=c :: t:=by
      cases f with
      | nil => exact absurd rfl (unhide HNE [] (List.mem_of_getElem? hf))
      | cons c t => exact ⟨c,t,rfl⟩
     have hF0:0 < (Fld.str f).size:=by subst hct;show 0 < (c :: t).toArray.size;simp
     have hFc:(Fld.str f)[0]'hF0=c:=by subst hct;rfl
     have hrm:=Rw.rem_head f c t hct
     cases hr:Rw.rem f with
     | false =>
      have hq2:=unhide HLT q hq f hf hr
      have hcb:((((Fld.str f)[0]'hF0).toNat:Int) != 35)=true:=by
       rw [hFc]
       have hc35:¬ c=35:=by rw [hr] at hrm;simpa using hrm.symm
       rw [bne,show ((c.toNat:Int) == 35)=false from Ln.byte_ne _ 35 hc35]
       rfl
      have HTK:Hid (fs.take (q + 1)=fs.take q ++ [f]):=by
       show fs.take (q + 1)=fs.take q ++ [f]
       have hl:q < fs.length:=by rw [unhide HFZ];exact hqz
       rw [List.take_succ_eq_append_getElem hl]
       rw [List.getElem?_eq_getElem hl] at hf
       rw [Option.some.inj hf]
      generalize hFF:Fld.str f=F at *
      have HFF:=hide hFF
      clear hFF hFc hrm hr hct hcell hOf e4 hf
      have hq64:q≤65536:=by omega
      go_wp2_with (at_builtin;refine wpList_append_own _ rfl _ _ 88 rfl W1.heap.size 9 i9 (.string ByteArray.empty) 1 16 Tryz.underlying88 hi9 hz90 hz91 hz92 rfl (by decide) _ _ _ rfl (hOk.alloc _) ⟨wr.heap.size,0,none⟩ 1 1 [.string F] rfl rfl (cell_one_new _ _ _) (fun x hx => by simp at hx;subst hx;rfl) (by unfold maxLen;omega) (by omega) (by have:=hBk.size;simp;omega) ?_;intro v' w1 hown' hgrow hnil;clear hnil)
      have HB1:Hid (Below W1.heap.size W1 w1):=(hBk.alloc hBk.size _).grown hgrow (by have:=hBk.size;simp;omega) (fun k e => (hOk.lt k e).1)
      have HO1:Hid (w1.ownsRow W1.heap.size 9 1 v' (q + 1) (vals (fs.take (q + 1)))):=by
       show w1.ownsRow W1.heap.size 9 1 v' (q + 1) (vals (fs.take (q + 1)))
       rw [unhide HTK,vals_snoc,unhide HFF]
       exact hown'
      clear hown' hgrow hOk hBk
      go_roundw
      case rel => exact ⟨q + 1,by omega,by go_num,unhide HO1,unhide HB1⟩
      case measure => simp [intOf];omega
     | true =>
      have hqk:=unhide HEND q hq f hf hr
      have hcb:((((Fld.str f)[0]'hF0).toNat:Int) != 35)=false:=by
       rw [hFc]
       have hc35:c=35:=by rw [hr] at hrm;simpa using hrm.symm
       rw [bne,show ((c.toNat:Int) == 35)=true from Ln.byte_eq _ 35 hc35]
       rfl
      generalize Fld.str f=F at *
      clear hFc hrm hr hct hcell hOf e4 hf
      have hBw:Below w2.heap.size w2 wr:=hBf.trans (hBk.mono hBf.size)
      have HQK:=hide hqk
      clear hqk
      have hO1:=Same.owns_below hO hBw
      have HKE:Hid (fs.take q=Rw.keep fs):=by show fs.take q=Rw.keep fs;rw [unhide HKT,unhide HQK]
      obtain ⟨ak,ck,rfl⟩:∃ ak ck,u7=.slice ak q ck:=by
       obtain ⟨_,⟨rfl,h0⟩ | ⟨g,cap,cur,rfl,_⟩⟩:=hOk
       ·exact ⟨none,0,by rw [h0]⟩
       ·exact ⟨_,cap,rfl⟩
      by_cases hk0:q=0
      ·have HRE:Hid (Rw.rowsP ((Ln.num 1 L).take (k + 1))=Rw.rowsP ((Ln.num 1 L).take k)):=by
        show Rw.rowsP ((Ln.num 1 L).take (k + 1))=Rw.rowsP ((Ln.num 1 L).take k)
        have:Rw.keep fs=[]:=List.eq_nil_of_length_eq_zero (by rw [unhide HKZ];have:=unhide HQK;omega)
        rw [unhide HRS,unhide HRW,this]
        simp
       subst hk0
       rw [show ((0:Nat):Int)=0 from rfl]
       go_wp2
       go_roundw
       case rel => exact ⟨k + 1,by omega,by go_num,by rw [unhide HRE];exact RowsAre.below ⟨E,hF,hO,hN⟩ hBw,hB.trans (hBw.mono hB.size)⟩
       case measure => simp [intOf];omega
      ·have HRE:Hid (Rw.rowsP ((Ln.num 1 L).take (k + 1))=Rw.rowsP ((Ln.num 1 L).take k) ++ [(k + 1,Rw.keep fs)]):=by
        show Rw.rowsP ((Ln.num 1 L).take (k + 1))=Rw.rowsP ((Ln.num 1 L).take k) ++ [(k + 1,Rw.keep fs)]
        have hne:¬ (Rw.keep fs).isEmpty=true:=by
         intro h
         have:Rw.keep fs=[]:=by simpa using h
         have h2:=unhide HKZ
         have h3:=unhide HQK
         rw [this] at h2
         simp at h2
         omega
        rw [unhide HRS,unhide HRW,if_neg hne]
       have hkpos:0 < q:=by omega
       have hSR:StrRow w2.heap.size wr (.slice ak q ck) ((Rw.keep fs).map Fld.str):=by
        have h1:wr.ownsRow W1.heap.size 9 1 (.slice ak q ck) (Rw.keep fs).length (vals (Rw.keep fs)):=by
         rw [unhide HKZ,← unhide HQK,← unhide HKE];exact hOk
        exact (strRow_of_owns h1 (fun e => by have h2:=unhide HKZ;have h3:=unhide HQK;rw [e] at h2;simp at h2;omega)).mono hBf.size
       have HPU:=hide (fun (v':Value) (w1:World) (o:Obj) => @rows_push2 wl.heap.size 101 w2 wr w1 u4 v' _ _ E (k + 1) _ o (by decide) (by decide) hBw hF hO1 hN hSR hB.size)
       clear hSR hk0 hOk
       go_wp2_with (at_builtin;refine wpList_append_own _ rfl _ _ 85 rfl wl.heap.size 101 i0 (.agg #[.int .i64 0,.slice none 0 0]) 2 32 Tryz.underlying85 hi hz0 hz1 hz2 rfl (by decide) _ _ _ rfl (hO1.alloc _) ⟨wr.heap.size,0,none⟩ 1 1 [.int .i64 ((k:Int) + 1),.slice ak q ck] rfl rfl (cell_two_new _ _ _ _) (by simp [Value.oneCell']) (by unfold maxLen;omega) (by omega) (by have:=hB.size;have:=hBw.size;simp;omega) ?_;intro v' w1 hown' hgrow hnil;clear hnil)
       obtain ⟨hra,hba⟩:=unhide HPU _ _ _ hown' hgrow
       have HRA:=hide hra
       have HBA:=hide hba
       clear hra hba hown' hgrow
       go_wp2
       go_roundw
       case rel => exact ⟨k + 1,by omega,by go_num,by rw [unhide HRE];exact unhide HRA,hB.trans (unhide HBA)⟩
       case measure => simp [intOf];omega
    ·have hqk:q=kz:=by omega
     have hnq:¬ ((q:Int) < (fz:Int)):=by omega
     have hBw:Below w2.heap.size w2 wr:=hBf.trans (hBk.mono hBf.size)
     have HQK:=hide hqk
     clear hqk
     have hO1:=Same.owns_below hO hBw
     have HKE:Hid (fs.take q=Rw.keep fs):=by show fs.take q=Rw.keep fs;rw [unhide HKT,unhide HQK]
     obtain ⟨ak,ck,rfl⟩:∃ ak ck,u7=.slice ak q ck:=by
      obtain ⟨_,⟨rfl,h0⟩ | ⟨g,cap,cur,rfl,_⟩⟩:=hOk
      ·exact ⟨none,0,by rw [h0]⟩
      ·exact ⟨_,cap,rfl⟩
     by_cases hk0:q=0
     ·have HRE:Hid (Rw.rowsP ((Ln.num 1 L).take (k + 1))=Rw.rowsP ((Ln.num 1 L).take k)):=by
       show Rw.rowsP ((Ln.num 1 L).take (k + 1))=Rw.rowsP ((Ln.num 1 L).take k)
       have:Rw.keep fs=[]:=List.eq_nil_of_length_eq_zero (by rw [unhide HKZ];have:=unhide HQK;omega)
       rw [unhide HRS,unhide HRW,this]
       simp
      subst hk0
      rw [show ((0:Nat):Int)=0 from rfl]
      go_wp2
      go_roundw
      case rel => exact ⟨k + 1,by omega,by go_num,by rw [unhide HRE];exact RowsAre.below ⟨E,hF,hO,hN⟩ hBw,hB.trans (hBw.mono hB.size)⟩
      case measure => simp [intOf];omega
     ·have HRE:Hid (Rw.rowsP ((Ln.num 1 L).take (k + 1))=Rw.rowsP ((Ln.num 1 L).take k) ++ [(k + 1,Rw.keep fs)]):=by
       show Rw.rowsP ((Ln.num 1 L).take (k + 1))=Rw.rowsP ((Ln.num 1 L).take k) ++ [(k + 1,Rw.keep fs)]
       have hne:¬ (Rw.keep fs).isEmpty=true:=by
        intro h
        have:Rw.keep fs=[]:=by simpa using h
        have h2:=unhide HKZ
        have h3:=unhide HQK
        rw [this] at h2
        simp at h2
        omega
       rw [unhide HRS,unhide HRW,if_neg hne]
      have hkpos:0 < q:=by omega
      have hSR:StrRow w2.heap.size wr (.slice ak q ck) ((Rw.keep fs).map Fld.str):=by
       have h1:wr.ownsRow W1.heap.size 9 1 (.slice ak q ck) (Rw.keep fs).length (vals (Rw.keep fs)):=by
        rw [unhide HKZ,← unhide HQK,← unhide HKE];exact hOk
       exact (strRow_of_owns h1 (fun e => by have h2:=unhide HKZ;have h3:=unhide HQK;rw [e] at h2;simp at h2;omega)).mono hBf.size
      have HPU:=hide (fun (v':Value) (w1:World) (o:Obj) => @rows_push2 wl.heap.size 101 w2 wr w1 u4 v' _ _ E (k + 1) _ o (by decide) (by decide) hBw hF hO1 hN hSR hB.size)
      clear hSR hk0 hOk
      go_wp2_with (at_builtin;refine wpList_append_own _ rfl _ _ 85 rfl wl.heap.size 101 i0 (.agg #[.int .i64 0,.slice none 0 0]) 2 32 Tryz.underlying85 hi hz0 hz1 hz2 rfl (by decide) _ _ _ rfl (hO1.alloc _) ⟨wr.heap.size,0,none⟩ 1 1 [.int .i64 ((k:Int) + 1),.slice ak q ck] rfl rfl (cell_two_new _ _ _ _) (by simp [Value.oneCell']) (by unfold maxLen;omega) (by omega) (by have:=hB.size;have:=hBw.size;simp;omega) ?_;intro v' w1 hown' hgrow hnil;clear hnil)
      obtain ⟨hra,hba⟩:=unhide HPU _ _ _ hown' hgrow
      have HRA:=hide hra
      have HBA:=hide hba
      clear hra hba hown' hgrow
      go_wp2
      go_roundw
      case rel => exact ⟨k + 1,by omega,by go_num,by rw [unhide HRE];exact unhide HRA,hB.trans (unhide HBA)⟩
      case measure => simp [intOf];omega
  ·have hnl:¬ ((k:Int) < (z:Int)):=by omega
   have HFU:Hid ((Ln.num 1 L).take k=Ln.num 1 L):=List.take_of_length_le (by rw [Ln.num_length,unhide HZ];omega)
   go_wp2
   go_ret2
   exact ⟨_,rfl,⟨E,by rw [unhide HRO,← unhide HFU];exact hF.low (unhide HBL).size,owns_low hO (unhide HBL).size,hN⟩,(unhide HBL).trans (hB.mono (unhide HBL).size)⟩
end RowR
namespace Af
open RowB
theorem btr' {a b c:World} (h:Below a.heap.size a b) (k:Below b.heap.size b c):Below a.heap.size a c:=h.trans (k.mono h.size)
theorem heading_of {R:Rdr} {l:Nat} {hd:List Bs} {k:Kw} (hk:kwOf (fld hd 0)=some k) (hl:hd.length=k.fields) (ha:¬ (k.again=false∧fld hd 0 ∈ R.heads)):heading R l hd=match doKey { R with line:=l } hd k.key with
  | .error e => .error e
  | .ok R' => .ok { R' with heads:=R'.heads ++ [fld hd 0] }:=by
 unfold heading
 rw [hk]
 simp only [hl,ne_eq,not_true_eq_false,if_false]
 rw [if_neg ha]
 rfl
theorem heading_n0 {R:Rdr} {l:Nat} {hd:List Bs} (hk:kwOf (fld hd 0)=none):heading R l hd=.error (l,110):=by unfold heading;rw [hk]
theorem heading_l0 {R:Rdr} {l:Nat} {hd:List Bs} {k:Kw} (hk:kwOf (fld hd 0)=some k) (hl:hd.length≠k.fields):heading R l hd=.error (l,111):=by
 unfold heading
 rw [hk]
 simp only [if_pos hl]
theorem heading_twice {R:Rdr} {l:Nat} {hd:List Bs} {k:Kw} (hk:kwOf (fld hd 0)=some k) (hl:hd.length=k.fields) (ha:k.again=false∧fld hd 0 ∈ R.heads):heading R l hd=.error (l,112):=by
 unfold heading
 rw [hk]
 simp only [hl,ne_eq,not_true_eq_false,if_false]
 rw [if_pos ha]
theorem kw_fields {s:Bs} {k:Kw} (h:kwOf s=some k):(k.fields=2∧k.again=false)∨(k.fields=4∧k.again=true):=by
 have hm:=kw_mem h
 simp only [kws,List.mem_cons,Prod.mk.injEq,List.not_mem_nil,or_false] at hm
 rcases hm with ⟨-,rfl⟩ | ⟨-,rfl⟩ | ⟨-,rfl⟩ | ⟨-,rfl⟩ | ⟨-,rfl⟩ | ⟨-,rfl⟩ | ⟨-,rfl⟩ | ⟨-,rfl⟩ | ⟨-,rfl⟩ | ⟨-,rfl⟩ | ⟨-,rfl⟩ | ⟨-,rfl⟩ | ⟨-,rfl⟩ <;> first | exact .inl ⟨rfl,rfl⟩ | exact .inr ⟨rfl,rfl⟩
theorem wid_none {s:Bs} (h:kwOf s=none):widN s=0:=by rw [wid_kw,h]
theorem wid_some {s:Bs} {k:Kw} (h:kwOf s=some k):widN s=k.fields:=by rw [wid_kw,h]
def posAt (rb:Nat) (W:World):Nat:=(intOf ((W.cell? ⟨rb,2,none⟩).getD (.int .i64 0))).toNat
theorem pos_at {B rb:Nat} {W:World} {R:Rdr} {P:DPts} {v:Value} {A:List (Nat × List Bs)} (h:DAt B W rb R P v A):posAt rb W=P.pos:=by
 unfold posAt
 rw [h.cells.2.2.1]
 simp [intOf]
theorem pos_len {B rb:Nat} {W:World} {R:Rdr} {P:DPts} {v:Value} {A:List (Nat × List Bs)} (h:DAt B W rb R P v A):P.pos + R.rows.length=A.length:=by
 rw [← h.pos.2,List.length_drop]
 have:=h.pos.1
 omega
structure HSt (B rb:Nat) (w W:World) (l:Bs) (v:Value) (A:List (Nat × List Bs)) (R:Rdr) (P:DPts) (m:Nat):Prop where
 at_:DAt B W rb R P v A
 inv:Inv R
 dv:Dv R
 hds:heads A.length (start l)=heads m R
 few:R.rows.length≤m
 low:Below w.heap.size w W
def P00 (fb:Nat):DPts:=⟨fb,0,.slice none 0 0,.slice none 0 0,.slice none 0 0,.slice none 0 0,.slice none 0 0,[],[]⟩
theorem dat_start {w2:World} {l:Bs} {v:Value} (hl:l.length≤65536) (h:RowsIn w2.heap.size w2 v (Rw.rowsOf l)) :
  DAt w2.heap.size ((w2.alloc (.cells (dfilC (start l).file (P00 w2.heap.size)) 97)).alloc (.cells (drdrC (start l) (P00 w2.heap.size) v) 99)) (w2.heap.size + 1) (start l) (P00 w2.heap.size) v (Rw.rowsOf l):=by
 have b:Below w2.heap.size w2 ((w2.alloc (.cells (dfilC (start l).file (P00 w2.heap.size)) 97)).alloc (.cells (drdrC (start l) (P00 w2.heap.size) v) 99)):=((Below.refl _ w2).alloc (Nat.le_refl _) _).alloc (by simp) _
 have e1:(w2.alloc (.cells (dfilC (start l).file (P00 w2.heap.size)) 97)).heap.size=w2.heap.size + 1:=by simp
 have h1:=alloc_new (w2.alloc (.cells (dfilC (start l).file (P00 w2.heap.size)) 97)) (.cells (drdrC (start l) (P00 w2.heap.size) v) 99)
 rw [e1] at h1
 have h0:=alloc_heap1 (alloc_new w2 (.cells (dfilC (start l).file (P00 w2.heap.size)) 97)) (.cells (drdrC (start l) (P00 w2.heap.size) v) 99)
 have hll:=Ln.linesOf_len l
 refine ⟨Nat.le_succ _,h1,h.below b,⟨Nat.zero_le _,rfl⟩,World.ownsRow_nil _ _ _ _,⟨Nat.le_refl _,h0,World.ownsRow_nil _ _ _ _,World.ownsRow_nil _ _ _ _,⟨rfl,fun i v a h => by simp [P00] at h⟩,World.ownsRow_nil _ _ _ _,World.ownsRow_nil _ _ _ _,⟨rfl,fun i v a h => by simp [P00] at h⟩,?_⟩,⟨by simp [start],?_,by simp [start]⟩,rows_ok l hl,rows_ne l⟩
 ·exact ⟨.inl rfl,rfl,by simp [start],by simp [start],by simp [start],by simp [start],by simp [start],by simp [start],by simp [start]⟩
 ·show (Ln.linesOf l).length + 1≤65537
  omega
theorem affDoc_any (s:ByteArray) (w:World) (hsz:s.size≤140737488355328) :
  Calls Tryz.prog 10 #[.string s] w (DFRes w (affR s.data.toList)):=by
 have hdl:s.data.toList.length=s.size:=by simp
 by_cases hs:65536 < s.size
 ·have HX:Hid (affR s.data.toList=.error (0,10)):=if_pos (by omega)
  have HR:=hide (RowR.rows_long s w (by omega))
  clear hdl hs
  go_enter Tryz.func10,Tryz.ntmps10
  go_wp2_with fail
  refine (unhide HR).mono ?_
  rintro e w1 ⟨rfl,hw1⟩
  obtain rfl:=hw1.symm
  go_wp2_with fail
  go_ret3
  exact DFRes.no (l:=0) (unhide HX) (Below.refl _ _) rfl (by decide)
 have hs2:s.size≤65536:=by omega
 have hl:s.data.toList.length≤65536:=by omega
 have HX:=hide (affR_short (l:=s.data.toList) (by omega))
 have HR:=hide (RowR.rows_short s w hs2)
 have HLN:=hide (fun W => LnR.lines_any s hs2 W)
 have hfew:(Rw.rowsOf s.data.toList).length≤65536:=Nat.le_trans (rows_few _) hl
 obtain ⟨hinv,-,-⟩:=start_inv hl
 have HINV:=hide hinv
 have HDV:=hide (start_dv s.data.toList)
 have HFEW:=hide hfew
 have HL:=hide hl
 clear hdl hs hs2 hl hinv hsz
 go_enter Tryz.func10,Tryz.ntmps10
 go_wp2_with fail
 refine (unhide HR).mono ?_
 rintro e w1 ⟨v,rfl,hR,b1⟩
 have HRW:=hide (rowsIn_of hR hfew)
 have HB1:=hide b1
 clear hR b1
 go_wp2_with fail
 refine (unhide HLN _).mono ?_
 rintro e w2 ⟨vl,rfl,ol,b2⟩
 obtain ⟨al,cl,rfl,hal,-⟩:=own_len ol
 have HRI:=hide ((unhide HRW).below b2)
 have HB2:=hide (btr (unhide HB1) b2)
 have HRI2:Hid (RowsIn w2.heap.size w2 v (Rw.rowsOf s.data.toList)):=by
  obtain ⟨ao,cap,e,h1,h2⟩:=unhide HRI
  refine ⟨ao,cap,e,h1,fun j l fs hj => ?_⟩
  obtain ⟨g,fv,e1,q1,q2,q3,g',c',q4,q5,q6⟩:=h2 j l fs hj
  exact ⟨g,fv,e1,Nat.lt_of_lt_of_le q1 b2.size,q2,q3,g',c',q4,Nat.lt_of_lt_of_le q5 b2.size,q6⟩
 have HST:=hide (dat_start (unhide HL) (unhide HRI2))
 obtain ⟨ao,cap,ev,-,-⟩:=id (unhide HRI2)
 subst ev
 have hll:=Ln.linesOf_len s.data.toList
 have hl5:=unhide HL
 have hlm:((Ln.linesOf s.data.toList).length:Int) + 1≤9223372036854775807:=by omega
 clear ol b2 hal hll hl5
 go_wp2_with fail
 rename_i K hK
 have HK:=hide hK
 clear hK
 have HB0:Hid (Below w.heap.size w ((w2.alloc (.cells #[.int .i64 1,.string ⟨#[]⟩,.string ⟨#[]⟩,.int .i64 0,.int .i64 0,.int .i64 0,.int .i64 0,.int .i64 0,.int .i64 3,.slice none 0 0,.slice none 0 0,.slice none 0 0,.slice none 0 0] 97)).alloc (.cells #[.pointer (some ⟨w2.heap.size,0,none⟩),.slice ao (Rw.rowsOf s.data.toList).length cap,.int .i64 0,.int .i64 (((Ln.linesOf s.data.toList).length:Int) + 1),.slice none 0 0,.int .i64 0] 99))):=((unhide HB2).alloc (unhide HB2).size _).alloc (by have:=(unhide HB2).size;simp;omega) _
 generalize hW0:((w2.alloc (.cells #[.int .i64 1,.string ⟨#[]⟩,.string ⟨#[]⟩,.int .i64 0,.int .i64 0,.int .i64 0,.int .i64 0,.int .i64 0,.int .i64 3,.slice none 0 0,.slice none 0 0,.slice none 0 0,.slice none 0 0] 97)).alloc (.cells #[.pointer (some ⟨w2.heap.size,0,none⟩),.slice ao (Rw.rowsOf s.data.toList).length cap,.int .i64 0,.int .i64 (((Ln.linesOf s.data.toList).length:Int) + 1),.slice none 0 0,.int .i64 0] 99))=W0 at *
 have h0:DAt w2.heap.size W0 (w2.heap.size + 1) (start s.data.toList) (P00 w2.heap.size) (.slice ao (Rw.rowsOf s.data.toList).length cap) (Rw.rowsOf s.data.toList):=by
  rw [← hW0]
  exact unhide HST
 have HBB:Hid (w.heap.size≤w2.heap.size):=(unhide HB2).size
 clear hW0 HST
 generalize w2.heap.size=B at *
 have HS0:Hid (∃ Rj Pj m,HSt B (B + 1) w W0 s.data.toList (.slice ao (Rw.rowsOf s.data.toList).length cap) (Rw.rowsOf s.data.toList) Rj Pj m):=⟨_,_,(Rw.rowsOf s.data.toList).length,h0,unhide HINV,unhide HDV,rfl,Nat.le_refl _,unhide HB0⟩
 generalize Rw.rowsOf s.data.toList=A at *
 clear h0 HRI2 HRI HRW HB0 HINV HDV HB1 HB2 hlm
 obtain ⟨rb,hrb⟩:∃ rb,B + 1=rb:=⟨_,rfl⟩
 rw [hrb] at HS0 ⊢
 clear hrb
 generalize hL0:s.data.toList=L0 at *
 clear hL0
 go_loopw [6,9,10,11] (fun _ _ _ _ wr => Hid (∃ Rj Pj m,HSt B rb w wr L0 (.slice ao A.length cap) A Rj Pj m)) (fun _ _ _ _ wr => A.length - posAt rb wr)
 case atStart => exact HS0
 case round =>
  obtain ⟨Rj,Pj,m,hS⟩:=unhide hrel
  have HS:=hide hS
  have hA:=hS.at_
  have HA:=hide hA
  have hrb:=hA.lt
  obtain ⟨d0,d1,d2,d3,d4,d5,df⟩:=hA.cells
  clear HS0 hS hrel
  rcases hR:Rj.rows with _ | ⟨⟨l,row⟩,t⟩
  ·obtain ⟨ep,ao',cap',ev,hA6⟩:=hA.last hR
   rw [ep] at d2
   have HXE:=hide ((unhide HX).trans (congrArg affEnd ((unhide HS).hds.trans (heads_nil hR))))
   have hge:decide (A.length < A.length)=false:=by rw [decide_eq_false_iff_not];omega
   clear hA ev hR d0 d4
   go_wp2_with fail
   apply unhide HK
   exact rtail_wp (unhide HA) (unhide HS).low (unhide HBB) (unhide HXE) _ _ _ _ _ _ _ _ _ _ _ _ _ _ _ _ _ _ _ _ _ _ _ _ _ _ _ _ _ _ _ _ _ _ _ _ _ _ _ _ _ _ _ _ _ _ _ _ _ _ _ _ _ _ _ _ _ _ _ _ _ _ _ _ _ _ _ _ _ _ _ _ _ _ _ _ _ _ _ _ _ _ _ _ _ _ _ _ _ _ _ _ _ _ _ _ _ _ _ _ _ _ _ _ _ _ _ _ _ _ _ _ _ _ _ _ _ _ _ _ _ _ _ _ _ _ _ _ _ _ _ _ _ _ _ _ _ _ _ _ _ _ _ _ _ _ _ _ _ _ _ _ _ _ _ _ _ _ _ _ _ _ _ _ _ _ _ _ _ _ _ _ _ _ _ _ _ _ _ _ _ _ _ _ _ _ _ _ _ _ _
  ·obtain ⟨gr,cap',fv,ev,hAl,hpl,hgrB,r0,r1,hrI,hrn,hrf⟩:=hA.row hR
   injection ev with ev1 ev2 ev3
   subst ev1 ev3
   rw [Nat.mul_comm] at r0 r1
   have HRI:=hide hrI
   obtain ⟨gf,cf,rfl,hgf,hfn,hfc⟩:=hrI.get
   have hpi:(Pj.pos:Int) < (A.length:Int):=by omega
   have hp0:¬ (Pj.pos:Int) < 0:=by omega
   have hpm:(Pj.pos:Int) + 1≤9223372036854775807:=by omega
   have hrbB:=hA.rbB
   have n1:rb≠gr:=by omega
   have n2:gr≠rb:=by omega
   have n3:rb≠gf:=by omega
   have n4:gf≠rb:=by omega
   have HNX:Hid (DAt B ((wr.setCell ⟨rb,5,none⟩ (.int .i64 (l:Nat))).setCell ⟨rb,2,none⟩ (.int .i64 ((Pj.pos:Int) + 1))) rb { Rj with rows:=t,line:=l } { Pj with pos:=Pj.pos + 1 } (.slice (some ⟨gr,0,none⟩) A.length cap) A∧Below B wr ((wr.setCell ⟨rb,5,none⟩ (.int .i64 (l:Nat))).setCell ⟨rb,2,none⟩ (.int .i64 ((Pj.pos:Int) + 1)))):=by
    have:=hA.next hR
    rw [show ((Pj.pos + 1:Nat):Int)=(Pj.pos:Int) + 1 by omega] at this
    exact this
   have HRF:=hide hrf
   have HRN:=hide hrn
   have hrlen:0 < row.length:=List.length_pos_iff.2 hrn
   have HER:=hide (fun (e:Er) (he:heading { Rj with rows:=t } l row=.error e) => (unhide HX).trans (congrArg affEnd ((unhide HS).hds.trans (heads_err hR (unhide HS).few he))))
   have HOR:=hide (fun (R':Rdr) (he:heading { Rj with rows:=t } l row=.ok R') => And.intro (heads_ok hR (unhide HS).few he) (And.intro (heading_inv (unhide HS).inv hR he) (heading_dv hA.file.ok.spec (unhide HS).dv he)))
   have HPL:Hid (Pj.pos < A.length):=hpl
   have HPW:=hide (pos_at hA)
   have HPT:Hid (Pj.pos + (t.length + 1)=A.length):=by
    have:=pos_len hA
    rw [hR] at this
    exact this
   have hfc0:=hfc 0 hrlen
   clear hA hrI hrf hrn hfc hR
   go_wp2_with fail
   have HA1:=hide (unhide HNX).1
   have HB1:=hide (((unhide HS).low).trans ((unhide HNX).2.mono (Nat.le_trans (unhide HBB) (Nat.le_refl _))))
   have HRI1:=hide ((unhide HRI).below (unhide HNX).2)
   generalize (wr.setCell ⟨rb,5,none⟩ (.int .i64 (l:Nat))).setCell ⟨rb,2,none⟩ (.int .i64 ((Pj.pos:Int) + 1))=W1 at *
   have HWD:=hide (width_any (Fld.str (fld row 0)) W1)
   rw [str_toList] at HWD
   have hrb1:=(unhide HA1).lt
   have d51:=(unhide HA1).lineAt
   have f01:=(unhide HRI1).has 0 hrlen
   cases hk:kwOf (fld row 0) with
   | none =>
    have HXX:=hide (unhide HER _ (heading_n0 hk))
    rw [wid_none hk] at HWD
    refine (unhide HWD).mono ?_
    rintro e w3 ⟨rfl,hw3⟩
    obtain rfl:=hw3.symm
    clear hk
    go_wp2_with fail
    go_quiet (fail)
    go_wp2_with fail
    go_ret3
    exact DFRes.no (unhide HXX) ((unhide HB1).trans ((So.drew_low W1 nq).mono (unhide HB1).size)) rfl (by decide)
   | some k =>
    rw [wid_some hk] at HWD
    have HKW:=hide hk
    by_cases hl:row.length=k.fields
    ·have HHL:=hide hl
     have HST:=hide (stood_doc (unhide HA1) (Fld.str (fld row 0)))
     rw [str_toList] at HST
     have HHD:Hid (∀ w4,Below W1.heap.size W1 w4→¬ (k.again=false∧fld row 0 ∈ Rj.heads)→Calls Tryz.prog 33 #[ptr rb,.slice (some ⟨gf,0,none⟩) row.length cf] w4 (DRes B rb (.slice (some ⟨gr,0,none⟩) A.length cap) A w4 (doKey { Rj with rows:=t,line:=l } row k.key))):=fun w4 b hag =>
      heading_doc ((unhide HA1).below b) ⟨(unhide HS).dv.sp,(unhide HS).dv.cl⟩ row _ ((unhide HRI1).below (b.mono (unhide HA1).base)) (unhide HRF) hk hl (by have h1:=(unhide HS).inv.cls;have h2:=(unhide HA).few.1;show Rj.file.classes.length≤65536;omega)
       (fun q => (unhide HS).inv.reps (fun hm => hag ⟨(kw_reps hk q).2.1,by rw [(kw_reps hk q).1];exact hm⟩)) (fun q => (unhide HS).inv.alis (fun hm => hag ⟨(kw_alis hk q).2.1,by rw [(kw_alis hk q).1];exact hm⟩))
     have HHE:=hide (fun ha => heading_of (R:={ Rj with rows:=t }) (l:=l) hk hl ha)
     rcases kw_fields hk with ⟨f2,ag⟩ | ⟨f2,ag⟩
     ·by_cases hmem:fld row 0 ∈ Rj.heads
      ·have HXX:=hide (unhide HER _ (heading_twice hk hl ⟨ag,hmem⟩))
       rw [decide_eq_true hmem] at HST
       have HWD2:Hid (Calls Tryz.prog 31 #[.string (Fld.str (fld row 0))] W1 fun e w' => e=.returned (.int .i64 2)∧w'=W1):=by rw [f2] at HWD;exact HWD
       rw [hl,f2] at hfn ⊢
       clear HWD
       refine (unhide HWD2).mono ?_
       rintro e w3 ⟨rfl,hw3⟩
       obtain rfl:=hw3.symm
       clear hk hl f2 ag hmem HHD HHE
       go_wp2_with fail
       refine (unhide HST).mono ?_
       rintro e w4 ⟨rfl,b4⟩
       have HB4:=hide (btr' (unhide HB1) b4)
       have d54:=(b4.cell (p:=⟨rb,5,none⟩) hrb1).trans d51
       have hrb4:=Nat.lt_of_lt_of_le hrb1 b4.size
       clear b4
       go_wp2_with fail
       go_quiet (fail)
       go_wp2_with fail
       go_ret3
       exact DFRes.no (unhide HXX) ((unhide HB4).trans ((So.drew_low w4 nq).mono (unhide HB4).size)) rfl (by decide)
      ·have hag:¬ (k.again=false∧fld row 0 ∈ Rj.heads):=fun q => hmem q.2
       rw [decide_eq_false hmem] at HST
       have HHC:=hide (fun w4 b => unhide HHD w4 b hag)
       have HE2:=hide (unhide HHE hag)
       have HWD2:Hid (Calls Tryz.prog 31 #[.string (Fld.str (fld row 0))] W1 fun e w' => e=.returned (.int .i64 2)∧w'=W1):=by rw [f2] at HWD;exact HWD
       rw [hl,f2] at HHC hfn ⊢
       clear HWD
       refine (unhide HWD2).mono ?_
       rintro e w3 ⟨rfl,hw3⟩
       obtain rfl:=hw3.symm
       clear hk f2 ag hmem hag HHD HHE hl
       go_wp2_with fail
       refine (unhide HST).mono ?_
       rintro e w4 ⟨rfl,b4⟩
       have HB4:=hide (btr' (unhide HB1) b4)
       have HB4W:=hide b4
       clear b4
       go_wp2_with fail
       refine (unhide HHC w4 (unhide HB4W)).mono ?_
       rintro e w5 ⟨b5,hres⟩
       have HB5:=hide ((unhide HB4).trans (b5.mono (unhide HBB)))
       cases hdk:doKey { Rj with rows:=t,line:=l } row k.key with
       | error er =>
        obtain ⟨l',c⟩:=er
        rw [hdk] at hres
        obtain ⟨rfl,hc0,hln⟩:=hres
        have HXX:=hide (unhide HER (l',c) ((unhide HE2).trans (by rw [show doKey _ row k.key=_ from hdk])))
        have hcz:((c:Int) == 0)=false:=by rw [beq_eq_false_iff_ne];simp at hc0;omega
        have hcz2:((c:Int) != 0)=true:=by rw [bne,hcz];rfl
        have hln:w5.cell? ⟨rb,5,none⟩=some (.int .i64 (l':Nat)):=hln
        have hrb5:rb < w5.heap.size:=Nat.lt_of_lt_of_le (Nat.lt_of_lt_of_le hrb1 (unhide HB4W).size) b5.size
        have HC0:Hid (c≠0):=hc0
        clear hdk b5 hc0
        go_wp2_with fail
        go_quiet (fail)
        go_wp2_with fail
        go_ret3
        exact DFRes.no (unhide HXX) ((unhide HB5).trans ((So.drew_low w5 nq).mono (unhide HB5).size)) rfl (unhide HC0)
       | ok R2 =>
        rw [hdk] at hres
        obtain ⟨rfl,P2,hA5⟩:=hres
        have hE3:heading { Rj with rows:=t } l row=.ok { R2 with heads:=R2.heads ++ [fld row 0] }:=(unhide HE2).trans (by rw [show doKey _ row k.key=_ from hdk])
        obtain ⟨⟨m',hmm,hm1,hm2⟩,⟨hinv',hlen'⟩,hdv'⟩:=unhide HOR _ hE3
        have hfew2:=hinv'.few
        simp only [List.length_append,List.length_singleton] at hfew2
        have HA5:=hide hA5
        have d45:=hA5.cells.2.2.2.2.1
        obtain ⟨av,cv,evh,-,-⟩:=own_len hA5.hds
        have f05:=(b5.cell (p:=⟨gf,0,none⟩) hgf).trans (((unhide HB4W).cell (p:=⟨gf,0,none⟩) (Nat.lt_of_lt_of_le hgf (unhide HA1).base)).trans f01)
        obtain ⟨a6,c6,w6,hap,o6,k6,l6,b6⟩:=push1 (B:=B) (w:=w5) (X:=(w5.alloc (.cells #[.string (Fld.str (fld row 0))] 9)).drew) (t:=88) (v:=P2.vh) (news:=[.string (Fld.str (fld row 0))]) Tryz.underlying88 infoDS rfl (by decide) hA5.hds hA5.base (((Below.refl _ _).alloc (Nat.le_refl _) _).drew) (alloc_new w5 _) rfl (by simp [Value.oneCell']) (by omega) (by decide) 88
        rw [evh] at d45 hap
        have hr6:=(k6.cells _ _ _ _ hA5.rdr (by decide)).trans hA5.rdr
        have d46:w6.cell? ⟨rb,4,none⟩=some (.slice av R2.heads.length cv):=by
         rw [← evh]
         simp [World.cell?,hr6,drdrC]
        have f46:w6.frozen? ⟨rb,4,none⟩=false:=by simp [World.frozen?,hr6]
        have f06:=(l6.cell (p:=⟨gf,0,none⟩) hgf).trans f05
        have HBA:=fun (a:Nat) (i:Nat) (ha:a < w5.heap.size) => ((Below.refl w5.heap.size w5).alloc (Nat.le_refl _) (.cells #[.string (Fld.str (fld row 0))] 9)).drew.cell (p:=⟨a,i,none⟩) ha
        have H0:=hide (And.intro d45 f05)
        have HAA:=hide (And.intro ((HBA rb 4 hA5.lt).trans d45) ((HBA gf 0 (Nat.lt_of_lt_of_le hgf hA5.base)).trans f05))
        have H6:=hide (And.intro d46 f06)
        have HF6:=hide (And.intro f46 (lt_some hr6))
        have HAP:=hide hap
        have HZ:=hide (hA5.head (v':=.slice a6 (R2.heads.length + 1) c6) (fld row 0) (by omega) (Below.refl _ w5) k6 l6 o6)
        have HNS:Hid (HSt B rb w (w6.setCell ⟨rb,4,none⟩ (.slice a6 (R2.heads.length + 1) c6)) L0 (.slice (some ⟨gr,0,none⟩) A.length cap) A { R2 with heads:=R2.heads ++ [fld row 0] } { P2 with vh:=.slice a6 (R2.heads.length + 1) c6 } m') :=
         ⟨(unhide HZ).1,hinv',hdv',(unhide HS).hds.trans hm2,Nat.le_trans hlen' hm1,(unhide HB5).trans ((unhide HZ).2.mono (unhide HBB))⟩
        have HMS:Hid (A.length - posAt rb (w6.setCell ⟨rb,4,none⟩ (.slice a6 (R2.heads.length + 1) c6)) < A.length - posAt rb wr):=by
         rw [Hid,unhide HPW,pos_at (unhide HNS).at_]
         have h1:=pos_len (unhide HNS).at_
         have h2:=unhide HPT
         have h3:R2.rows.length≤t.length:=hlen'
         have h1:P2.pos + R2.rows.length=A.length:=h1
         show A.length - P2.pos < A.length - Pj.pos
         omega
        clear hdk hE3 hmm hm1 hm2 hinv' hlen' hdv' hfew2 hA5 d45 evh f05 hap o6 k6 l6 b6 hr6 d46 f46 f06 HBA b5 hfc0 f01 d51 d0 d1 d2 d3 d4 d5 df r0 r1
        go_wp2_with fail
        rename_i Q2
        refine reg21_wp (fun cc aa dd xx ww h => ?_) ?_ H0 HAA H6 HF6 HAP _ _ _ _ _ _ _ _ _ _ _ _ _ _ _ _ _ _ _ _ _ _ _ _ _ _ _ _ _ _ _ _ _ _ _ _ _ _ _ _ _ _ _ _ _ _ _ _ _ _ _ _ _ _ _ _ _ _ _ _ _ _ _ _ _ _ _ _ _ _ _ _ _ _ _ _ _ _ _ _ _ _ _ _ _ _ _ _ _ _ _ _ _ _ _ _ _ _ _ _ _ _ _ _ _ _ _ _ _ _ _ _ _ _ _ _ _ _ _ _ _ _ _ _ _ _ _ _ _ _ _ _ _ _ _ _ _ _ _ _ _ _ _ _ _ _ _ _ _ _ _ _ _ _ _ _ _ _ _ _ _ _ _ _ _ _ _ _ _ _ _ _ _ _ _ _ _ _ _ _ _ _ _ _ _ _ _ _ _ _ ?_
        ·cases dd <;> (dsimp only [Exit.inBlock,Q2,Exit.then] at h ⊢;exact h)
        ·decide
        intro x112 x113 x114 x115 x116 x117 x118 x119 x120 x121 x122 x123
        dsimp only [Exit.inBlock,Q2,Exit.then]
        refine ⟨?_,unhide HMS⟩
        (repeat apply Exists.intro)
        refine ⟨?rel,rfl⟩
        case rel => exact ⟨_,_,m',unhide HNS⟩
     ·have hag:¬ (k.again=false∧fld row 0 ∈ Rj.heads):=fun q => by rw [ag] at q;cases q.1
      generalize decide (fld row 0 ∈ Rj.heads)=mem at *
      have HHC:=hide (fun w4 b => unhide HHD w4 b hag)
      have HE2:=hide (unhide HHE hag)
      have HWD2:Hid (Calls Tryz.prog 31 #[.string (Fld.str (fld row 0))] W1 fun e w' => e=.returned (.int .i64 4)∧w'=W1):=by rw [f2] at HWD;exact HWD
      rw [hl,f2] at HHC hfn ⊢
      clear HWD
      refine (unhide HWD2).mono ?_
      rintro e w3 ⟨rfl,hw3⟩
      obtain rfl:=hw3.symm
      clear hk f2 ag  hag HHD HHE hl
      go_wp2_with fail
      refine (unhide HST).mono ?_
      rintro e w4 ⟨rfl,b4⟩
      have HB4:=hide (btr' (unhide HB1) b4)
      have HB4W:=hide b4
      clear b4
      go_wp2_with fail
      refine (unhide HHC w4 (unhide HB4W)).mono ?_
      rintro e w5 ⟨b5,hres⟩
      have HB5:=hide ((unhide HB4).trans (b5.mono (unhide HBB)))
      cases hdk:doKey { Rj with rows:=t,line:=l } row k.key with
      | error er =>
       obtain ⟨l',c⟩:=er
       rw [hdk] at hres
       obtain ⟨rfl,hc0,hln⟩:=hres
       have HXX:=hide (unhide HER (l',c) ((unhide HE2).trans (by rw [show doKey _ row k.key=_ from hdk])))
       have hcz:((c:Int) == 0)=false:=by rw [beq_eq_false_iff_ne];simp at hc0;omega
       have hcz2:((c:Int) != 0)=true:=by rw [bne,hcz];rfl
       have hln:w5.cell? ⟨rb,5,none⟩=some (.int .i64 (l':Nat)):=hln
       have hrb5:rb < w5.heap.size:=Nat.lt_of_lt_of_le (Nat.lt_of_lt_of_le hrb1 (unhide HB4W).size) b5.size
       have HC0:Hid (c≠0):=hc0
       clear hdk b5 hc0
       go_wp2_with fail
       go_quiet (fail)
       go_wp2_with fail
       go_ret3
       exact DFRes.no (unhide HXX) ((unhide HB5).trans ((So.drew_low w5 nq).mono (unhide HB5).size)) rfl (unhide HC0)
      | ok R2 =>
       rw [hdk] at hres
       obtain ⟨rfl,P2,hA5⟩:=hres
       have hE3:heading { Rj with rows:=t } l row=.ok { R2 with heads:=R2.heads ++ [fld row 0] }:=(unhide HE2).trans (by rw [show doKey _ row k.key=_ from hdk])
       obtain ⟨⟨m',hmm,hm1,hm2⟩,⟨hinv',hlen'⟩,hdv'⟩:=unhide HOR _ hE3
       have hfew2:=hinv'.few
       simp only [List.length_append,List.length_singleton] at hfew2
       have HA5:=hide hA5
       have d45:=hA5.cells.2.2.2.2.1
       obtain ⟨av,cv,evh,-,-⟩:=own_len hA5.hds
       have f05:=(b5.cell (p:=⟨gf,0,none⟩) hgf).trans (((unhide HB4W).cell (p:=⟨gf,0,none⟩) (Nat.lt_of_lt_of_le hgf (unhide HA1).base)).trans f01)
       obtain ⟨a6,c6,w6,hap,o6,k6,l6,b6⟩:=push1 (B:=B) (w:=w5) (X:=(w5.alloc (.cells #[.string (Fld.str (fld row 0))] 9)).drew) (t:=88) (v:=P2.vh) (news:=[.string (Fld.str (fld row 0))]) Tryz.underlying88 infoDS rfl (by decide) hA5.hds hA5.base (((Below.refl _ _).alloc (Nat.le_refl _) _).drew) (alloc_new w5 _) rfl (by simp [Value.oneCell']) (by omega) (by decide) 88
       rw [evh] at d45 hap
       have hr6:=(k6.cells _ _ _ _ hA5.rdr (by decide)).trans hA5.rdr
       have d46:w6.cell? ⟨rb,4,none⟩=some (.slice av R2.heads.length cv):=by
        rw [← evh]
        simp [World.cell?,hr6,drdrC]
       have f46:w6.frozen? ⟨rb,4,none⟩=false:=by simp [World.frozen?,hr6]
       have f06:=(l6.cell (p:=⟨gf,0,none⟩) hgf).trans f05
       have HBA:=fun (a:Nat) (i:Nat) (ha:a < w5.heap.size) => ((Below.refl w5.heap.size w5).alloc (Nat.le_refl _) (.cells #[.string (Fld.str (fld row 0))] 9)).drew.cell (p:=⟨a,i,none⟩) ha
       have H0:=hide (And.intro d45 f05)
       have HAA:=hide (And.intro ((HBA rb 4 hA5.lt).trans d45) ((HBA gf 0 (Nat.lt_of_lt_of_le hgf hA5.base)).trans f05))
       have H6:=hide (And.intro d46 f06)
       have HF6:=hide (And.intro f46 (lt_some hr6))
       have HAP:=hide hap
       have HZ:=hide (hA5.head (v':=.slice a6 (R2.heads.length + 1) c6) (fld row 0) (by omega) (Below.refl _ w5) k6 l6 o6)
       have HNS:Hid (HSt B rb w (w6.setCell ⟨rb,4,none⟩ (.slice a6 (R2.heads.length + 1) c6)) L0 (.slice (some ⟨gr,0,none⟩) A.length cap) A { R2 with heads:=R2.heads ++ [fld row 0] } { P2 with vh:=.slice a6 (R2.heads.length + 1) c6 } m') :=
        ⟨(unhide HZ).1,hinv',hdv',(unhide HS).hds.trans hm2,Nat.le_trans hlen' hm1,(unhide HB5).trans ((unhide HZ).2.mono (unhide HBB))⟩
       have HMS:Hid (A.length - posAt rb (w6.setCell ⟨rb,4,none⟩ (.slice a6 (R2.heads.length + 1) c6)) < A.length - posAt rb wr):=by
        rw [Hid,unhide HPW,pos_at (unhide HNS).at_]
        have h1:=pos_len (unhide HNS).at_
        have h2:=unhide HPT
        have h3:R2.rows.length≤t.length:=hlen'
        have h1:P2.pos + R2.rows.length=A.length:=h1
        show A.length - P2.pos < A.length - Pj.pos
        omega
       clear hdk hE3 hmm hm1 hm2 hinv' hlen' hdv' hfew2 hA5 d45 evh f05 hap o6 k6 l6 b6 hr6 d46 f46 f06 HBA b5 hfc0 f01 d51 d0 d1 d2 d3 d4 d5 df r0 r1
       go_wp2_with fail
       rename_i Q2
       refine reg21_wp (fun cc aa dd xx ww h => ?_) ?_ H0 HAA H6 HF6 HAP _ _ _ _ _ _ _ _ _ _ _ _ _ _ _ _ _ _ _ _ _ _ _ _ _ _ _ _ _ _ _ _ _ _ _ _ _ _ _ _ _ _ _ _ _ _ _ _ _ _ _ _ _ _ _ _ _ _ _ _ _ _ _ _ _ _ _ _ _ _ _ _ _ _ _ _ _ _ _ _ _ _ _ _ _ _ _ _ _ _ _ _ _ _ _ _ _ _ _ _ _ _ _ _ _ _ _ _ _ _ _ _ _ _ _ _ _ _ _ _ _ _ _ _ _ _ _ _ _ _ _ _ _ _ _ _ _ _ _ _ _ _ _ _ _ _ _ _ _ _ _ _ _ _ _ _ _ _ _ _ _ _ _ _ _ _ _ _ _ _ _ _ _ _ _ _ _ _ _ _ _ _ _ _ _ _ _ _ _ _ ?_
       ·cases dd <;> (dsimp only [Exit.inBlock,Q2,Exit.then] at h ⊢;exact h)
       ·decide
       intro x112 x113 x114 x115 x116 x117 x118 x119 x120 x121 x122 x123
       dsimp only [Exit.inBlock,Q2,Exit.then]
       refine ⟨?_,unhide HMS⟩
       (repeat apply Exists.intro)
       refine ⟨?rel,rfl⟩
       case rel => exact ⟨_,_,m',unhide HNS⟩
    ·have HXX:=hide (unhide HER _ (heading_l0 hk hl))
     have hlz:((row.length:Int) == (k.fields:Int))=false:=by rw [beq_eq_false_iff_ne];omega
     have hln:((row.length:Int) != (k.fields:Int))=true:=by rw [bne,hlz];rfl
     have hf0:((k.fields:Int) == 0)=false:=by
      rw [beq_eq_false_iff_ne]
      rcases kw_fields hk with ⟨f2,-⟩ | ⟨f2,-⟩ <;> omega
     generalize k.fields=kf at *
     generalize row.length=rn at *
     refine (unhide HWD).mono ?_
     rintro e w3 ⟨rfl,hw3⟩
     obtain rfl:=hw3.symm
     clear hk hl
     go_wp2_with fail
     go_quiet (fail)
     go_wp2_with fail
     go_ret3
     exact DFRes.no (unhide HXX) ((unhide HB1).trans ((So.drew_low W1 nq).mono (unhide HB1).size)) rfl (by decide)
theorem Mx.up {w w':World} (h:Mx w.heap.size w) (b:Below w.heap.size w w'):Mx w'.heap.size w':=⟨Nat.lt_of_lt_of_le h.1 b.size,(h.low b).2⟩
def BRes (w:World) (X:Except Er Fil) (e:Ending) (w':World):Prop :=
 Below w.heap.size w w'∧match X with
 | .ok F => ∃ B P B' P',w.heap.size≤B∧e=.returned (.tuple #[ptr P.fb,ptr P'.fb,.bool true])∧FAt B w' F P∧DFAt B' w' F P'
 | .error _ => e=.returned (.tuple #[.pointer none,.pointer none,.bool true])
theorem read_law (s:ByteArray) (w:World) (hM:Mx w.heap.size w) (hs:s.size≤140737488355328):Calls Tryz.prog 14 #[.string s] w (BRes w (affR s.data.toList)):=by
 have HP:=hide (Read_any s w hM)
 have HD:=hide (fun W => affDoc_any s W hs)
 clear hM hs
 cases hX:affR s.data.toList with
 | error er =>
  rw [hX] at HP HD
  clear hX
  go_enter Tryz.func14,Tryz.ntmps14
  go_wp2_with fail
  refine (unhide HP).mono ?_
  rintro e w1 ⟨b1,rfl⟩
  have HB1:=hide b1
  clear b1
  go_wp2_with fail
  refine (unhide HD _).mono ?_
  rintro e w2 ⟨b2,rfl,h0⟩
  have HB2:=hide b2
  have hz:(((er.2:Nat):Int) == 0)=false:=by rw [beq_eq_false_iff_ne];omega
  clear b2 h0
  go_wp2_with fail
  go_ret3
  have hb:=unhide HB1
  exact ⟨hb.trans ((((Below.refl _ w1).alloc (Nat.le_refl _) _).trans ((unhide HB2).mono (by simp))).mono hb.size),rfl⟩
 | ok F =>
  rw [hX] at HP HD
  clear hX
  go_enter Tryz.func14,Tryz.ntmps14
  go_wp2_with fail
  refine (unhide HP).mono ?_
  rintro e w1 ⟨b1,B,P,hB,rfl,hF⟩
  unfold zF
  have HB1:=hide b1
  have HF:=hide hF
  clear b1 hF
  go_wp2_with fail
  refine (unhide HD _).mono ?_
  rintro e w2 ⟨b2,B',P',hB',rfl,hF'⟩
  have HB2:=hide b2
  have HF':=hide hF'
  clear b2 hF'
  go_wp2_with fail
  go_ret3
  have hb:=unhide HB1
  have ha:Below w1.heap.size w1 (w1.alloc (.cells #[.int .i64 0,.int .i64 0,.int .i64 0] 25)):=(Below.refl _ w1).alloc (Nat.le_refl _) _
  have h2:Below w1.heap.size w1 w2:=ha.trans ((unhide HB2).mono (by simp))
  exact ⟨hb.trans (h2.mono hb.size),B,P,B',P',hB,rfl,(unhide HF).below h2,unhide HF'⟩
end Af
end Go.Proofs.YtmhegbeemgagkaaGreatDoor
