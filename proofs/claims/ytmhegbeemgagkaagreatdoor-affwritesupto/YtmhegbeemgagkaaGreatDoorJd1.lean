import Derived.Test.YtmhegbeemgagkaaGreatDoorGn25
namespace Go.Proofs.YtmhegbeemgagkaaGreatDoor
open Go.RowKit
namespace Af
open RowB
def stepX (inn:Rdr→List Bs→Except Er Rdr) (beg:List Bs) (R:Rdr):Except Er Rdr:=match Af.grow R beg with
 | .error e => .error e
 | .ok (row,R1) => inn R1 row
def begOf (hd:List Bs):List Bs:=if hd.length=4 then [fld hd 0,fld hd 1] else [fld hd 0]
theorem step_g {inn:Rdr→List Bs→Except Er Rdr} {beg:List Bs} {R:Rdr} {e:Er} (h:Af.grow R beg=.error e):stepX inn beg R=.error e:=by unfold stepX;rw [h]
theorem step_k {inn:Rdr→List Bs→Except Er Rdr} {beg row:List Bs} {R R1:Rdr} (h:Af.grow R beg=.ok (row,R1)):stepX inn beg R=inn R1 row:=by unfold stepX;rw [h]
structure GrpIn (B rb n:Nat) (v:Value) (A:List (Nat × List Bs)) (hd:List Bs) (inn:Rdr→List Bs→Except Er Rdr) (Q:Rdr→Nat→Prop):Prop where
 keep:∀ (R R1 R':Rdr) (row:List Bs) (j:Nat),Q R j→Af.grow R (begOf hd)=.ok (row,R1)→inn R1 row=.ok R'→Q R' (j + 1)
 call:∀ (j:Nat),j < n→∀ (R R1:Rdr) (row:List Bs),Q R j→Af.grow R (begOf hd)=.ok (row,R1)→∀ (W:World) (P:DPts) (rv:Value),DAt B W rb R1 P v A→RowIn B W rv row→(∀ f ∈ row,f.length≤65536∧f≠[])→row≠[]→fld row 0=fld hd 0→Calls Tryz.prog 97 #[ptr rb,rv] W (DRes B rb v A W (inn R1 row))
def GS (B rb:Nat) (w W:World) (v:Value) (A:List (Nat × List Bs)) (R:Rdr) (hd:List Bs) (inn:Rdr→List Bs→Except Er Rdr) (Q:Rdr→Nat→Prop) (j:Nat):Prop :=
 ∃ Rj Pj,DAt B W rb Rj Pj v A∧Below B w W∧times (stepX inn (begOf hd)) j R=.ok Rj∧Q Rj j
theorem beg_take {row hd:List Bs} (hlen:hd.length=2∨hd.length=4) (hr:row≠[]):row.take (begOf hd).length=begOf hd↔(fld row 0=fld hd 0∧(hd.length=4→2≤row.length∧fld row 1=fld hd 1)):=by
 unfold begOf
 rcases row with _ | ⟨x,_ | ⟨y,t⟩⟩
 ·exact absurd rfl hr
 ·rcases hlen with h | h
  ·simp [h,fld]
  ·simp [h,fld]
 ·rcases hlen with h | h
  ·simp [h,fld]
  ·simp [h,fld]
set_option maxRecDepth 100000 in
set_option maxHeartbeats 8000000 in
theorem group_doc {B rb n:Nat} {w:World} {R:Rdr} {P:DPts} {v:Value} {A:List (Nat × List Bs)} {inn:Rdr→List Bs→Except Er Rdr} {Q:Rdr→Nat→Prop} (h:DAt B w rb R P v A) (hd:List Bs) (hv:Value) (hrow:RowIn B w hv hd) (hlen:hd.length=2∨hd.length=4) (hn:n≤1024) (hI:GrpIn B rb n v A hd inn Q) (hQ:Q R 0) :
  Calls Tryz.prog 65 #[ptr rb,hv,.int .i64 (n:Nat)] w (DRes B rb v A w (times (stepX inn (begOf hd)) n R)):=by
 obtain ⟨gh,ch,rfl,hgh,hghn,hhc⟩:=hrow.get
 have HHC:Hid (∀ W,Below B w W→∀ i,i < hd.length→W.cell? ⟨gh,i,none⟩=some (.string (Fld.str (fld hd i)))):=fun W b i hi => (b.cell (p:=⟨gh,i,none⟩) hgh).trans (hhc i hi)
 have HST:Hid (GS B rb w w v A R hd inn Q 0):=⟨R,P,h,Below.refl _ _,rfl,hQ⟩
 have HI:=hide hI
 have HLEN:=hide hlen
 have HBT:=hide (fun row hr => beg_take (row:=row) hlen hr)
 have hgr:gh≠rb:=by have:=h.rbB;omega
 have hgr2:rb≠gh:=fun e => hgr e.symm
 have hrbB:=h.rbB
 clear hrow hhc h hI hQ
 obtain ⟨m,hm⟩:∃ m,hd.length=m:=⟨_,rfl⟩
 rw [hm] at hlen hghn HHC ⊢
 have HM:=hide hm
 clear hm
 go_enter Tryz.func65,Tryz.ntmps65
 go_wp2
 go_loopw [7,8,9] (fun s7 _ _ wr => ∃ j:Nat,s7=.int .i64 j∧j≤n∧Hid (GS B rb w wr v A R hd inn Q j)) (fun s7 _ _ _ => n - (intOf s7).toNat)
 case atStart => exact ⟨0,rfl,Nat.zero_le _,HST⟩
 case round =>
  obtain ⟨j,rfl,hj,HR⟩:=hrel
  by_cases hjn:j < n
  ·have hji:(j:Int) < (n:Int):=by omega
   obtain ⟨Rj,Pj,hA,hB,ht,hq⟩:=unhide HR
   have HA:=hide hA
   have HB:=hide hB
   have HT:=hide ht
   have HQ:=hide hq
   have hrb:=hA.lt
   obtain ⟨d0,d1,d2,d3,d4,d5,df⟩:=hA.cells
   clear HR hB ht hq HST
   rcases hR:Rj.rows with _ | ⟨⟨l,row⟩,t⟩
   ·obtain ⟨ep,ao,cap,ev,hA6⟩:=hA.last hR
    rw [ev] at d1
    rw [ep] at d2
    have HX:=hide (times_err (unhide HT) (step_g (inn:=inn) (grow_none (beg:=begOf hd) hR)) hjn)
    have HLN:=hide (fun q => (hA.below (So.drew_low wr q)).line Rj.behind hA.few.2.1)
    have HBQ:=hide (fun q => (So.drew_low wr q).mono hA.base)
    have hge:(A.length:Int)≤(A.length:Int):=by omega
    clear hA hR d0 d4
    go_wp2_with fail
    go_quiet (fail)
    go_wp2_with fail
    go_ret
    exact DRes.no (unhide HX) (((unhide HB).trans (unhide HBQ nq)).trans (unhide HLN nq).2) (by decide) rfl (by simpa using (unhide HLN nq).1.cells.2.2.2.2.2.1)
   ·obtain ⟨gr,cap,fv,ev,hAl,hpl,hgrB,r0,r1,hrI,hrn,hrf⟩:=hA.row hR
    rw [ev] at d1
    rw [Nat.mul_comm] at r0 r1
    have HRI:=hide hrI
    obtain ⟨gf,cf,rfl,hgf,hfn,hfc⟩:=hrI.get
    have hpi:(Pj.pos:Int) < (A.length:Int):=by omega
    have hpg:decide (A.length≤Pj.pos)=false:=by rw [decide_eq_false_iff_not];omega
    have hp0:¬ (Pj.pos:Int) < 0:=by omega
    have hpm:(Pj.pos:Int) + 1≤9223372036854775807:=by omega
    have n1:rb≠gr:=by omega
    have n2:gr≠rb:=by omega
    have n3:rb≠gf:=by omega
    have n4:gf≠rb:=by omega
    have HNX:Hid (∀ q,DAt B (((wr.drewN q).setCell ⟨rb,5,none⟩ (.int .i64 (l:Nat))).setCell ⟨rb,2,none⟩ (.int .i64 ((Pj.pos:Int) + 1))) rb { Rj with rows:=t,line:=l } { Pj with pos:=Pj.pos + 1 } v A∧Below B wr (((wr.drewN q).setCell ⟨rb,5,none⟩ (.int .i64 (l:Nat))).setCell ⟨rb,2,none⟩ (.int .i64 ((Pj.pos:Int) + 1)))):=fun q => by
     have:=(hA.below (So.drew_low wr q)).next hR
     rw [show ((Pj.pos + 1:Nat):Int)=(Pj.pos:Int) + 1 by omega] at this
     exact ⟨this.1,((So.drew_low wr q).mono hA.base).trans this.2⟩
    have HGO:=hide (fun (e:row.take (begOf hd).length=begOf hd) => grow_ok (R:=Rj) hR e)
    have HGN:=hide (fun (e:¬ row.take (begOf hd).length=begOf hd) => times_err (unhide HT) (step_g (inn:=inn) (grow_no (R:=Rj) hR e)) hjn)
    have HRF:=hide hrf
    have HRN:=hide hrn
    have hrlen:0 < row.length:=List.length_pos_iff.2 hrn
    clear hA ev hrI hrf hrn hfc
    go_wp2_with fail
    go_quiet (fail)
    generalize nq=q1
    go_wp2_with fail
    go_quiet (fail)
    generalize nq=q2
    go_wp2_with fail
    go_region
    go_wp2_with fail
    have HA1:=hide (unhide HNX (q1 + q2 + 1)).1
    have HB1:=hide ((unhide HB).trans (unhide HNX (q1 + q2 + 1)).2)
    have HRI1:=hide ((unhide HRI).below (unhide HNX (q1 + q2 + 1)).2)
    generalize ((wr.drewN (q1 + q2 + 1)).setCell ⟨rb,5,none⟩ (.int .i64 (l:Nat))).setCell ⟨rb,2,none⟩ (.int .i64 ((Pj.pos:Int) + 1))=W1 at *
    clear HNX r0 r1 d0 d1 d2 d3 d4 d5 df
    have hfc:=(unhide HRI1).has
    have f0:=hfc 0 hrlen
    have h0:=unhide HHC W1 (unhide HB1) 0 (by omega)
    have HBQ1:=hide (fun q => (So.drew_low W1 q))
    have HFC:=hide hfc
    clear hfc
    by_cases hk:fld row 0=fld hd 0
    ·rw [hk] at f0
     go_quiet (fail)
     generalize nq=q3
     go_wp2_with fail
     rcases hlen with rfl | rfl
     ·have HGK:=hide (unhide HGO ((unhide HBT row (unhide HRN)).2 ⟨hk,fun q => by rw [unhide HM] at q;omega⟩))
      clear HGO HGN
      go_quiet (fail)
      go_wp2_with fail
      have HC:=hide ((unhide HI).call j hjn Rj _ row (unhide HQ) (unhide HGK))
      generalize nq=q4
      refine (unhide HC (W1.drewN (q3 + q4)) _ _ ((unhide HA1).below (So.drew_low W1 _)) ((unhide HRI1).below ((So.drew_low W1 _).mono (unhide HA1).base)) (unhide HRF) (unhide HRN) hk).mono ?_
      rintro e w5 ⟨b5,hres⟩
      have HB5:=hide (((unhide HB1).trans ((So.drew_low W1 (q3 + q4)).mono (unhide HA1).base)).trans b5)
      cases hin:inn { Rj with rows:=t,line:=l } row with
      | error er =>
       obtain ⟨l',c⟩:=er
       rw [hin] at hres
       obtain ⟨rfl,hc0,hln⟩:=hres
       have HLN:=hide hln
       have HC0:=hide hc0
       have hcz:((c:Int) == 0)=false:=by rw [beq_eq_false_iff_ne];simp at hc0;omega
       have hcz2:((c:Int) != 0)=true:=by rw [bne,hcz];rfl
       have HX:=hide (times_err (unhide HT) ((step_k (unhide HGK)).trans hin) hjn)
       clear hin hln hc0 b5
       go_wp2_with fail
       go_ret
       exact DRes.no (unhide HX) (unhide HB5) (unhide HC0) rfl (unhide HLN)
      | ok R' =>
       rw [hin] at hres
       obtain ⟨rfl,P',hA'⟩:=hres
       have HS2:Hid (GS B rb w w5 v A R hd inn Q (j + 1)):=⟨R',P',hA',unhide HB5,times_ok (unhide HT) ((step_k (unhide HGK)).trans hin),(unhide HI).keep Rj _ R' row j (unhide HQ) (unhide HGK) hin⟩
       clear hin hA' b5
       go_wp2_with fail
       go_roundw
       case rel => exact ⟨j + 1,by go_num,by omega,HS2⟩
       case measure => simp [intOf];omega
     ·by_cases hl2:row.length < 2
      ·have HX:=hide (unhide HGN (fun e => by have:=((unhide HBT row (unhide HRN)).1 e).2 (unhide HM);omega))
       have hli:(row.length:Int) < 2:=by omega
       clear HGO HGN
       go_quiet (fail)
       go_wp2_with fail
       go_ret
       exact DRes.no (unhide HX) ((unhide HB1).trans ((btr (So.drew_low W1 q3) (So.drew_low (W1.drewN q3) nq)).mono (unhide HA1).base)) (by decide) rfl ((unhide HA1).below (btr (So.drew_low W1 q3) (So.drew_low (W1.drewN q3) nq))).lineAt
      ·have hli:¬ (row.length:Int) < 2:=by omega
       have hld:decide (row.length < 2)=false:=by rw [decide_eq_false_iff_not];exact hl2
       have f1:=unhide HFC 1 (by omega)
       have h1:=unhide HHC W1 (unhide HB1) 1 (by omega)
       have hl1:(1:Int) < (row.length:Int):=by omega
       by_cases hk1:fld row 1=fld hd 1
       ·have HGK:=hide (unhide HGO ((unhide HBT row (unhide HRN)).2 ⟨hk,fun _ => ⟨by omega,hk1⟩⟩))
        rw [hk1] at f1
        clear HGO HGN
        go_quiet (fail)
        go_wp2_with fail
        have HC:=hide ((unhide HI).call j hjn Rj _ row (unhide HQ) (unhide HGK))
        generalize nq=q4
        refine (unhide HC (W1.drewN (q3 + q4)) _ _ ((unhide HA1).below (So.drew_low W1 _)) ((unhide HRI1).below ((So.drew_low W1 _).mono (unhide HA1).base)) (unhide HRF) (unhide HRN) hk).mono ?_
        rintro e w5 ⟨b5,hres⟩
        have HB5:=hide (((unhide HB1).trans ((So.drew_low W1 (q3 + q4)).mono (unhide HA1).base)).trans b5)
        cases hin:inn { Rj with rows:=t,line:=l } row with
        | error er =>
         obtain ⟨l',c⟩:=er
         rw [hin] at hres
         obtain ⟨rfl,hc0,hln⟩:=hres
         have HLN:=hide hln
         have HC0:=hide hc0
         have hcz:((c:Int) == 0)=false:=by rw [beq_eq_false_iff_ne];simp at hc0;omega
         have hcz2:((c:Int) != 0)=true:=by rw [bne,hcz];rfl
         have HX:=hide (times_err (unhide HT) ((step_k (unhide HGK)).trans hin) hjn)
         clear hin hln hc0 b5
         go_wp2_with fail
         go_ret
         exact DRes.no (unhide HX) (unhide HB5) (unhide HC0) rfl (unhide HLN)
        | ok R' =>
         rw [hin] at hres
         obtain ⟨rfl,P',hA'⟩:=hres
         have HS2:Hid (GS B rb w w5 v A R hd inn Q (j + 1)):=⟨R',P',hA',unhide HB5,times_ok (unhide HT) ((step_k (unhide HGK)).trans hin),(unhide HI).keep Rj _ R' row j (unhide HQ) (unhide HGK) hin⟩
         clear hin hA' b5
         go_wp2_with fail
         go_roundw
         case rel => exact ⟨j + 1,by go_num,by omega,HS2⟩
         case measure => simp [intOf];omega
       ·have HX:=hide (unhide HGN (fun e => hk1 (((unhide HBT row (unhide HRN)).1 e).2 (unhide HM)).2))
        have hz1:((Fld.str (fld row 1)).toList == (Fld.str (fld hd 1)).toList)=false:=by rw [Lib.toList_data,Lib.toList_data,str_toList,str_toList,beq_eq_false_iff_ne];exact hk1
        have hz2:((Fld.str (fld row 1)).toList != (Fld.str (fld hd 1)).toList)=true:=by rw [bne,hz1];rfl
        clear HGO HGN
        go_quiet (fail)
        go_wp2_with fail
        go_ret
        exact DRes.no (unhide HX) ((unhide HB1).trans ((So.drew_low W1 (q3 + nq)).mono (unhide HA1).base)) (by decide) rfl ((unhide HA1).below (So.drew_low W1 (q3 + nq))).lineAt
    ·have hz1:((Fld.str (fld row 0)).toList == (Fld.str (fld hd 0)).toList)=false:=by rw [Lib.toList_data,Lib.toList_data,str_toList,str_toList,beq_eq_false_iff_ne];exact hk
     have hz2:((Fld.str (fld row 0)).toList != (Fld.str (fld hd 0)).toList)=true:=by rw [bne,hz1];rfl
     have HX:=hide (unhide HGN (fun e => hk ((unhide HBT row (unhide HRN)).1 e).1))
     go_quiet (fail)
     go_wp2_with fail
     go_ret
     exact DRes.no (unhide HX) ((unhide HB1).trans ((So.drew_low W1 nq).mono (unhide HA1).base)) (by decide) rfl ((unhide HA1).below (So.drew_low W1 nq)).lineAt
  ·obtain rfl:j=n:=by omega
   have hji:¬ (j:Int) < (j:Int):=by omega
   obtain ⟨Rj,Pj,hA,hB,ht,hq⟩:=unhide HR
   have HA:=hide hA
   have HB:=hide hB
   have HT:=hide ht
   clear HR hA hB ht hq HST
   go_wp2_with fail
   go_ret
   exact DRes.yes (unhide HT) (unhide HB) (unhide HA)
end Af
end Go.Proofs.YtmhegbeemgagkaaGreatDoor
