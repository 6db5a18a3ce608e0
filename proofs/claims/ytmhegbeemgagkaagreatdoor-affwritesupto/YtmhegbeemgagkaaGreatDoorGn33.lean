import Derived.Test.YtmhegbeemgagkaaGreatDoorJd1
import Derived.Test.YtmhegbeemgagkaaGreatDoorGn32
set_option maxHeartbeats 8000000
set_option maxRecDepth 100000
namespace Go.Proofs.YtmhegbeemgagkaaGreatDoor
open Go.RowKit
namespace Af
open RowB
theorem DRes.fin {B rb:Nat} {v:Value} {A:List (Nat × List Bs)} {W w':World} {X:Except Er Rdr} {e:Ending} (h:DRes B rb v A W X e w'):∃ c:Int,e=.returned (.int .i64 c)∧∀ w0,Below B w0 W→DRes B rb v A w0 X (.returned (.int .i64 c)) w':=by
 obtain ⟨b,h⟩:=h
 cases X with
 | ok R' =>
  obtain ⟨rfl,P',hA⟩:=h
  exact ⟨0,rfl,fun w0 b0 => DRes.yes rfl (b0.trans b) hA⟩
 | error er =>
  obtain ⟨l,c⟩:=er
  obtain ⟨rfl,h0,hl⟩:=h
  exact ⟨_,rfl,fun w0 b0 => DRes.no rfl (b0.trans b) h0 rfl hl⟩
theorem rulStep_step (beg:List Bs) (c:Cls) (R:Rdr):rulStep beg c R=stepX (rulX c) beg R:=by
 unfold rulStep stepX rulX
 cases Af.grow R beg with
 | error e => rfl
 | ok p => rfl
def QC (R:Rdr) (c:Cls) (R':Rdr) (j:Nat):Prop:=R'.file.rules.length=R.file.rules.length + j∧R'.file.classes=R.file.classes ++ [c]
theorem grp_cls {B rb n:Nat} {v:Value} {A:List (Nat × List Bs)} {hd:List Bs} {R:Rdr} {c:Cls} (hk:fld hd 0=[80,70,88]∨fld hd 0=[83,70,88]) (hn:R.file.rules.length + n≤1024):GrpIn B rb n v A hd (rulX c) (QC R c):=by
 refine ⟨fun R0 R1 R' row j hq hg hx => ?_,fun j hj R0 R1 row hq hg W P rv hA hrI hfew hne h0 => ?_⟩
 ·obtain ⟨l,t,-,-,-,e,-,-⟩:=grow_rows hg
  unfold rulX at hx
  split at hx
  ·cases hx
  ·injection hx with hx
   subst hx
   refine ⟨?_,?_⟩
   ·show (R1.file.rules ++ [_]).length=_
    rw [e,List.length_append,hq.1,List.length_singleton]
    omega
   ·show R1.file.classes=_
    rw [e]
    exact hq.2
 ·obtain ⟨l,t,-,-,-,e,-,-⟩:=grow_rows hg
  have h1:R1.file.classes=R.file.classes ++ [c]:=by rw [e];exact hq.2
  refine inner_rul (i:=R.file.classes.length) hA row rv hrI hfew hne ?_ ?_ ?_ ?_ ?_
  ·rw [h0];rcases hk with q | q <;> rw [q] <;> decide
  ·rw [h0];rcases hk with q | q <;> rw [q] <;> decide
  ·rw [h1];simp
  ·rw [h1];simp
  ·rw [e,hq.1];omega
theorem fr_bound {R:Rdr} {s:Bs} (h:(frN R.file s).2=0):newFlag R s=.ok (frN R.file s).1∧1≤(frN R.file s).1∧(frN R.file s).1≤65535:=by
 have e:=fr_eq R s
 rw [if_pos h] at e
 have p:=newFlag_pos e
 exact ⟨e,p.1,p.2.1⟩
theorem cls_grown {B rb cb:Nat} {w W5:World} {R:Rdr} {P:DPts} {v:Value} {A:List (Nat × List Bs)} {c:Cls} (h:DAt B w rb R P v A) (hc:1≤c.flag∧c.flag≤65535) (b5:Below w.heap.size w W5) (hcb:w.heap.size≤cb) (hblk:W5.heap[cb]?=some (.cells (dclsC c).toArray 52 (0,0))) (hcn:R.file.classes.length≤65536) :
  ∃ av cv a6 c6 w6,Hid (W5.cell? ⟨rb,0,none⟩=some (.pointer (some ⟨P.fb,0,none⟩))∧W5.cell? ⟨P.fb,11,none⟩=some (.slice av R.file.classes.length cv)∧CCells W5 cb c)∧Hid ((W5.alloc (.cells #[.int .i64 c.flag,.int .i64 c.kind,.bool c.cross,.int .i64 (c.first:Nat),.int .i64 (c.count:Nat)] 52)).drew.cell? ⟨rb,0,none⟩=some (.pointer (some ⟨P.fb,0,none⟩))∧(W5.alloc (.cells #[.int .i64 c.flag,.int .i64 c.kind,.bool c.cross,.int .i64 (c.first:Nat),.int .i64 (c.count:Nat)] 52)).drew.cell? ⟨P.fb,11,none⟩=some (.slice av R.file.classes.length cv)∧CCells (W5.alloc (.cells #[.int .i64 c.flag,.int .i64 c.kind,.bool c.cross,.int .i64 (c.first:Nat),.int .i64 (c.count:Nat)] 52)).drew cb c)∧Hid (w6.cell? ⟨rb,0,none⟩=some (.pointer (some ⟨P.fb,0,none⟩))∧w6.cell? ⟨P.fb,11,none⟩=some (.slice av R.file.classes.length cv)∧CCells w6 cb c)∧Hid (w6.frozen? ⟨P.fb,11,none⟩=false∧P.fb < w6.heap.size)∧Hid ((Builtin.append_ #[94,94] 94 #[.slice av R.file.classes.length cv,.slice (some ⟨W5.heap.size,0,none⟩) 1 1]).run Tryz.prog (W5.alloc (.cells #[.int .i64 c.flag,.int .i64 c.kind,.bool c.cross,.int .i64 (c.first:Nat),.int .i64 (c.count:Nat)] 52)).drew=.ok (.slice a6 (R.file.classes.length + 1) c6) w6)∧Hid (DAt B (w6.setCell ⟨P.fb,11,none⟩ (.slice a6 (R.file.classes.length + 1) c6)) rb { R with file:={ R.file with classes:=R.file.classes ++ [c] } } { P with vc:=.slice a6 (R.file.classes.length + 1) c6 } v A∧Below B w (w6.setCell ⟨P.fb,11,none⟩ (.slice a6 (R.file.classes.length + 1) c6))):=by
 have h5:=h.below b5
 have k115:=h5.file.cells.2.2.2.2.2.2.1
 obtain ⟨av,cv,ev,-,-⟩:=own_len h5.file.clss
 have hcb5:cb < W5.heap.size:=lt_some hblk
 have hne:P.vc.ownBlock≠some cb:=fun q => by
  have:=(h.file.clss.lt _ q).2
  omega
 obtain ⟨a6,c6,w6,hap,o6,k6,l6,b6⟩:=push1 (B:=B) (w:=W5) (X:=(W5.alloc (.cells #[.int .i64 c.flag,.int .i64 c.kind,.bool c.cross,.int .i64 (c.first:Nat),.int .i64 (c.count:Nat)] 52)).drew) (t:=94) (v:=P.vc) (news:=dclsC c) Tryz.underlying94 infoDC rfl (by decide) h5.file.clss h5.base (((Below.refl _ _).alloc (Nat.le_refl _) _).drew) (alloc_new W5 _) rfl (by simp [dclsC,Value.oneCell']) (by omega) (by decide) 94
 rw [ev] at k115 hap
 have hf6:=(k6.cells _ _ _ _ h5.file.fil (by decide)).trans h5.file.fil
 have hr6:=(k6.cells _ _ _ _ h5.rdr (by decide)).trans h5.rdr
 have HBA:=fun (a:Nat) (i:Nat) (ha:a < W5.heap.size) => ((Below.refl W5.heap.size W5).alloc (Nat.le_refl _) (.cells #[.int .i64 c.flag,.int .i64 c.kind,.bool c.cross,.int .i64 (c.first:Nat),.int .i64 (c.count:Nat)] 52)).drew.cell (p:=⟨a,i,none⟩) ha
 refine ⟨av,cv,a6,c6,w6,⟨h5.cells.1,k115,cblk_all hblk⟩,⟨(HBA rb 0 h5.lt).trans h5.cells.1,(HBA P.fb 11 h5.file.lt).trans k115,cblk_all (alloc_heap1 hblk _)⟩,⟨by simp [World.cell?,hr6,drdrC],?_,cblk_all ((b6 cb hcb5 hne).trans hblk)⟩,⟨by simp [World.frozen?,hf6],lt_some hf6⟩,hap,h.addCls c hc b5 k6 l6 o6⟩
 rw [← ev]
 simp [World.cell?,hf6,dfilC]
theorem class_doc {B rb:Nat} {w:World} {R:Rdr} {P:DPts} {v:Value} {A:List (Nat × List Bs)} (h:DAt B w rb R P v A) (k:Int) (hd:List Bs) (hv:Value) (hrow:RowIn B w hv hd) (hlen:hd.length=4) (hf:∀ f ∈ hd,f.length≤65536∧f≠[]) (hk:(fld hd 0=[80,70,88]∧k=1)∨(fld hd 0=[83,70,88]∧k=2)) (hcn:R.file.classes.length≤65536) :
  Calls Tryz.prog 66 #[ptr rb,hv] w (DRes B rb v A w (doClass k R hd)):=by
 obtain ⟨d0,-⟩:=h.cells
 have HROW0:=hide hrow
 obtain ⟨g,cap,rfl,hg,hgn,hc⟩:=hrow.get
 have HROW:=hide (show RowIn B w (.slice (some ⟨g,0,none⟩) hd.length cap) hd from unhide HROW0)
 have HC:Hid (∀ W,Below w.heap.size w W→∀ i,i < 4→W.cell? ⟨g,i,none⟩=some (.string (Fld.str (fld hd i)))):=fun W b i hi => ((b.mono h.base).cell (p:=⟨g,i,none⟩) hg).trans (hc i (by omega))
 have hsz:=fun i (hi:i < 4) => (hf _ (List.mem_of_getElem? (fld_get (row:=hd) (i:=i) (by omega)))).1
 have HFR:=hide (fresh_doc h (Fld.str (fld hd 1)) (by rw [fstr_wd,Wd.str_size];have:=hsz 1 (by decide);unfold maxLen;omega))
 rw [str_toList] at HFR
 have HN:=hide (fun W => NumW.ref_any (Fld.str (fld hd 3)) 1024 W (by rw [fstr_wd,Wd.str_size];have:=hsz 3 (by decide);unfold maxLen;omega) (by decide) (by decide))
 rw [str_toList] at HN
 have HH:=hide h
 have HBW:Hid (∀ w1,Below w.heap.size w w1→Below B w w1):=fun w1 b => b.mono h.base
 have HLEN:=hide hlen
 have HKK:Hid (fld hd 0=[80,70,88]∨fld hd 0=[83,70,88]):=hk.imp And.left And.left
 have c1:=unhide HC w (Below.refl _ _) 1 (by decide)
 have hgw:g < w.heap.size:=Nat.lt_of_lt_of_le hg h.base
 have hnum:numb R.line (fld hd 3) 1024=if Num.numE (fld hd 3) 1024=0 then .ok (Num.numN (fld hd 3) 1024).toNat else .error (R.line,13):=rfl
 have HDK:=hide hk
 rw [hlen] at hgn ⊢
 clear hrow hc hsz h
 by_cases hfe:(frN R.file (fld hd 1)).2=0
 ·obtain ⟨hnf,hx1,hx2⟩:=fr_bound hfe
  have HFP:=hide (And.intro hx1 hx2)
  by_cases hyn:fld hd 2≠[89]∧fld hd 2≠[78]
  ·have HX:=hide (doClass_v (k:=k) hnf hyn)
   have t1:=lst_f (s:=Fld.str (fld hd 2)) (l:=[89]) (by rw [str_toList];exact hyn.1)
   have t2:=lst_f (s:=Fld.str (fld hd 2)) (l:=[78]) (by rw [str_toList];exact hyn.2)
   have t3:((Fld.str (fld hd 2)).toList != [89])=true:=by rw [bne,t1];rfl
   have t4:((Fld.str (fld hd 2)).toList != [78])=true:=by rw [bne,t2];rfl
   rw [hfe] at HFR
   clear hnf hx1 hx2 hyn hnum hfe hk
   generalize (frN R.file (fld hd 1)).1=x at *
   go_enter Tryz.func66,Tryz.ntmps66
   go_wp2_with fail
   refine (unhide HFR).mono ?_
   rintro e w2 ⟨rfl,b2⟩
   have HB2:=hide b2
   have c2:=unhide HC _ b2 2 (by decide)
   have HA2:=hide ((unhide HH).below b2).lineAt
   clear b2
   go_wp2_with fail
   go_ret
   exact DRes.no (unhide HX) (unhide HBW _ (unhide HB2)) (by decide) rfl (unhide HA2)
  ·by_cases hne:Num.numE (fld hd 3) 1024=0
   ·obtain ⟨n1,n2⟩:=num_pos (m:=1024) hne
    have n1:Num.numN (fld hd 3) 1024=((Num.numN (fld hd 3) 1024).toNat:Nat):=n1
    rw [if_pos hne] at hnum
    have HXM:=hide (fun h4 => doClass_m (k:=k) hnf hyn hnum h4)
    have HXT0:=hide (fun h4 => doClass_t (k:=k) hnf hyn hnum h4)
    have n2:(Num.numN (fld hd 3) 1024).toNat≤1024:=n2
    rw [hne,n1] at HN
    generalize (Num.numN (fld hd 3) 1024).toNat=n at *
    rw [hfe] at HFR
    have HYN:=hide hyn
    clear hnf hx1 hx2 hnum hfe hk hne n1 hyn
    generalize (frN R.file (fld hd 1)).1=x at *
    have HN2:=hide n2
    by_cases h4:1024 < R.file.rules.length + n
    ·have HX:=hide (unhide HXM h4)
     have h4i:(1024:Int) < (R.file.rules.length:Int) + (n:Int):=by omega
     have hri:=(unhide HH).file.ok.rul
     clear HXM HXT0 HN2
     by_cases hY:fld hd 2=[89]
     ·have t1:=lst_t (s:=Fld.str (fld hd 2)) (l:=[89]) (by rw [str_toList];exact hY)
      have t3:((Fld.str (fld hd 2)).toList != [89])=false:=by rw [bne,t1];rfl
      clear hY
      go_enter Tryz.func66,Tryz.ntmps66
      go_wp2_with fail
      refine (unhide HFR).mono ?_
      rintro e w2 ⟨rfl,b2⟩
      have HB2:=hide b2
      have c0:=unhide HC _ b2 0 (by decide)
      have c2:=unhide HC _ b2 2 (by decide)
      have c3:=unhide HC _ b2 3 (by decide)
      have HA2:=hide ((unhide HH).below b2)
      have hrb2:=(unhide HA2).lt
      have hfb2:=(unhide HA2).file.lt
      have hg2:g < w2.heap.size:=Nat.lt_of_lt_of_le hgw b2.size
      have d02:=(unhide HA2).cells.1
      have k122:=(unhide HA2).file.cells.2.2.2.2.2.2.2.1
      obtain ⟨au,cu,eu,-,-⟩:=own_len (unhide HA2).file.ruls
      rw [eu] at k122
      clear b2
      go_wp2_with fail
      refine (unhide HN _).mono ?_
      rintro e w2 ⟨rfl,rfl⟩
      go_wp2_with fail
      go_ret
      exact DRes.no (unhide HX) (unhide HBW _ (unhide HB2)) (by decide) rfl (unhide HA2).lineAt
     ·have hNN:fld hd 2=[78]:=Classical.byContradiction fun q => unhide HYN ⟨hY,q⟩
      have t1:=lst_f (s:=Fld.str (fld hd 2)) (l:=[89]) (by rw [str_toList];exact hY)
      have t2:=lst_t (s:=Fld.str (fld hd 2)) (l:=[78]) (by rw [str_toList];exact hNN)
      have t3:((Fld.str (fld hd 2)).toList != [89])=true:=by rw [bne,t1];rfl
      have t4:((Fld.str (fld hd 2)).toList != [78])=false:=by rw [bne,t2];rfl
      clear hY hNN
      go_enter Tryz.func66,Tryz.ntmps66
      go_wp2_with fail
      refine (unhide HFR).mono ?_
      rintro e w2 ⟨rfl,b2⟩
      have HB2:=hide b2
      have c0:=unhide HC _ b2 0 (by decide)
      have c2:=unhide HC _ b2 2 (by decide)
      have c3:=unhide HC _ b2 3 (by decide)
      have HA2:=hide ((unhide HH).below b2)
      have hrb2:=(unhide HA2).lt
      have hfb2:=(unhide HA2).file.lt
      have hg2:g < w2.heap.size:=Nat.lt_of_lt_of_le hgw b2.size
      have d02:=(unhide HA2).cells.1
      have k122:=(unhide HA2).file.cells.2.2.2.2.2.2.2.1
      obtain ⟨au,cu,eu,-,-⟩:=own_len (unhide HA2).file.ruls
      rw [eu] at k122
      clear b2
      go_wp2_with fail
      refine (unhide HN _).mono ?_
      rintro e w2 ⟨rfl,rfl⟩
      go_wp2_with fail
      go_ret
      exact DRes.no (unhide HX) (unhide HBW _ (unhide HB2)) (by decide) rfl (unhide HA2).lineAt
    ·have HN1:Hid (R.file.rules.length + n≤1024):=Nat.le_of_not_lt h4
     have HXT:Hid (∀ (k':Int) (b:Bool),(((fld hd 0=[80,70,88]∧k'=1)∨(fld hd 0=[83,70,88]∧k'=2))∧(fld hd 2 == [89])=b)→doClass k R hd=times (stepX (rulX ⟨x,k',b,R.file.rules.length,n⟩) (begOf hd)) n { R with file:={ R.file with classes:=R.file.classes ++ [⟨x,k',b,R.file.rules.length,n⟩] } }):=by
      rintro k' b ⟨q1,q2⟩
      have e1:k=k':=by
       rcases unhide HDK with ⟨a1,a2⟩ | ⟨a1,a2⟩ <;> rcases q1 with ⟨b1,b2⟩ | ⟨b1,b2⟩
       ·rw [a2,b2]
       ·rw [a1] at b1;exact absurd b1 (by decide)
       ·rw [a1] at b1;exact absurd b1 (by decide)
       ·rw [a2,b2]
      rw [unhide HXT0 h4,e1]
      have e2:cls k' x R hd n=⟨x,k',b,R.file.rules.length,n⟩:=by rw [← q2];rfl
      have e3:begOf hd=[fld hd 0,fld hd 1]:=if_pos (unhide HLEN)
      rw [e2,e3]
      rw [show rulStep [fld hd 0,fld hd 1] (⟨x,k',b,R.file.rules.length,n⟩:Cls)=stepX (rulX ⟨x,k',b,R.file.rules.length,n⟩) [fld hd 0,fld hd 1] from funext (rulStep_step _ _)]
      rfl
     have h4i:¬ (1024:Int) < (R.file.rules.length:Int) + (n:Int):=by omega
     clear HXM HXT0
     by_cases hY:fld hd 2=[89]
     ·have t1:=lst_t (s:=Fld.str (fld hd 2)) (l:=[89]) (by rw [str_toList];exact hY)
      have t3:((Fld.str (fld hd 2)).toList != [89])=false:=by rw [bne,t1];rfl
      have HCR:Hid ((fld hd 2 == [89])=true):=by rw [Hid,hY];rfl
      clear hY
      go_enter Tryz.func66,Tryz.ntmps66
      go_wp2_with fail
      refine (unhide HFR).mono ?_
      rintro e w2 ⟨rfl,b2⟩
      have HB2:=hide b2
      have c0:=unhide HC _ b2 0 (by decide)
      have c2:=unhide HC _ b2 2 (by decide)
      have c3:=unhide HC _ b2 3 (by decide)
      have HA2:=hide ((unhide HH).below b2)
      have hrb2:=(unhide HA2).lt
      have hfb2:=(unhide HA2).file.lt
      have hg2:g < w2.heap.size:=Nat.lt_of_lt_of_le hgw b2.size
      have d02:=(unhide HA2).cells.1
      have k122:=(unhide HA2).file.cells.2.2.2.2.2.2.2.1
      obtain ⟨au,cu,eu,-,-⟩:=own_len (unhide HA2).file.ruls
      rw [eu] at k122
      clear b2
      go_wp2_with fail
      refine (unhide HN _).mono ?_
      rintro e w2 ⟨rfl,rfl⟩
      go_wp2_with fail
      go_region
      by_cases hP:fld hd 0=[80,70,88]
      ·have t0:=lst_t (s:=Fld.str (fld hd 0)) (l:=[80,70,88]) (by rw [str_toList];exact hP)
       have HPF:=hide hP
       clear hP
       go_wp2_with fail
       obtain ⟨W5,hW5⟩:∃ W5,(w2.alloc (.cells #[.int .i64 x,.int .i64 1,.bool true,.int .i64 (R.file.rules.length:Nat),.int .i64 (n:Nat)] 52)).drew=W5:=⟨_,rfl⟩
       have hblk:W5.heap[w2.heap.size]?=some (.cells (dclsC ⟨x,1,true,R.file.rules.length,n⟩).toArray 52 (0,0)):=by
        rw [← hW5]
        exact alloc_new w2 _
       have HB5:Hid (Below w.heap.size w W5):=by
        rw [← hW5]
        exact (((unhide HB2).alloc (unhide HB2).size _).drew)
       rw [hW5]
       obtain ⟨av,cv,a6,c6,w6,H0,HA,H6,HF6,HAP,HZ⟩:=cls_grown (unhide HH) (c:=⟨x,1,true,R.file.rules.length,n⟩) (unhide HFP) (unhide HB5) (unhide HB2).size hblk hcn
       have HGR:=hide (group_doc (unhide HZ).1 hd (.slice (some ⟨g,0,none⟩) hd.length cap) ((unhide HROW).below (unhide HZ).2) (.inr (unhide HLEN)) (unhide HN2) (grp_cls (R:=R) (c:=⟨x,1,true,R.file.rules.length,n⟩) (unhide HKK) (unhide HN1)) ⟨rfl,rfl⟩)
       rw [unhide HLEN] at HGR
       have HX5:=hide (unhide HXT 1 true ⟨.inl ⟨unhide HPF,rfl⟩,unhide HCR⟩)
       clear hblk hW5
       refine reg14_wp (c:=⟨x,1,true,R.file.rules.length,n⟩) H0 HA H6 HF6 HAP _ _ _ _ _ _ _ _ _ _ _ _ _ _ _ _ _ _ _ _ _ _ _ _ _ _ _ _ _ _ _ _ _ _ _ _ _ _ _ _ _ _ _ _ _ _ _ _ _ _ _ _ _ _ _ _ _ _ _ _ _ _ _ _ _ _ _ _ _ _ _ _ _ _ _ _ _ _ _ _ _ _ _ _ _ _ _ _ _ ?_
       rename_i K hK
       intro x71 x72 x73 x74 x75 x76 x77 x78 x79 x80 x81 x82 x83 x84 x85 x86
       apply hK
       go_wp2_with fail
       refine (unhide HGR).mono ?_
       rintro e w8 hres
       obtain ⟨cc,rfl,hfin⟩:=hres.fin
       have HFIN:=hide (hfin w (unhide HZ).2)
       clear hfin hres
       go_wp2_with fail
       go_ret
       rw [unhide HX5]
       exact unhide HFIN
      ·have HPF:Hid (fld hd 0=[83,70,88]):=(unhide HKK).resolve_left hP
       have t0:=lst_f (s:=Fld.str (fld hd 0)) (l:=[80,70,88]) (by rw [str_toList];exact hP)
       clear hP
       go_wp2_with fail
       obtain ⟨W5,hW5⟩:∃ W5,(w2.alloc (.cells #[.int .i64 x,.int .i64 2,.bool true,.int .i64 (R.file.rules.length:Nat),.int .i64 (n:Nat)] 52)).drew=W5:=⟨_,rfl⟩
       have hblk:W5.heap[w2.heap.size]?=some (.cells (dclsC ⟨x,2,true,R.file.rules.length,n⟩).toArray 52 (0,0)):=by
        rw [← hW5]
        exact alloc_new w2 _
       have HB5:Hid (Below w.heap.size w W5):=by
        rw [← hW5]
        exact (((unhide HB2).alloc (unhide HB2).size _).drew)
       rw [hW5]
       obtain ⟨av,cv,a6,c6,w6,H0,HA,H6,HF6,HAP,HZ⟩:=cls_grown (unhide HH) (c:=⟨x,2,true,R.file.rules.length,n⟩) (unhide HFP) (unhide HB5) (unhide HB2).size hblk hcn
       have HGR:=hide (group_doc (unhide HZ).1 hd (.slice (some ⟨g,0,none⟩) hd.length cap) ((unhide HROW).below (unhide HZ).2) (.inr (unhide HLEN)) (unhide HN2) (grp_cls (R:=R) (c:=⟨x,2,true,R.file.rules.length,n⟩) (unhide HKK) (unhide HN1)) ⟨rfl,rfl⟩)
       rw [unhide HLEN] at HGR
       have HX5:=hide (unhide HXT 2 true ⟨.inr ⟨unhide HPF,rfl⟩,unhide HCR⟩)
       clear hblk hW5
       refine reg14_wp (c:=⟨x,2,true,R.file.rules.length,n⟩) H0 HA H6 HF6 HAP _ _ _ _ _ _ _ _ _ _ _ _ _ _ _ _ _ _ _ _ _ _ _ _ _ _ _ _ _ _ _ _ _ _ _ _ _ _ _ _ _ _ _ _ _ _ _ _ _ _ _ _ _ _ _ _ _ _ _ _ _ _ _ _ _ _ _ _ _ _ _ _ _ _ _ _ _ _ _ _ _ _ _ _ _ _ _ _ _ ?_
       rename_i K hK
       intro x71 x72 x73 x74 x75 x76 x77 x78 x79 x80 x81 x82 x83 x84 x85 x86
       apply hK
       go_wp2_with fail
       refine (unhide HGR).mono ?_
       rintro e w8 hres
       obtain ⟨cc,rfl,hfin⟩:=hres.fin
       have HFIN:=hide (hfin w (unhide HZ).2)
       clear hfin hres
       go_wp2_with fail
       go_ret
       rw [unhide HX5]
       exact unhide HFIN
     ·have hNN:fld hd 2=[78]:=Classical.byContradiction fun q => unhide HYN ⟨hY,q⟩
      have t1:=lst_f (s:=Fld.str (fld hd 2)) (l:=[89]) (by rw [str_toList];exact hY)
      have t2:=lst_t (s:=Fld.str (fld hd 2)) (l:=[78]) (by rw [str_toList];exact hNN)
      have t3:((Fld.str (fld hd 2)).toList != [89])=true:=by rw [bne,t1];rfl
      have t4:((Fld.str (fld hd 2)).toList != [78])=false:=by rw [bne,t2];rfl
      have HCR:Hid ((fld hd 2 == [89])=false):=by rw [Hid,hNN];rfl
      clear hY hNN
      go_enter Tryz.func66,Tryz.ntmps66
      go_wp2_with fail
      refine (unhide HFR).mono ?_
      rintro e w2 ⟨rfl,b2⟩
      have HB2:=hide b2
      have c0:=unhide HC _ b2 0 (by decide)
      have c2:=unhide HC _ b2 2 (by decide)
      have c3:=unhide HC _ b2 3 (by decide)
      have HA2:=hide ((unhide HH).below b2)
      have hrb2:=(unhide HA2).lt
      have hfb2:=(unhide HA2).file.lt
      have hg2:g < w2.heap.size:=Nat.lt_of_lt_of_le hgw b2.size
      have d02:=(unhide HA2).cells.1
      have k122:=(unhide HA2).file.cells.2.2.2.2.2.2.2.1
      obtain ⟨au,cu,eu,-,-⟩:=own_len (unhide HA2).file.ruls
      rw [eu] at k122
      clear b2
      go_wp2_with fail
      refine (unhide HN _).mono ?_
      rintro e w2 ⟨rfl,rfl⟩
      go_wp2_with fail
      go_region
      by_cases hP:fld hd 0=[80,70,88]
      ·have t0:=lst_t (s:=Fld.str (fld hd 0)) (l:=[80,70,88]) (by rw [str_toList];exact hP)
       have HPF:=hide hP
       clear hP
       go_wp2_with fail
       obtain ⟨W5,hW5⟩:∃ W5,(w2.alloc (.cells #[.int .i64 x,.int .i64 1,.bool false,.int .i64 (R.file.rules.length:Nat),.int .i64 (n:Nat)] 52)).drew=W5:=⟨_,rfl⟩
       have hblk:W5.heap[w2.heap.size]?=some (.cells (dclsC ⟨x,1,false,R.file.rules.length,n⟩).toArray 52 (0,0)):=by
        rw [← hW5]
        exact alloc_new w2 _
       have HB5:Hid (Below w.heap.size w W5):=by
        rw [← hW5]
        exact (((unhide HB2).alloc (unhide HB2).size _).drew)
       rw [hW5]
       obtain ⟨av,cv,a6,c6,w6,H0,HA,H6,HF6,HAP,HZ⟩:=cls_grown (unhide HH) (c:=⟨x,1,false,R.file.rules.length,n⟩) (unhide HFP) (unhide HB5) (unhide HB2).size hblk hcn
       have HGR:=hide (group_doc (unhide HZ).1 hd (.slice (some ⟨g,0,none⟩) hd.length cap) ((unhide HROW).below (unhide HZ).2) (.inr (unhide HLEN)) (unhide HN2) (grp_cls (R:=R) (c:=⟨x,1,false,R.file.rules.length,n⟩) (unhide HKK) (unhide HN1)) ⟨rfl,rfl⟩)
       rw [unhide HLEN] at HGR
       have HX5:=hide (unhide HXT 1 false ⟨.inl ⟨unhide HPF,rfl⟩,unhide HCR⟩)
       clear hblk hW5
       refine reg14_wp (c:=⟨x,1,false,R.file.rules.length,n⟩) H0 HA H6 HF6 HAP _ _ _ _ _ _ _ _ _ _ _ _ _ _ _ _ _ _ _ _ _ _ _ _ _ _ _ _ _ _ _ _ _ _ _ _ _ _ _ _ _ _ _ _ _ _ _ _ _ _ _ _ _ _ _ _ _ _ _ _ _ _ _ _ _ _ _ _ _ _ _ _ _ _ _ _ _ _ _ _ _ _ _ _ _ _ _ _ _ ?_
       rename_i K hK
       intro x71 x72 x73 x74 x75 x76 x77 x78 x79 x80 x81 x82 x83 x84 x85 x86
       apply hK
       go_wp2_with fail
       refine (unhide HGR).mono ?_
       rintro e w8 hres
       obtain ⟨cc,rfl,hfin⟩:=hres.fin
       have HFIN:=hide (hfin w (unhide HZ).2)
       clear hfin hres
       go_wp2_with fail
       go_ret
       rw [unhide HX5]
       exact unhide HFIN
      ·have HPF:Hid (fld hd 0=[83,70,88]):=(unhide HKK).resolve_left hP
       have t0:=lst_f (s:=Fld.str (fld hd 0)) (l:=[80,70,88]) (by rw [str_toList];exact hP)
       clear hP
       go_wp2_with fail
       obtain ⟨W5,hW5⟩:∃ W5,(w2.alloc (.cells #[.int .i64 x,.int .i64 2,.bool false,.int .i64 (R.file.rules.length:Nat),.int .i64 (n:Nat)] 52)).drew=W5:=⟨_,rfl⟩
       have hblk:W5.heap[w2.heap.size]?=some (.cells (dclsC ⟨x,2,false,R.file.rules.length,n⟩).toArray 52 (0,0)):=by
        rw [← hW5]
        exact alloc_new w2 _
       have HB5:Hid (Below w.heap.size w W5):=by
        rw [← hW5]
        exact (((unhide HB2).alloc (unhide HB2).size _).drew)
       rw [hW5]
       obtain ⟨av,cv,a6,c6,w6,H0,HA,H6,HF6,HAP,HZ⟩:=cls_grown (unhide HH) (c:=⟨x,2,false,R.file.rules.length,n⟩) (unhide HFP) (unhide HB5) (unhide HB2).size hblk hcn
       have HGR:=hide (group_doc (unhide HZ).1 hd (.slice (some ⟨g,0,none⟩) hd.length cap) ((unhide HROW).below (unhide HZ).2) (.inr (unhide HLEN)) (unhide HN2) (grp_cls (R:=R) (c:=⟨x,2,false,R.file.rules.length,n⟩) (unhide HKK) (unhide HN1)) ⟨rfl,rfl⟩)
       rw [unhide HLEN] at HGR
       have HX5:=hide (unhide HXT 2 false ⟨.inr ⟨unhide HPF,rfl⟩,unhide HCR⟩)
       clear hblk hW5
       refine reg14_wp (c:=⟨x,2,false,R.file.rules.length,n⟩) H0 HA H6 HF6 HAP _ _ _ _ _ _ _ _ _ _ _ _ _ _ _ _ _ _ _ _ _ _ _ _ _ _ _ _ _ _ _ _ _ _ _ _ _ _ _ _ _ _ _ _ _ _ _ _ _ _ _ _ _ _ _ _ _ _ _ _ _ _ _ _ _ _ _ _ _ _ _ _ _ _ _ _ _ _ _ _ _ _ _ _ _ _ _ _ _ ?_
       rename_i K hK
       intro x71 x72 x73 x74 x75 x76 x77 x78 x79 x80 x81 x82 x83 x84 x85 x86
       apply hK
       go_wp2_with fail
       refine (unhide HGR).mono ?_
       rintro e w8 hres
       obtain ⟨cc,rfl,hfin⟩:=hres.fin
       have HFIN:=hide (hfin w (unhide HZ).2)
       clear hfin hres
       go_wp2_with fail
       go_ret
       rw [unhide HX5]
       exact unhide HFIN
   ·have HX:=hide (doClass_n (k:=k) hnf hyn (by rw [hnum,if_neg hne]))
    have hn13:Num.numE (fld hd 3) 1024=13:=(numE_or _ _).resolve_left hne
    rw [hn13] at HN
    have HYN:=hide hyn
    rw [hfe] at HFR
    clear hnf hx1 hx2 hnum hfe hk hne hyn hn13
    generalize (frN R.file (fld hd 1)).1=x at *
    generalize Num.numN (fld hd 3) 1024=nn at *
    by_cases hY:fld hd 2=[89]
    ·have t1:=lst_t (s:=Fld.str (fld hd 2)) (l:=[89]) (by rw [str_toList];exact hY)
     have t3:((Fld.str (fld hd 2)).toList != [89])=false:=by rw [bne,t1];rfl
     clear hY
     go_enter Tryz.func66,Tryz.ntmps66
     go_wp2_with fail
     refine (unhide HFR).mono ?_
     rintro e w2 ⟨rfl,b2⟩
     have HB2:=hide b2
     have c0:=unhide HC _ b2 0 (by decide)
     have c2:=unhide HC _ b2 2 (by decide)
     have c3:=unhide HC _ b2 3 (by decide)
     have HA2:=hide ((unhide HH).below b2)
     have hrb2:=(unhide HA2).lt
     have hfb2:=(unhide HA2).file.lt
     have hg2:g < w2.heap.size:=Nat.lt_of_lt_of_le hgw b2.size
     have d02:=(unhide HA2).cells.1
     clear b2
     go_wp2_with fail
     refine (unhide HN _).mono ?_
     rintro e w2 ⟨rfl,rfl⟩
     go_wp2_with fail
     go_ret
     exact DRes.no (unhide HX) (unhide HBW _ (unhide HB2)) (by decide) rfl (unhide HA2).lineAt
    ·have hNN:fld hd 2=[78]:=Classical.byContradiction fun q => unhide HYN ⟨hY,q⟩
     have t1:=lst_f (s:=Fld.str (fld hd 2)) (l:=[89]) (by rw [str_toList];exact hY)
     have t2:=lst_t (s:=Fld.str (fld hd 2)) (l:=[78]) (by rw [str_toList];exact hNN)
     have t3:((Fld.str (fld hd 2)).toList != [89])=true:=by rw [bne,t1];rfl
     have t4:((Fld.str (fld hd 2)).toList != [78])=false:=by rw [bne,t2];rfl
     clear hY hNN
     go_enter Tryz.func66,Tryz.ntmps66
     go_wp2_with fail
     refine (unhide HFR).mono ?_
     rintro e w2 ⟨rfl,b2⟩
     have HB2:=hide b2
     have c0:=unhide HC _ b2 0 (by decide)
     have c2:=unhide HC _ b2 2 (by decide)
     have c3:=unhide HC _ b2 3 (by decide)
     have HA2:=hide ((unhide HH).below b2)
     have hrb2:=(unhide HA2).lt
     have hfb2:=(unhide HA2).file.lt
     have hg2:g < w2.heap.size:=Nat.lt_of_lt_of_le hgw b2.size
     have d02:=(unhide HA2).cells.1
     clear b2
     go_wp2_with fail
     refine (unhide HN _).mono ?_
     rintro e w2 ⟨rfl,rfl⟩
     go_wp2_with fail
     go_ret
     exact DRes.no (unhide HX) (unhide HBW _ (unhide HB2)) (by decide) rfl (unhide HA2).lineAt
 ·have hne:newFlag R (fld hd 1)=.error (R.line,(frN R.file (fld hd 1)).2.toNat):=by rw [fr_eq,if_neg hfe]
  have HX:=hide (doClass_f (k:=k) hne)
  have HNZ:=hide hfe
  have HPOS:=hide (fr_pos R.file (fld hd 1))
  have hez:((frN R.file (fld hd 1)).2 == 0)=false:=by rw [beq_eq_false_iff_ne];exact hfe
  clear hne hfe hnum hk
  generalize frN R.file (fld hd 1)=fr at *
  obtain ⟨x,ec⟩:=fr
  go_enter Tryz.func66,Tryz.ntmps66
  go_wp2_with fail
  refine (unhide HFR).mono ?_
  rintro e w2 ⟨rfl,b2⟩
  have HB2:=hide b2
  have HA2:=hide ((unhide HH).below b2).lineAt
  clear b2
  go_wp2_with fail
  go_ret
  exact DRes.no (unhide HX) (unhide HBW _ (unhide HB2)) (by have:=unhide HNZ;have:=unhide HPOS;simp at *;omega) (by have:=unhide HPOS;simp at *;omega) (unhide HA2)
theorem spec_set {F:Fil} {P:DPts} {i:Nat} (hi:i < 5) (ok:FilOk F) (x:Int):(dfilC F P).setIfInBounds (3 + i) (.int .i64 x)=dfilC { F with specials:=F.specials.set i x } P:=by
 obtain ⟨s0,s1,s2,s3,s4,hsp⟩:=five ok.spec
 rcases i with _ | _ | _ | _ | _ | i
 ·simp [dfilC,hsp]
 ·simp [dfilC,hsp]
 ·simp [dfilC,hsp]
 ·simp [dfilC,hsp]
 ·simp [dfilC,hsp]
 ·omega
theorem hd_special {B rb:Nat} {w:World} {R:Rdr} {P:DPts} {v:Value} {A:List (Nat × List Bs)} (h:DAt B w rb R P v A) (hd:List Bs) (hv:Value) (hrow:RowIn B w hv hd) (hlen:hd.length=2) (hf:∀ f ∈ hd,f.length≤65536∧f≠[]) {i:Nat} (hi:i < 5) (hk:spN (fld hd 0)=i) :
  Calls Tryz.prog 33 #[ptr rb,hv] w (DRes B rb v A w (doSpecial i R (fld hd 1))):=by
 have HROW0:=hide hrow
 obtain ⟨g,cap,rfl,hg,hgn,hc⟩:=hrow.get
 have q0:=hc 0 (by omega)
 have q1:=hc 1 (by omega)
 have hs1:=(hf _ (List.mem_of_getElem? (fld_get (row:=hd) (i:=1) (by omega)))).1
 have hne1:=(hf _ (List.mem_of_getElem? (fld_get (row:=hd) (i:=1) (by omega)))).2
 have HROW:=hide (show RowIn B w (.slice (some ⟨g,0,none⟩) hd.length cap) hd from unhide HROW0)
 have HSP:=hide (special_any (Fld.str (fld hd 0)) w)
 have hsp0:spN (Fld.str (fld hd 0)).data.toList=i:=by rw [str_toList,hk]
 rw [hsp0] at HSP
 clear hsp0
 have HH:=hide h
 have HBW:Hid (∀ w1,Below w.heap.size w w1→Below B w w1):=fun w1 b => b.mono h.base
 have HC1:Hid (∀ w1,Below w.heap.size w w1→w1.cell? ⟨g,1,none⟩=some (.string (Fld.str (fld hd 1)))):=fun w1 b => ((b.mono h.base).cell (p:=⟨g,1,none⟩) hg).trans (hc 1 (by omega))
 obtain ⟨d0,-⟩:=h.cells
 have hrb:=h.lt
 have hfb:=h.file.lt
 have hgw:g < w.heap.size:=Nat.lt_of_lt_of_le hg h.base
 have HLEN:=hide hlen
 have hi5:(i:Int) < 5:=by omega
 have hi0:(0:Int)≤(i:Int):=by omega
 have hin:¬ (i:Int) < 0:=by omega
 have HFR:=hide (fresh_doc h (Fld.str (fld hd 1)) (by rw [fstr_wd,Wd.str_size];unfold maxLen;omega))
 rw [str_toList] at HFR
 have HX1:=hide (fun (he:(frN R.file (fld hd 1)).2=0) => doSpecial_ok (i:=i) (fr_bound he).1)
 have HX2:=hide (fun (he:¬ (frN R.file (fld hd 1)).2=0) => doSpecial_no (i:=i) (show newFlag R (fld hd 1)=.error (R.line,(frN R.file (fld hd 1)).2.toNat) by rw [fr_eq,if_neg he]))
 have HXB:Hid (0≤(frN R.file (fld hd 1)).1∧(frN R.file (fld hd 1)).1≤65535):=by
  by_cases he:(frN R.file (fld hd 1)).2=0
  ·have:=fr_bound he
   exact ⟨by omega,this.2.2⟩
  ·have:(frN R.file (fld hd 1)).1=0:=by
    unfold frN at he ⊢
    split
    ·rfl
    ·split
     ·rfl
     ·rename_i a b
      rw [if_neg a,if_neg b] at he
      exact absurd rfl he
   rw [this]
   exact ⟨Int.le_refl _,by decide⟩
 have HPOS:=hide (fr_pos R.file (fld hd 1))
 have HFS:=hide (fun (w1:World) (b:Below w.heap.size w w1) (x:Int) (h0:0≤x) (h1:x≤65535) => h.fset b (F':={ R.file with specials:=R.file.specials.set i x }) (3 + i) (.int .i64 x) (spec_set hi h.file.ok x) rfl rfl rfl rfl (spec_ok h.file.ok i x h0 h1))
 have HSC:Hid (∀ w1,Below w.heap.size w w1→w1.cell? ⟨P.fb,3 + i,none⟩=some (.int .i64 (R.file.specials.getD i 0))∧w1.cell? ⟨rb,0,none⟩=some (.pointer (some ⟨P.fb,0,none⟩))∧w1.frozen? ⟨P.fb,3 + i,none⟩=false∧P.fb < w1.heap.size):=fun w1 b => ⟨(h.below b).file.spec i hi,(h.below b).cells.1,(h.below b).file.cells.2.2.2.2.2.2.2.2 _,(h.below b).file.lt⟩
 rw [hlen] at hgn ⊢
 clear hk hrow hc hf h hs1 hne1 HROW HROW0 hlen HLEN
 generalize frN R.file (fld hd 1)=fr at *
 obtain ⟨x,ec⟩:=fr
 generalize Fld.str (fld hd 0)=r0 at *
 generalize Fld.str (fld hd 1)=r1 at *
 go_enter Tryz.func33,Tryz.ntmps33
 go_wp2_with fail
 refine (unhide HSP).mono ?_
 rintro e w1 ⟨rfl,hw1⟩
 obtain rfl:=hw1.symm
 go_wp2_with fail
 refine (unhide HFR).mono ?_
 rintro e w2 ⟨rfl,b2⟩
 obtain ⟨s1,s2,s3,s4⟩:=unhide HSC _ b2
 have HB2:=hide b2
 clear b2
 go_wp2_with fail
 go_ret
 have HZ:=unhide HFS _ (unhide HB2) x (unhide HXB).1 (unhide HXB).2
 by_cases he:ec=0
 ·subst he
  exact DRes.yes (unhide HX1 rfl) HZ.2 HZ.1
 ·have hp:0≤ec:=unhide HPOS
  exact DRes.no (c:=ec.toNat) (unhide HX2 he) HZ.2 (by omega) (by omega) HZ.1.lineAt
theorem hd_set {B rb:Nat} {w:World} {R:Rdr} {P:DPts} {v:Value} {A:List (Nat × List Bs)} (h:DAt B w rb R P v A) (hd:List Bs) (hv:Value) (hrow:RowIn B w hv hd) (hlen:hd.length=2) (hf:∀ f ∈ hd,f.length≤65536∧f≠[]) (hk:fld hd 0=[83,69,84]) :
  Calls Tryz.prog 33 #[ptr rb,hv] w (DRes B rb v A w (doCharset R (fld hd 1))):=by
 have HROW0:=hide hrow
 obtain ⟨g,cap,rfl,hg,hgn,hc⟩:=hrow.get
 have q0:=hc 0 (by omega)
 have q1:=hc 1 (by omega)
 have hs1:=(hf _ (List.mem_of_getElem? (fld_get (row:=hd) (i:=1) (by omega)))).1
 have hne1:=(hf _ (List.mem_of_getElem? (fld_get (row:=hd) (i:=1) (by omega)))).2
 have HROW:=hide (show RowIn B w (.slice (some ⟨g,0,none⟩) hd.length cap) hd from unhide HROW0)
 have HSP:=hide (special_any (Fld.str (fld hd 0)) w)
 have hsp0:spN (Fld.str (fld hd 0)).data.toList=-1:=by rw [str_toList,hk];decide
 rw [hsp0] at HSP
 clear hsp0
 have HH:=hide h
 have HBW:Hid (∀ w1,Below w.heap.size w w1→Below B w w1):=fun w1 b => b.mono h.base
 have HC1:Hid (∀ w1,Below w.heap.size w w1→w1.cell? ⟨g,1,none⟩=some (.string (Fld.str (fld hd 1)))):=fun w1 b => ((b.mono h.base).cell (p:=⟨g,1,none⟩) hg).trans (hc 1 (by omega))
 obtain ⟨d0,-⟩:=h.cells
 have hrb:=h.lt
 have hfb:=h.file.lt
 have hgw:g < w.heap.size:=Nat.lt_of_lt_of_le hg h.base
 have HLEN:=hide hlen
 have t_FLAG:=lst_f (s:=Fld.str (fld hd 0)) (l:=[70,76,65,71]) (by rw [str_toList,hk];decide)
 have t_SET:=lst_t (s:=Fld.str (fld hd 0)) (l:=[83,69,84]) (by rw [str_toList,hk])
 have HBY:=hide (fun W => VlW.bytes_any (Fld.str (fld hd 1)) W (by rw [fstr_wd,Wd.str_size];unfold maxLen;omega))
 rw [str_toList] at HBY
 obtain ⟨k0,k1,-,-,-,-,-,-,kz⟩:=h.file.cells
 have ok:=h.file.ok
 have HFS:=hide (fun (w1:World) (b:Below w.heap.size w w1) => h.fset b (F':={ R.file with charset:=fld hd 1 }) 1 (.string (Fld.str (fld hd 1))) rfl rfl rfl rfl rfl ⟨ok.kind,ok.spec,ok.specB,ok.cls,ok.reps,ok.ali,ok.aliS,ok.rul,hs1⟩)
 rw [hlen] at hgn ⊢
 cases hb:(fld hd 1).all Wd.fit with
 | false =>
  have HX:=hide (doCharset_no (R:=R) (VlW.okB_bad hb))
  have HL:=hide h.lineAt
  rw [hb] at HBY
  clear hk hrow hc hf h hs1 hne1 HROW HROW0 hb ok hlen HLEN
  generalize Fld.str (fld hd 0)=r0 at *
  generalize Fld.str (fld hd 1)=r1 at *
  go_enter Tryz.func33,Tryz.ntmps33
  go_wp2_with fail
  refine (unhide HSP).mono ?_
  rintro e w1 ⟨rfl,hw1⟩
  obtain rfl:=hw1.symm
  go_wp2_with fail
  refine (unhide HBY _).mono ?_
  rintro e w2 ⟨rfl,hw2⟩
  obtain rfl:=hw2.symm
  go_wp2_with fail
  go_ret
  exact DRes.no (unhide HX) (Below.refl _ _) (by decide) rfl (unhide HL)
 | true =>
  have HX:=hide (doCharset_ok (R:=R) (ok_B (l:=0) hne1 hb).1)
  rw [hb] at HBY
  clear hk hrow hc hf h hs1 hne1 HROW HROW0 hb ok hlen HLEN
  generalize Fld.str (fld hd 0)=r0 at *
  generalize Fld.str (fld hd 1)=r1 at *
  go_enter Tryz.func33,Tryz.ntmps33
  go_wp2_with fail
  refine (unhide HSP).mono ?_
  rintro e w1 ⟨rfl,hw1⟩
  obtain rfl:=hw1.symm
  go_wp2_with fail
  refine (unhide HBY _).mono ?_
  rintro e w2 ⟨rfl,hw2⟩
  obtain rfl:=hw2.symm
  go_wp2_with fail
  go_region
  go_wp2_with fail
  go_ret
  have HZ:=unhide HFS _ ((Below.refl w.heap.size w).drew)
  exact DRes.yes (unhide HX) HZ.2 HZ.1
theorem hd_try {B rb:Nat} {w:World} {R:Rdr} {P:DPts} {v:Value} {A:List (Nat × List Bs)} (h:DAt B w rb R P v A) (hd:List Bs) (hv:Value) (hrow:RowIn B w hv hd) (hlen:hd.length=2) (hf:∀ f ∈ hd,f.length≤65536∧f≠[]) (hk:fld hd 0=[84,82,89]) :
  Calls Tryz.prog 33 #[ptr rb,hv] w (DRes B rb v A w (doLetters R (fld hd 1))):=by
 have HROW0:=hide hrow
 obtain ⟨g,cap,rfl,hg,hgn,hc⟩:=hrow.get
 have q0:=hc 0 (by omega)
 have q1:=hc 1 (by omega)
 have hs1:=(hf _ (List.mem_of_getElem? (fld_get (row:=hd) (i:=1) (by omega)))).1
 have hne1:=(hf _ (List.mem_of_getElem? (fld_get (row:=hd) (i:=1) (by omega)))).2
 have HROW:=hide (show RowIn B w (.slice (some ⟨g,0,none⟩) hd.length cap) hd from unhide HROW0)
 have HSP:=hide (special_any (Fld.str (fld hd 0)) w)
 have hsp0:spN (Fld.str (fld hd 0)).data.toList=-1:=by rw [str_toList,hk];decide
 rw [hsp0] at HSP
 clear hsp0
 have HH:=hide h
 have HBW:Hid (∀ w1,Below w.heap.size w w1→Below B w w1):=fun w1 b => b.mono h.base
 have HC1:Hid (∀ w1,Below w.heap.size w w1→w1.cell? ⟨g,1,none⟩=some (.string (Fld.str (fld hd 1)))):=fun w1 b => ((b.mono h.base).cell (p:=⟨g,1,none⟩) hg).trans (hc 1 (by omega))
 obtain ⟨d0,-⟩:=h.cells
 have hrb:=h.lt
 have hfb:=h.file.lt
 have hgw:g < w.heap.size:=Nat.lt_of_lt_of_le hg h.base
 have HLEN:=hide hlen
 have t_FLAG:=lst_f (s:=Fld.str (fld hd 0)) (l:=[70,76,65,71]) (by rw [str_toList,hk];decide)
 have t_SET:=lst_f (s:=Fld.str (fld hd 0)) (l:=[83,69,84]) (by rw [str_toList,hk];decide)
 have t_TRY:=lst_t (s:=Fld.str (fld hd 0)) (l:=[84,82,89]) (by rw [str_toList,hk])
 have ok:=h.file.ok
 have HFS:=hide (fun (w1:World) (b:Below w.heap.size w w1) (l:Bs) => h.fset b (F':={ R.file with letters:=l }) 2 (.string (Wd.str l)) rfl rfl rfl rfl rfl ⟨ok.kind,ok.spec,ok.specB,ok.cls,ok.reps,ok.ali,ok.aliS,ok.rul,ok.len⟩)
 have HSC:Hid (∀ w1,Below w.heap.size w w1→w1.cell? ⟨P.fb,2,none⟩=some (.string (Wd.str R.file.letters))∧w1.cell? ⟨rb,0,none⟩=some (.pointer (some ⟨P.fb,0,none⟩))∧w1.frozen? ⟨P.fb,2,none⟩=false∧P.fb < w1.heap.size):=fun w1 b => ⟨(h.below b).file.cells.2.2.1,(h.below b).cells.1,(h.below b).file.cells.2.2.2.2.2.2.2.2 _,(h.below b).file.lt⟩
 have hsz:(Fld.str (fld hd 1)).size≤140737488355328:=by rw [fstr_wd,Wd.str_size];omega
 rw [hlen] at hgn ⊢
 cases ho:VlW.okB (fld hd 1) with
 | false =>
  have HX:=hide (doLetters_no (R:=R) ho)
  have HT:=hide (LtR.ref_bad (Fld.str (fld hd 1)) w hsz (by rw [str_toList];exact ho))
  clear hk hrow hc hf h hs1 hne1 HROW HROW0 ho ok hsz hlen HLEN
  generalize Fld.str (fld hd 0)=r0 at *
  generalize Fld.str (fld hd 1)=r1 at *
  obtain ⟨s1,s2,s3,s4⟩:=unhide HSC _ (Below.refl _ w)
  go_enter Tryz.func33,Tryz.ntmps33
  go_wp2_with fail
  refine (unhide HSP).mono ?_
  rintro e w1 ⟨rfl,hw1⟩
  obtain rfl:=hw1.symm
  go_wp2_with fail
  refine (unhide HT).mono ?_
  rintro e w2 ⟨rfl,hw2⟩
  obtain rfl:=hw2.symm
  go_wp2_with fail
  go_ret
  have HZ:=unhide HFS _ (Below.refl _ w) []
  exact DRes.no (unhide HX) HZ.2 (by decide) rfl HZ.1.lineAt
 | true =>
  have HX:=hide (doLetters_ok (R:=R) ho)
  have HT:=hide (LtR.ref_ok (Fld.str (fld hd 1)) w hsz (by rw [str_toList];exact ho))
  rw [str_toList] at HT
  clear hk hrow hc hf h hs1 hne1 HROW HROW0 ho ok hsz hlen HLEN
  generalize Fld.str (fld hd 0)=r0 at *
  generalize Fld.str (fld hd 1)=r1 at *
  go_enter Tryz.func33,Tryz.ntmps33
  go_wp2_with fail
  refine (unhide HSP).mono ?_
  rintro e w1 ⟨rfl,hw1⟩
  obtain rfl:=hw1.symm
  go_wp2_with fail
  refine (unhide HT).mono ?_
  rintro e w2 ⟨rfl,b2⟩
  obtain ⟨s1,s2,s3,s4⟩:=unhide HSC _ b2
  have HB2:=hide b2
  clear b2
  go_wp2_with fail
  go_ret
  have HZ:=unhide HFS _ (unhide HB2) (Wd.uq [] (fld hd 1))
  exact DRes.yes (unhide HX) HZ.2 HZ.1
theorem hd_least {B rb:Nat} {w:World} {R:Rdr} {P:DPts} {v:Value} {A:List (Nat × List Bs)} (h:DAt B w rb R P v A) (hd:List Bs) (hv:Value) (hrow:RowIn B w hv hd) (hlen:hd.length=2) (hf:∀ f ∈ hd,f.length≤65536∧f≠[]) (hk:fld hd 0=[67,79,77,80,79,85,78,68,77,73,78]) :
  Calls Tryz.prog 33 #[ptr rb,hv] w (DRes B rb v A w (doLeast R (fld hd 1))):=by
 have HROW0:=hide hrow
 obtain ⟨g,cap,rfl,hg,hgn,hc⟩:=hrow.get
 have q0:=hc 0 (by omega)
 have q1:=hc 1 (by omega)
 have hs1:=(hf _ (List.mem_of_getElem? (fld_get (row:=hd) (i:=1) (by omega)))).1
 have hne1:=(hf _ (List.mem_of_getElem? (fld_get (row:=hd) (i:=1) (by omega)))).2
 have HROW:=hide (show RowIn B w (.slice (some ⟨g,0,none⟩) hd.length cap) hd from unhide HROW0)
 have HSP:=hide (special_any (Fld.str (fld hd 0)) w)
 have hsp0:spN (Fld.str (fld hd 0)).data.toList=-1:=by rw [str_toList,hk];decide
 rw [hsp0] at HSP
 clear hsp0
 have HH:=hide h
 have HBW:Hid (∀ w1,Below w.heap.size w w1→Below B w w1):=fun w1 b => b.mono h.base
 have HC1:Hid (∀ w1,Below w.heap.size w w1→w1.cell? ⟨g,1,none⟩=some (.string (Fld.str (fld hd 1)))):=fun w1 b => ((b.mono h.base).cell (p:=⟨g,1,none⟩) hg).trans (hc 1 (by omega))
 obtain ⟨d0,-⟩:=h.cells
 have hrb:=h.lt
 have hfb:=h.file.lt
 have hgw:g < w.heap.size:=Nat.lt_of_lt_of_le hg h.base
 have HLEN:=hide hlen
 have t_FLAG:=lst_f (s:=Fld.str (fld hd 0)) (l:=[70,76,65,71]) (by rw [str_toList,hk];decide)
 have t_SET:=lst_f (s:=Fld.str (fld hd 0)) (l:=[83,69,84]) (by rw [str_toList,hk];decide)
 have t_TRY:=lst_f (s:=Fld.str (fld hd 0)) (l:=[84,82,89]) (by rw [str_toList,hk];decide)
 have t_COMPOUNDMIN:=lst_t (s:=Fld.str (fld hd 0)) (l:=[67,79,77,80,79,85,78,68,77,73,78]) (by rw [str_toList,hk])
 have HN:=hide (fun W => NumW.ref_any (Fld.str (fld hd 1)) 64 W (by rw [fstr_wd,Wd.str_size];unfold maxLen;omega) (by decide) (by decide))
 rw [str_toList] at HN
 have hnum:numb R.line (fld hd 1) 64=if Num.numE (fld hd 1) 64=0 then .ok (Num.numN (fld hd 1) 64).toNat else .error (R.line,13):=rfl
 have HL:=hide h.lineAt
 obtain ⟨k0,-,-,k8,-,-,-,-,kz⟩:=h.file.cells
 have ok:=h.file.ok
 have HFS:=hide (fun (n:Nat) => h.fset (Below.refl _ w) (F':={ R.file with least:=n }) 8 (.int .i64 (n:Nat)) rfl rfl rfl rfl rfl ⟨ok.kind,ok.spec,ok.specB,ok.cls,ok.reps,ok.ali,ok.aliS,ok.rul,ok.len⟩)
 rw [hlen] at hgn ⊢
 by_cases hne:Num.numE (fld hd 1) 64=0
 ·obtain ⟨n1,n2⟩:=num_pos (m:=64) hne
  have n1:Num.numN (fld hd 1) 64=((Num.numN (fld hd 1) 64).toNat:Nat):=n1
  rw [if_pos hne] at hnum
  rw [hne,n1] at HN
  generalize (Num.numN (fld hd 1) 64).toNat=n at *
  by_cases h0:n=0
  ·subst h0
   have HX:=hide (doLeast_0 hnum)
   clear hk hrow hc hf h hs1 hne1 HROW HROW0 ok hlen HLEN n1 n2 hne hnum
   generalize Fld.str (fld hd 0)=r0 at *
   generalize Fld.str (fld hd 1)=r1 at *
   go_enter Tryz.func33,Tryz.ntmps33
   go_wp2_with fail
   refine (unhide HSP).mono ?_
   rintro e w1 ⟨rfl,hw1⟩
   obtain rfl:=hw1.symm
   go_wp2_with fail
   refine (unhide HN _).mono ?_
   rintro e w2 ⟨rfl,hw2⟩
   obtain rfl:=hw2.symm
   go_wp2_with fail
   go_ret
   exact DRes.no (unhide HX) (Below.refl _ _) (by decide) rfl (unhide HL)
  ·have HX:=hide (doLeast_ok hnum h0)
   have hn0:((n:Int) == 0)=false:=by rw [beq_eq_false_iff_ne];omega
   clear hk hrow hc hf h hs1 hne1 HROW HROW0 ok hlen HLEN n1 n2 hne hnum h0
   generalize Fld.str (fld hd 0)=r0 at *
   generalize Fld.str (fld hd 1)=r1 at *
   go_enter Tryz.func33,Tryz.ntmps33
   go_wp2_with fail
   refine (unhide HSP).mono ?_
   rintro e w1 ⟨rfl,hw1⟩
   obtain rfl:=hw1.symm
   go_wp2_with fail
   refine (unhide HN _).mono ?_
   rintro e w2 ⟨rfl,hw2⟩
   obtain rfl:=hw2.symm
   go_wp2_with fail
   go_ret
   exact DRes.yes (unhide HX) (unhide HFS n).2 (unhide HFS n).1
 ·have HX:=hide (doLeast_n (R:=R) (f:=fld hd 1) (e:=(R.line,13)) (by rw [hnum,if_neg hne]))
  have hn13:Num.numE (fld hd 1) 64=13:=(numE_or _ _).resolve_left hne
  rw [hn13] at HN
  clear hk hrow hc hf h hs1 hne1 HROW HROW0 ok hlen HLEN hne hnum hn13
  generalize Num.numN (fld hd 1) 64=nn at *
  generalize Fld.str (fld hd 0)=r0 at *
  generalize Fld.str (fld hd 1)=r1 at *
  go_enter Tryz.func33,Tryz.ntmps33
  go_wp2_with fail
  refine (unhide HSP).mono ?_
  rintro e w1 ⟨rfl,hw1⟩
  obtain rfl:=hw1.symm
  go_wp2_with fail
  refine (unhide HN _).mono ?_
  rintro e w2 ⟨rfl,hw2⟩
  obtain rfl:=hw2.symm
  go_wp2_with fail
  go_ret
  exact DRes.no (unhide HX) (Below.refl _ _) (by decide) rfl (unhide HL)
end Af
end Go.Proofs.YtmhegbeemgagkaaGreatDoor
