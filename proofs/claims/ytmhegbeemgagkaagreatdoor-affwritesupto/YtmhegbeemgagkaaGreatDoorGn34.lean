import Derived.Test.YtmhegbeemgagkaaGreatDoorGn33
import Derived.Test.YtmhegbeemgagkaaGreatDoorGn35
set_option maxHeartbeats 8000000
set_option maxRecDepth 100000
namespace Go.Proofs.YtmhegbeemgagkaaGreatDoor
open Go.RowKit
namespace Af
open RowB
theorem repStep_step (key:Bs) (R:Rdr):repStep key R=stepX repX [key] R:=by
 unfold repStep stepX repX
 cases Af.grow R [key] with
 | error e => rfl
 | ok p => rfl
theorem aliStep_step (key:Bs) (R:Rdr):aliStep key R=stepX aliX [key] R:=by
 unfold aliStep stepX aliX
 cases Af.grow R [key] with
 | error e => rfl
 | ok p => rfl
theorem grp_rep {B rb n:Nat} {v:Value} {A:List (Nat × List Bs)} {hd:List Bs} (hk:fld hd 0=[82,69,80]) (hn:n≤256):GrpIn B rb n v A hd repX (fun R j => R.file.reps.length=j):=by
 refine ⟨fun R0 R1 R' row j hq hg hx => ?_,fun j hj R0 R1 row hq hg W P rv hA hrI hfew hne h0 => ?_⟩
 ·obtain ⟨l,t,-,-,-,e,-,-⟩:=grow_rows hg
  unfold repX at hx
  split at hx
  ·cases hx
  ·injection hx with hx
   subst hx
   show (R1.file.reps ++ [_]).length=_
   rw [e,List.length_append,hq,List.length_singleton]
 ·obtain ⟨l,t,-,-,-,e,-,-⟩:=grow_rows hg
  exact inner_rep hA row rv hrI hfew hne (by rw [h0,hk]) (by rw [e];have:R0.file.reps.length=j:=hq;omega)
theorem grp_ali {B rb n:Nat} {v:Value} {A:List (Nat × List Bs)} {hd:List Bs} (hk:fld hd 0=[65,70]) (hn:n≤1024):GrpIn B rb n v A hd aliX (fun R j => R.file.aliases.length=j):=by
 refine ⟨fun R0 R1 R' row j hq hg hx => ?_,fun j hj R0 R1 row hq hg W P rv hA hrI hfew hne h0 => ?_⟩
 ·obtain ⟨l,t,-,-,-,e,-,-⟩:=grow_rows hg
  unfold aliX at hx
  split at hx
  ·cases hx
  ·injection hx with hx
   subst hx
   show (R1.file.aliases ++ [_]).length=_
   rw [e,List.length_append,hq,List.length_singleton]
 ·obtain ⟨l,t,-,-,-,e,-,-⟩:=grow_rows hg
  exact inner_ali hA row rv hrI hfew hne (by rw [h0,hk]) (by rw [e];have:R0.file.aliases.length=j:=hq;omega)
theorem hd_rep {B rb:Nat} {w:World} {R:Rdr} {P:DPts} {v:Value} {A:List (Nat × List Bs)} (h:DAt B w rb R P v A) (hd:List Bs) (hv:Value) (hrow:RowIn B w hv hd) (hlen:hd.length=2) (hf:∀ f ∈ hd,f.length≤65536∧f≠[]) (hk:fld hd 0=[82,69,80]) (hz:R.file.reps=[]) :
  Calls Tryz.prog 33 #[ptr rb,hv] w (DRes B rb v A w (doReps R hd)):=by
 have HROW0:=hide hrow
 obtain ⟨g,cap,rfl,hg,hgn,hc⟩:=hrow.get
 have q0:=hc 0 (by omega)
 have q1:=hc 1 (by omega)
 have hs1:=(hf _ (List.mem_of_getElem? (fld_get (row:=hd) (i:=1) (by omega)))).1
 have hne1:=(hf _ (List.mem_of_getElem? (fld_get (row:=hd) (i:=1) (by omega)))).2
 have HROW:=hide (show RowIn B w (.slice (some ⟨g,0,none⟩) hd.length cap) hd from unhide HROW0)
 have HSP:=hide (special_any (Fld.str (fld hd 0)) w)
 have hsp0:spN (Fld.str (fld hd 0)).data.toList=-1:=by rw [str_toList,hk];decide
 rw [hsp0] at HSP
 clear hsp0
 have HH:=hide h
 have HBW:Hid (∀ w1,Below w.heap.size w w1→Below B w w1):=fun w1 b => b.mono h.base
 have HC1:Hid (∀ w1,Below w.heap.size w w1→w1.cell? ⟨g,1,none⟩=some (.string (Fld.str (fld hd 1)))):=fun w1 b => ((b.mono h.base).cell (p:=⟨g,1,none⟩) hg).trans (hc 1 (by omega))
 obtain ⟨d0,-⟩:=h.cells
 have hrb:=h.lt
 have hfb:=h.file.lt
 have hgw:g < w.heap.size:=Nat.lt_of_lt_of_le hg h.base
 have HLEN:=hide hlen
 have t_FLAG:=lst_f (s:=Fld.str (fld hd 0)) (l:=[70,76,65,71]) (by rw [str_toList,hk];decide)
 have t_SET:=lst_f (s:=Fld.str (fld hd 0)) (l:=[83,69,84]) (by rw [str_toList,hk];decide)
 have t_TRY:=lst_f (s:=Fld.str (fld hd 0)) (l:=[84,82,89]) (by rw [str_toList,hk];decide)
 have t_COMPOUNDMIN:=lst_f (s:=Fld.str (fld hd 0)) (l:=[67,79,77,80,79,85,78,68,77,73,78]) (by rw [str_toList,hk];decide)
 have t_REP:=lst_t (s:=Fld.str (fld hd 0)) (l:=[82,69,80]) (by rw [str_toList,hk])
 have HN:=hide (fun W => NumW.ref_any (Fld.str (fld hd 1)) 256 W (by rw [fstr_wd,Wd.str_size];unfold maxLen;omega) (by decide) (by decide))
 rw [str_toList] at HN
 have hnum:numb R.line (fld hd 1) 256=if Num.numE (fld hd 1) 256=0 then .ok (Num.numN (fld hd 1) 256).toNat else .error (R.line,13):=rfl
 have HL:=hide h.lineAt
 have HKK:=hide hk
 by_cases hne:Num.numE (fld hd 1) 256=0
 ·obtain ⟨n1,n2⟩:=num_pos (m:=256) hne
  have n1:Num.numN (fld hd 1) 256=((Num.numN (fld hd 1) 256).toNat:Nat):=n1
  have n2:(Num.numN (fld hd 1) 256).toNat≤256:=n2
  rw [if_pos hne] at hnum
  rw [hne,n1] at HN
  have HX:=hide (doReps_t hnum)
  generalize (Num.numN (fld hd 1) 256).toNat=n at *
  have HG:=hide (group_doc h hd (.slice (some ⟨g,0,none⟩) hd.length cap) (unhide HROW) (.inl hlen) (by omega) (grp_rep hk n2) (by rw [hz];rfl))
  have hst:times (repStep (fld hd 0)) n R=times (stepX repX (begOf hd)) n R:=by
   rw [show begOf hd=[fld hd 0] from if_neg (by omega),show repStep (fld hd 0)=stepX repX [fld hd 0] from funext (repStep_step _)]
  have HY:=hide ((unhide HX).trans hst)
  rw [hlen] at hgn HG ⊢
  clear hk hrow hc hf h hs1 hne1 HROW HROW0 hlen HLEN n1 n2 hne hnum hst HX hz
  generalize Fld.str (fld hd 0)=r0 at *
  generalize Fld.str (fld hd 1)=r1 at *
  go_enter Tryz.func33,Tryz.ntmps33
  go_wp2_with fail
  refine (unhide HSP).mono ?_
  rintro e w1 ⟨rfl,hw1⟩
  obtain rfl:=hw1.symm
  go_wp2_with fail
  refine (unhide HN _).mono ?_
  rintro e w2 ⟨rfl,hw2⟩
  obtain rfl:=hw2.symm
  go_wp2_with fail
  refine (unhide HG).mono ?_
  rintro e w8 hres
  obtain ⟨cc,rfl,hfin⟩:=hres.fin
  have HFIN:=hide (hfin w (Below.refl _ _))
  clear hfin hres
  go_wp2_with fail
  go_ret
  rw [unhide HY]
  exact unhide HFIN
 ·have HX:=hide (doReps_n (R:=R) (hd:=hd) (e:=(R.line,13)) (by rw [hnum,if_neg hne]))
  have hn13:Num.numE (fld hd 1) 256=13:=(numE_or _ _).resolve_left hne
  rw [hn13] at HN
  rw [hlen] at hgn ⊢
  clear hk hrow hc hf h hs1 hne1 HROW HROW0 hlen HLEN hne hnum hn13 hz
  generalize Num.numN (fld hd 1) 256=nn at *
  generalize Fld.str (fld hd 0)=r0 at *
  generalize Fld.str (fld hd 1)=r1 at *
  go_enter Tryz.func33,Tryz.ntmps33
  go_wp2_with fail
  refine (unhide HSP).mono ?_
  rintro e w1 ⟨rfl,hw1⟩
  obtain rfl:=hw1.symm
  go_wp2_with fail
  refine (unhide HN _).mono ?_
  rintro e w2 ⟨rfl,hw2⟩
  obtain rfl:=hw2.symm
  go_wp2_with fail
  go_ret
  exact DRes.no (unhide HX) (Below.refl _ _) (by decide) rfl (unhide HL)
theorem hd_ali {B rb:Nat} {w:World} {R:Rdr} {P:DPts} {v:Value} {A:List (Nat × List Bs)} (h:DAt B w rb R P v A) (hd:List Bs) (hv:Value) (hrow:RowIn B w hv hd) (hlen:hd.length=2) (hf:∀ f ∈ hd,f.length≤65536∧f≠[]) (hk:fld hd 0=[65,70]) (hz:R.file.aliases=[]) (hcl:R.file.classes≠[]↔([80,70,88] ∈ R.heads∨[83,70,88] ∈ R.heads)) :
  Calls Tryz.prog 33 #[ptr rb,hv] w (DRes B rb v A w (doAliases R hd)):=by
 have HROW0:=hide hrow
 obtain ⟨g,cap,rfl,hg,hgn,hc⟩:=hrow.get
 have q0:=hc 0 (by omega)
 have q1:=hc 1 (by omega)
 have hs1:=(hf _ (List.mem_of_getElem? (fld_get (row:=hd) (i:=1) (by omega)))).1
 have hne1:=(hf _ (List.mem_of_getElem? (fld_get (row:=hd) (i:=1) (by omega)))).2
 have HROW:=hide (show RowIn B w (.slice (some ⟨g,0,none⟩) hd.length cap) hd from unhide HROW0)
 have HSP:=hide (special_any (Fld.str (fld hd 0)) w)
 have hsp0:spN (Fld.str (fld hd 0)).data.toList=-1:=by rw [str_toList,hk];decide
 rw [hsp0] at HSP
 clear hsp0
 have HH:=hide h
 have HBW:Hid (∀ w1,Below w.heap.size w w1→Below B w w1):=fun w1 b => b.mono h.base
 have HC1:Hid (∀ w1,Below w.heap.size w w1→w1.cell? ⟨g,1,none⟩=some (.string (Fld.str (fld hd 1)))):=fun w1 b => ((b.mono h.base).cell (p:=⟨g,1,none⟩) hg).trans (hc 1 (by omega))
 obtain ⟨d0,-⟩:=h.cells
 have hrb:=h.lt
 have hfb:=h.file.lt
 have hgw:g < w.heap.size:=Nat.lt_of_lt_of_le hg h.base
 have HLEN:=hide hlen
 have t_FLAG:=lst_f (s:=Fld.str (fld hd 0)) (l:=[70,76,65,71]) (by rw [str_toList,hk];decide)
 have t_SET:=lst_f (s:=Fld.str (fld hd 0)) (l:=[83,69,84]) (by rw [str_toList,hk];decide)
 have t_TRY:=lst_f (s:=Fld.str (fld hd 0)) (l:=[84,82,89]) (by rw [str_toList,hk];decide)
 have t_COMPOUNDMIN:=lst_f (s:=Fld.str (fld hd 0)) (l:=[67,79,77,80,79,85,78,68,77,73,78]) (by rw [str_toList,hk];decide)
 have t_REP:=lst_f (s:=Fld.str (fld hd 0)) (l:=[82,69,80]) (by rw [str_toList,hk];decide)
 have t_AF:=lst_t (s:=Fld.str (fld hd 0)) (l:=[65,70]) (by rw [str_toList,hk])
 have HN:=hide (fun W => NumW.ref_any (Fld.str (fld hd 1)) 1024 W (by rw [fstr_wd,Wd.str_size];unfold maxLen;omega) (by decide) (by decide))
 rw [str_toList] at HN
 have hnum:numb R.line (fld hd 1) 1024=if Num.numE (fld hd 1) 1024=0 then .ok (Num.numN (fld hd 1) 1024).toNat else .error (R.line,13):=rfl
 have HKK:=hide hk
 have e1:(⟨#[80,70,88]⟩:ByteArray).data.toList=[80,70,88]:=rfl
 have e2:(⟨#[83,70,88]⟩:ByteArray).data.toList=[83,70,88]:=rfl
 have HST1:=hide (fun w1 (b:Below w.heap.size w w1) => stood_doc (h.below b) ⟨#[80,70,88]⟩)
 have HST2:=hide (fun w1 (b:Below w.heap.size w w1) => stood_doc (h.below b) ⟨#[83,70,88]⟩)
 rw [e1] at HST1
 rw [e2] at HST2
 have HLB:=hide (fun w1 (b:Below w.heap.size w w1) => (h.below b).lineAt)
 clear e1 e2
 by_cases hcc:[80,70,88] ∈ R.heads∨[83,70,88] ∈ R.heads
 ·have HX:=hide (doAliases_c (hd:=hd) (hcl.2 hcc))
  rw [hlen] at hgn ⊢
  by_cases hp:[80,70,88] ∈ R.heads
  ·rw [decide_eq_true hp] at HST1
   generalize decide ([83,70,88] ∈ R.heads)=pb at *
   clear hk hrow hc hf h hs1 hne1 HROW HROW0 hlen HLEN hnum hz hcl hcc hp
   generalize Fld.str (fld hd 0)=r0 at *
   generalize Fld.str (fld hd 1)=r1 at *
   go_enter Tryz.func33,Tryz.ntmps33
   go_wp2_with fail
   refine (unhide HSP).mono ?_
   rintro e w1 ⟨rfl,hw1⟩
   obtain rfl:=hw1.symm
   go_wp2_with fail
   refine (unhide HST1 _ (Below.refl _ _)).mono ?_
   rintro e w2 ⟨rfl,b2⟩
   have HB2:=hide b2
   clear b2
   go_wp2_with fail
   refine (unhide HST2 _ (unhide HB2)).mono ?_
   rintro e w3 ⟨rfl,b3⟩
   have HB3:Hid (Below w.heap.size w w3):=btr (unhide HB2) b3
   have q13:=unhide HC1 _ (unhide HB3)
   clear b3
   go_wp2_with fail
   go_ret
   exact DRes.no (unhide HX) (unhide HBW _ (unhide HB3)) (by decide) rfl (unhide HLB _ (unhide HB3))
  ·rw [decide_eq_false hp] at HST1
   rw [decide_eq_true (hcc.resolve_left hp)] at HST2
   clear hk hrow hc hf h hs1 hne1 HROW HROW0 hlen HLEN hnum hz hcl hcc hp
   generalize Fld.str (fld hd 0)=r0 at *
   generalize Fld.str (fld hd 1)=r1 at *
   go_enter Tryz.func33,Tryz.ntmps33
   go_wp2_with fail
   refine (unhide HSP).mono ?_
   rintro e w1 ⟨rfl,hw1⟩
   obtain rfl:=hw1.symm
   go_wp2_with fail
   refine (unhide HST1 _ (Below.refl _ _)).mono ?_
   rintro e w2 ⟨rfl,b2⟩
   have HB2:=hide b2
   clear b2
   go_wp2_with fail
   refine (unhide HST2 _ (unhide HB2)).mono ?_
   rintro e w3 ⟨rfl,b3⟩
   have HB3:Hid (Below w.heap.size w w3):=btr (unhide HB2) b3
   have q13:=unhide HC1 _ (unhide HB3)
   clear b3
   go_wp2_with fail
   go_ret
   exact DRes.no (unhide HX) (unhide HBW _ (unhide HB3)) (by decide) rfl (unhide HLB _ (unhide HB3))
 have hc0:R.file.classes=[]:=Classical.byContradiction fun q => hcc (hcl.1 q)
 rw [decide_eq_false (fun q => hcc (.inl q))] at HST1
 rw [decide_eq_false (fun q => hcc (.inr q))] at HST2
 by_cases hne:Num.numE (fld hd 1) 1024=0
 ·obtain ⟨n1,n2⟩:=num_pos (m:=1024) hne
  have n1:Num.numN (fld hd 1) 1024=((Num.numN (fld hd 1) 1024).toNat:Nat):=n1
  have n2:(Num.numN (fld hd 1) 1024).toNat≤1024:=n2
  rw [if_pos hne] at hnum
  rw [hne,n1] at HN
  have HX:=hide (doAliases_t hc0 hnum)
  generalize (Num.numN (fld hd 1) 1024).toNat=n at *
  have HG:=hide (fun w1 (b:Below w.heap.size w w1) => group_doc (h.below b) hd (.slice (some ⟨g,0,none⟩) hd.length cap) ((unhide HROW).below (b.mono h.base)) (.inl hlen) n2 (grp_ali hk n2) (by rw [hz];rfl))
  have hst:times (aliStep (fld hd 0)) n R=times (stepX aliX (begOf hd)) n R:=by
   rw [show begOf hd=[fld hd 0] from if_neg (by omega),show aliStep (fld hd 0)=stepX aliX [fld hd 0] from funext (aliStep_step _)]
  have HY:=hide ((unhide HX).trans hst)
  rw [hlen] at hgn HG ⊢
  clear hk hrow hc hf h hs1 hne1 HROW HROW0 hlen HLEN n1 n2 hne hnum hst HX hz hcl hcc hc0
  generalize Fld.str (fld hd 0)=r0 at *
  generalize Fld.str (fld hd 1)=r1 at *
  go_enter Tryz.func33,Tryz.ntmps33
  go_wp2_with fail
  refine (unhide HSP).mono ?_
  rintro e w1 ⟨rfl,hw1⟩
  obtain rfl:=hw1.symm
  go_wp2_with fail
  refine (unhide HST1 _ (Below.refl _ _)).mono ?_
  rintro e w2 ⟨rfl,b2⟩
  have HB2:=hide b2
  clear b2
  go_wp2_with fail
  refine (unhide HST2 _ (unhide HB2)).mono ?_
  rintro e w3 ⟨rfl,b3⟩
  have HB3:Hid (Below w.heap.size w w3):=btr (unhide HB2) b3
  have q13:=unhide HC1 _ (unhide HB3)
  clear b3
  go_wp2_with fail
  refine (unhide HN _).mono ?_
  rintro e w4 ⟨rfl,hw4⟩
  obtain rfl:=hw4.symm
  go_wp2_with fail
  refine (unhide HG _ (unhide HB3)).mono ?_
  rintro e w8 hres
  obtain ⟨cc,rfl,hfin⟩:=hres.fin
  have HFIN:=hide (hfin w (unhide HBW _ (unhide HB3)))
  clear hfin hres
  go_wp2_with fail
  go_ret
  rw [unhide HY]
  exact unhide HFIN
 ·have HX:=hide (doAliases_n (R:=R) (hd:=hd) (e:=(R.line,13)) hc0 (by rw [hnum,if_neg hne]))
  have hn13:Num.numE (fld hd 1) 1024=13:=(numE_or _ _).resolve_left hne
  rw [hn13] at HN
  rw [hlen] at hgn ⊢
  clear hk hrow hc hf h hs1 hne1 HROW HROW0 hlen HLEN hne hnum hn13 hz hcl hcc hc0
  generalize Num.numN (fld hd 1) 1024=nn at *
  generalize Fld.str (fld hd 0)=r0 at *
  generalize Fld.str (fld hd 1)=r1 at *
  go_enter Tryz.func33,Tryz.ntmps33
  go_wp2_with fail
  refine (unhide HSP).mono ?_
  rintro e w1 ⟨rfl,hw1⟩
  obtain rfl:=hw1.symm
  go_wp2_with fail
  refine (unhide HST1 _ (Below.refl _ _)).mono ?_
  rintro e w2 ⟨rfl,b2⟩
  have HB2:=hide b2
  clear b2
  go_wp2_with fail
  refine (unhide HST2 _ (unhide HB2)).mono ?_
  rintro e w3 ⟨rfl,b3⟩
  have HB3:Hid (Below w.heap.size w w3):=btr (unhide HB2) b3
  have q13:=unhide HC1 _ (unhide HB3)
  clear b3
  go_wp2_with fail
  refine (unhide HN _).mono ?_
  rintro e w4 ⟨rfl,hw4⟩
  obtain rfl:=hw4.symm
  go_wp2_with fail
  go_ret
  exact DRes.no (unhide HX) (unhide HBW _ (unhide HB3)) (by decide) rfl (unhide HLB _ (unhide HB3))
theorem hd_flag {B rb:Nat} {w:World} {R:Rdr} {P:DPts} {v:Value} {A:List (Nat × List Bs)} (h:DAt B w rb R P v A) (hd:List Bs) (hv:Value) (hrow:RowIn B w hv hd) (hlen:hd.length=2) (hf:∀ f ∈ hd,f.length≤65536∧f≠[]) (hk:fld hd 0=[70,76,65,71]) (hD:Dv R) :
  Calls Tryz.prog 33 #[ptr rb,hv] w (DRes B rb v A w (doKind R (fld hd 1))):=by
 have HROW0:=hide hrow
 obtain ⟨g,cap,rfl,hg,hgn,hc⟩:=hrow.get
 have q0:=hc 0 (by omega)
 have q1:=hc 1 (by omega)
 have hs1:=(hf _ (List.mem_of_getElem? (fld_get (row:=hd) (i:=1) (by omega)))).1
 have hne1:=(hf _ (List.mem_of_getElem? (fld_get (row:=hd) (i:=1) (by omega)))).2
 have HROW:=hide (show RowIn B w (.slice (some ⟨g,0,none⟩) hd.length cap) hd from unhide HROW0)
 have HSP:=hide (special_any (Fld.str (fld hd 0)) w)
 have hsp0:spN (Fld.str (fld hd 0)).data.toList=-1:=by rw [str_toList,hk];decide
 rw [hsp0] at HSP
 clear hsp0
 have HH:=hide h
 have HBW:Hid (∀ w1,Below w.heap.size w w1→Below B w w1):=fun w1 b => b.mono h.base
 have HC1:Hid (∀ w1,Below w.heap.size w w1→w1.cell? ⟨g,1,none⟩=some (.string (Fld.str (fld hd 1)))):=fun w1 b => ((b.mono h.base).cell (p:=⟨g,1,none⟩) hg).trans (hc 1 (by omega))
 obtain ⟨d0,-⟩:=h.cells
 have hrb:=h.lt
 have hfb:=h.file.lt
 have hgw:g < w.heap.size:=Nat.lt_of_lt_of_le hg h.base
 have HLEN:=hide hlen
 have t_FLAG:=lst_t (s:=Fld.str (fld hd 0)) (l:=[70,76,65,71]) (by rw [str_toList,hk])
 have HG:=hide (kind_doc h hD hd (.slice (some ⟨g,0,none⟩) hd.length cap) (unhide HROW) hlen)
 rw [hlen] at hgn HG ⊢
 clear hk hrow hc hf h hs1 hne1 HROW HROW0 hlen HLEN hD
 generalize Fld.str (fld hd 0)=r0 at *
 generalize Fld.str (fld hd 1)=r1 at *
 go_enter Tryz.func33,Tryz.ntmps33
 go_wp2_with fail
 refine (unhide HSP).mono ?_
 rintro e w1 ⟨rfl,hw1⟩
 obtain rfl:=hw1.symm
 go_wp2_with fail
 refine (unhide HG).mono ?_
 rintro e w8 hres
 obtain ⟨cc,rfl,hfin⟩:=hres.fin
 have HFIN:=hide (hfin w (Below.refl _ _))
 clear hfin hres
 go_wp2_with fail
 go_ret
 exact unhide HFIN
theorem hd_pfx {B rb:Nat} {w:World} {R:Rdr} {P:DPts} {v:Value} {A:List (Nat × List Bs)} (h:DAt B w rb R P v A) (hd:List Bs) (hv:Value) (hrow:RowIn B w hv hd) (hlen:hd.length=4) (hf:∀ f ∈ hd,f.length≤65536∧f≠[]) (hk:fld hd 0=[80,70,88]) (hcn:R.file.classes.length≤65536) :
  Calls Tryz.prog 33 #[ptr rb,hv] w (DRes B rb v A w (doClass 1 R hd)):=by
 have HROW0:=hide hrow
 obtain ⟨g,cap,rfl,hg,hgn,hc⟩:=hrow.get
 have q0:=hc 0 (by omega)
 have q1:=hc 1 (by omega)
 have hs1:=(hf _ (List.mem_of_getElem? (fld_get (row:=hd) (i:=1) (by omega)))).1
 have hne1:=(hf _ (List.mem_of_getElem? (fld_get (row:=hd) (i:=1) (by omega)))).2
 have HROW:=hide (show RowIn B w (.slice (some ⟨g,0,none⟩) hd.length cap) hd from unhide HROW0)
 have HSP:=hide (special_any (Fld.str (fld hd 0)) w)
 have hsp0:spN (Fld.str (fld hd 0)).data.toList=-1:=by rw [str_toList,hk];decide
 rw [hsp0] at HSP
 clear hsp0
 have HH:=hide h
 have HBW:Hid (∀ w1,Below w.heap.size w w1→Below B w w1):=fun w1 b => b.mono h.base
 have HC1:Hid (∀ w1,Below w.heap.size w w1→w1.cell? ⟨g,1,none⟩=some (.string (Fld.str (fld hd 1)))):=fun w1 b => ((b.mono h.base).cell (p:=⟨g,1,none⟩) hg).trans (hc 1 (by omega))
 obtain ⟨d0,-⟩:=h.cells
 have hrb:=h.lt
 have hfb:=h.file.lt
 have hgw:g < w.heap.size:=Nat.lt_of_lt_of_le hg h.base
 have HLEN:=hide hlen
 have t_FLAG:=lst_f (s:=Fld.str (fld hd 0)) (l:=[70,76,65,71]) (by rw [str_toList,hk];decide)
 have t_SET:=lst_f (s:=Fld.str (fld hd 0)) (l:=[83,69,84]) (by rw [str_toList,hk];decide)
 have t_TRY:=lst_f (s:=Fld.str (fld hd 0)) (l:=[84,82,89]) (by rw [str_toList,hk];decide)
 have t_COMPOUNDMIN:=lst_f (s:=Fld.str (fld hd 0)) (l:=[67,79,77,80,79,85,78,68,77,73,78]) (by rw [str_toList,hk];decide)
 have t_REP:=lst_f (s:=Fld.str (fld hd 0)) (l:=[82,69,80]) (by rw [str_toList,hk];decide)
 have t_AF:=lst_f (s:=Fld.str (fld hd 0)) (l:=[65,70]) (by rw [str_toList,hk];decide)
 have HG:=hide (class_doc h 1 hd (.slice (some ⟨g,0,none⟩) hd.length cap) (unhide HROW) hlen hf (.inl ⟨hk,rfl⟩) hcn)
 rw [hlen] at hgn HG ⊢
 clear hk hrow hc hf h hs1 hne1 HROW HROW0 hlen HLEN hcn
 generalize Fld.str (fld hd 0)=r0 at *
 generalize Fld.str (fld hd 1)=r1 at *
 go_enter Tryz.func33,Tryz.ntmps33
 go_wp2_with fail
 refine (unhide HSP).mono ?_
 rintro e w1 ⟨rfl,hw1⟩
 obtain rfl:=hw1.symm
 go_wp2_with fail
 refine (unhide HG).mono ?_
 rintro e w8 hres
 obtain ⟨cc,rfl,hfin⟩:=hres.fin
 have HFIN:=hide (hfin w (Below.refl _ _))
 clear hfin hres
 go_wp2_with fail
 go_ret
 exact unhide HFIN
theorem hd_sfx {B rb:Nat} {w:World} {R:Rdr} {P:DPts} {v:Value} {A:List (Nat × List Bs)} (h:DAt B w rb R P v A) (hd:List Bs) (hv:Value) (hrow:RowIn B w hv hd) (hlen:hd.length=4) (hf:∀ f ∈ hd,f.length≤65536∧f≠[]) (hk:fld hd 0=[83,70,88]) (hcn:R.file.classes.length≤65536) :
  Calls Tryz.prog 33 #[ptr rb,hv] w (DRes B rb v A w (doClass 2 R hd)):=by
 have HROW0:=hide hrow
 obtain ⟨g,cap,rfl,hg,hgn,hc⟩:=hrow.get
 have q0:=hc 0 (by omega)
 have q1:=hc 1 (by omega)
 have hs1:=(hf _ (List.mem_of_getElem? (fld_get (row:=hd) (i:=1) (by omega)))).1
 have hne1:=(hf _ (List.mem_of_getElem? (fld_get (row:=hd) (i:=1) (by omega)))).2
 have HROW:=hide (show RowIn B w (.slice (some ⟨g,0,none⟩) hd.length cap) hd from unhide HROW0)
 have HSP:=hide (special_any (Fld.str (fld hd 0)) w)
 have hsp0:spN (Fld.str (fld hd 0)).data.toList=-1:=by rw [str_toList,hk];decide
 rw [hsp0] at HSP
 clear hsp0
 have HH:=hide h
 have HBW:Hid (∀ w1,Below w.heap.size w w1→Below B w w1):=fun w1 b => b.mono h.base
 have HC1:Hid (∀ w1,Below w.heap.size w w1→w1.cell? ⟨g,1,none⟩=some (.string (Fld.str (fld hd 1)))):=fun w1 b => ((b.mono h.base).cell (p:=⟨g,1,none⟩) hg).trans (hc 1 (by omega))
 obtain ⟨d0,-⟩:=h.cells
 have hrb:=h.lt
 have hfb:=h.file.lt
 have hgw:g < w.heap.size:=Nat.lt_of_lt_of_le hg h.base
 have HLEN:=hide hlen
 have t_FLAG:=lst_f (s:=Fld.str (fld hd 0)) (l:=[70,76,65,71]) (by rw [str_toList,hk];decide)
 have t_SET:=lst_f (s:=Fld.str (fld hd 0)) (l:=[83,69,84]) (by rw [str_toList,hk];decide)
 have t_TRY:=lst_f (s:=Fld.str (fld hd 0)) (l:=[84,82,89]) (by rw [str_toList,hk];decide)
 have t_COMPOUNDMIN:=lst_f (s:=Fld.str (fld hd 0)) (l:=[67,79,77,80,79,85,78,68,77,73,78]) (by rw [str_toList,hk];decide)
 have t_REP:=lst_f (s:=Fld.str (fld hd 0)) (l:=[82,69,80]) (by rw [str_toList,hk];decide)
 have t_AF:=lst_f (s:=Fld.str (fld hd 0)) (l:=[65,70]) (by rw [str_toList,hk];decide)
 have HG:=hide (class_doc h 2 hd (.slice (some ⟨g,0,none⟩) hd.length cap) (unhide HROW) hlen hf (.inr ⟨hk,rfl⟩) hcn)
 rw [hlen] at hgn HG ⊢
 clear hk hrow hc hf h hs1 hne1 HROW HROW0 hlen HLEN hcn
 generalize Fld.str (fld hd 0)=r0 at *
 generalize Fld.str (fld hd 1)=r1 at *
 go_enter Tryz.func33,Tryz.ntmps33
 go_wp2_with fail
 refine (unhide HSP).mono ?_
 rintro e w1 ⟨rfl,hw1⟩
 obtain rfl:=hw1.symm
 go_wp2_with fail
 refine (unhide HG).mono ?_
 rintro e w8 hres
 obtain ⟨cc,rfl,hfin⟩:=hres.fin
 have HFIN:=hide (hfin w (Below.refl _ _))
 clear hfin hres
 go_wp2_with fail
 go_ret
 exact unhide HFIN
theorem heading_doc {B rb:Nat} {w:World} {R:Rdr} {P:DPts} {v:Value} {A:List (Nat × List Bs)} (h:DAt B w rb R P v A) (hD:Dv R) (hd:List Bs) (hv:Value) (hrow:RowIn B w hv hd) (hf:∀ f ∈ hd,f.length≤65536∧f≠[]) {k:Kw} (hk:kwOf (fld hd 0)=some k) (hlen:hd.length=k.fields) (hcn:R.file.classes.length≤65536) (hre:k.key=.reps→R.file.reps=[]) (hal:k.key=.aliases→R.file.aliases=[]) :
  Calls Tryz.prog 33 #[ptr rb,hv] w (DRes B rb v A w (doKey R hd k.key)):=by
 have hm:=kw_mem hk
 generalize hs:fld hd 0=s at hm
 simp only [kws,List.mem_cons,Prod.mk.injEq,List.not_mem_nil,or_false] at hm
 rcases hm with ⟨rfl,rfl⟩ | ⟨rfl,rfl⟩ | ⟨rfl,rfl⟩ | ⟨rfl,rfl⟩ | ⟨rfl,rfl⟩ | ⟨rfl,rfl⟩ | ⟨rfl,rfl⟩ | ⟨rfl,rfl⟩ | ⟨rfl,rfl⟩ | ⟨rfl,rfl⟩ | ⟨rfl,rfl⟩ | ⟨rfl,rfl⟩ | ⟨rfl,rfl⟩
 ·exact hd_flag h hd hv hrow hlen hf hs hD
 ·exact hd_set h hd hv hrow hlen hf hs
 ·exact hd_try h hd hv hrow hlen hf hs
 ·exact hd_special h hd hv hrow hlen hf (i:=0) (by decide) (by rw [hs];decide)
 ·exact hd_special h hd hv hrow hlen hf (i:=1) (by decide) (by rw [hs];decide)
 ·exact hd_special h hd hv hrow hlen hf (i:=2) (by decide) (by rw [hs];decide)
 ·exact hd_special h hd hv hrow hlen hf (i:=3) (by decide) (by rw [hs];decide)
 ·exact hd_special h hd hv hrow hlen hf (i:=4) (by decide) (by rw [hs];decide)
 ·exact hd_least h hd hv hrow hlen hf hs
 ·exact hd_rep h hd hv hrow hlen hf hs (hre rfl)
 ·exact hd_ali h hd hv hrow hlen hf hs (hal rfl) hD.cl
 ·exact hd_pfx h hd hv hrow hlen hf hs hcn
 ·exact hd_sfx h hd hv hrow hlen hf hs hcn
theorem rowsIn_of {n:Nat} {W:World} {v:Value} {R:List (Nat × List Bs)} (h:RowsAre n 101 W v R) (hl:R.length≤65536):RowsIn W.heap.size W v R:=by
 obtain ⟨E,hf,ho,-,-⟩:=h
 have hlE:=hf.length
 obtain ⟨hx,⟨e1,e2⟩ | ⟨g,cap,cur,e1,h1,hg,h2,h3,h4,h5⟩⟩:=id ho
 ·have:R=[]:=by cases R with | nil => rfl | cons _ _ => simp at hlE;omega
  subst this
  exact ⟨none,0,e1,by simp,fun j l fs hj => by simp at hj⟩
 ·refine ⟨some ⟨g,0,none⟩,cap,by rw [e1,hlE],hl,fun j l fs hj => ?_⟩
  obtain ⟨e,a1,a2,a3⟩:=fits_get hf j _ hj
  obtain ⟨b1,b2⟩:=cellsE_get E j e a1
  have hjl:=(List.getElem?_eq_some_iff.1 a1).1
  have key:∀ i,i < E.length * 2→cur[i]?=(cellsE E)[i]?:=fun i hi => by
   rw [← h5,List.getElem?_take_of_lt hi]
   simp
  obtain ⟨gf,cf,e2,q1,q2,q3,-,q5⟩:=str_cells a3
  refine ⟨g,e.2,rfl,lt_some hg,?_,?_,gf,cf,e2,q1,q2,q3,q5⟩
  ·simp only [World.cell?,hg]
   show cur[2 * j]?=_
   rw [key _ (by omega),b1,a2]
  ·simp only [World.cell?,hg]
   show cur[2 * j + 1]?=_
   rw [key _ (by omega),b2]
theorem DAt.head {B rb:Nat} {w w4 w5:World} {R:Rdr} {P:DPts} {v v':Value} {A:List (Nat × List Bs)} (h:DAt B w rb R P v A) (key:Bs) (hn:R.heads.length < 65536) (k4:Below w.heap.size w w4) (k5:Kq [9] noM w4 w5) (l5:Below B w4 w5)
  (o5:w5.ownsRow B 9 1 v' (R.heads.length + 1) (R.heads.map strC ++ [strC key])) :
  DAt B (w5.setCell ⟨rb,4,none⟩ v') rb { R with heads:=R.heads ++ [key] } { P with vh:=v' } v A∧Below B w (w5.setCell ⟨rb,4,none⟩ v'):=by
 have hB:=h.base
 have h4:=h.below k4
 have hrd:w5.heap[rb]?=some (.cells (drdrC R P v) 99 (0,0)):=(k5.cells _ _ _ _ h4.rdr (by decide)).trans h4.rdr
 have k6:Kq [99] noM w5 (w5.setCell ⟨rb,4,none⟩ v'):=.kp (kp_set w5 rb 4 v') hrd (by simp)
 have kk:Kq [9,99] noM w4 (w5.setCell ⟨rb,4,none⟩ v'):=(k5.wide (by simp) (fun _ x => x)).trans (k6.wide (by simp) (fun _ x => x))
 have hlow4:Below B w4 (w5.setCell ⟨rb,4,none⟩ v'):=l5.setCell (p:=⟨rb,4,none⟩) h.rbB v'
 have hlow:Below B w (w5.setCell ⟨rb,4,none⟩ v'):=(k4.mono hB).trans hlow4
 refine ⟨⟨h.rbB,?_,h4.rows.below hlow4,h.pos,?_,?_,⟨by simp;omega,h.few.2.1,h.few.2.2⟩,h.rok⟩,hlow⟩
 ·exact set_heap1 (k:=4) hrd v'
 ·have:=own_kq o5 k6 (by decide)
  simpa using this
 ·exact h4.file.kq kk rfl ((kk.cells _ _ _ _ h4.file.fil (by decide)).trans h4.file.fil) (.inr ⟨rfl,rfl,by decide⟩) (.inr ⟨rfl,rfl,rfl,by decide⟩) (.inr ⟨rfl,rfl,by decide⟩) (.inr ⟨rfl,rfl,rfl,by decide⟩) (by decide) h.file.ok
theorem infoDS:(Tryz.prog.info? 9).map (fun i => (i.zero,i.size,i.bytes))=some (some (.string ByteArray.empty),1,16):=by kernel_rfl
def unblock:Code→Code
 | .block _ c => c
 | c => c
def unloop:Code→Code
 | .loop c => c
 | c => c
def fst1:Code→Code
 | .seq a _ => a
 | c => c
def snd1:Code→Code
 | .seq _ b => b
 | c => c
noncomputable def reg21:Code:=snd1 (dropSeq 10 (unblock (snd1 (unloop (unblock (fst1 (dropSeq 5 (Tryz.f10.body.getD .skip))))))))
theorem reg21_wp {w5 w6:World} {s:ByteArray} {rb n g gn gc:Nat} {av a6:Option Addr} {cv c6:Nat} {Q:Exit→Act→World→Prop} (hQ:∀ c (a:Act) d x w,Q (.panic c) (a.put d x) w→Q (.panic c) a w) (hgn:0 < gn)
  (H0:Hid (w5.cell? ⟨rb,4,none⟩=some (.slice av n cv)∧w5.cell? ⟨g,0,none⟩=some (.string s))) (HA:Hid ((w5.alloc (.cells #[.string s] 9)).drew.cell? ⟨rb,4,none⟩=some (.slice av n cv)∧(w5.alloc (.cells #[.string s] 9)).drew.cell? ⟨g,0,none⟩=some (.string s))) (H6:Hid (w6.cell? ⟨rb,4,none⟩=some (.slice av n cv)∧w6.cell? ⟨g,0,none⟩=some (.string s))) (HF6:Hid (w6.frozen? ⟨rb,4,none⟩=false∧rb < w6.heap.size))
  (HAP:Hid ((Builtin.append_ #[88,88] 88 #[.slice av n cv,.slice (some ⟨w5.heap.size,0,none⟩) 1 1]).run Tryz.prog (w5.alloc (.cells #[.string s] 9)).drew=.ok (.slice a6 (n + 1) c6) w6))
  (u0 u1 u2 u3 u4 u5 u6 u7 u10 u11 u12 u13 u14 u15 u16 u17 u18 u19 u20 u21 u22 u23 u24 u25 u26 u27 u28 u29 u30 u31 u32 u33 u34 u35 u36 u37 u38 u39 u40 u41 u42 u43 u44 u45 u46 u47 u48 u49 u50 u51 u52 u53 u54 u55 u56 u57 u58 u59 u60 u61 u62 u63 u64 u65 u66 u67 u68 u69 u70 u71 u72 u73 u74 u75 u76 u77 u78 u79 u80 u81 u82 u83 u84 u85 u86 u87 u88 u89 u90 u91 u92 u93 u94 u95 u96 u97 u98 u99 u100 u101 u102 u103 u104 u105 u106 u107 u108 u109 u110 u111 u112 u113 u114 u115 u116 u117 u118 u119 u120 u121 u122 u123 u124 u125 u126 u127 u128 u129 u130 u131 u132 u133 u134 u135 u136 u137 u138 u139 u140 u141 u142 u143 u144 u145 u146 u147 u148 u149 u150 u151 u152 u153 u154 u155 u156 u157 u158 u159 u160 u161 u162 u163 u164 u165 u166 u167 u168 u169 u170 u171 u172 u173 u174 u175 u176 u177 u178 u179 u180 u181 u182 u183 u184 u185 u186 u187 u188 u189 u190 u191:Value) (HK:Hid (∀ x112 x113 x114 x115 x116 x117 x118 x119 x120 x121 x122 x123:Value,Q .normal ⟨#[u0,u1,u2,u3,u4,u5,u6,u7,ptr rb,.slice (some ⟨g,0,none⟩) gn gc,u10,u11,u12,u13,u14,u15,u16,u17,u18,u19,u20,u21,u22,u23,u24,u25,u26,u27,u28,u29,u30,u31,u32,u33,u34,u35,u36,u37,u38,u39,u40,u41,u42,u43,u44,u45,u46,u47,u48,u49,u50,u51,u52,u53,u54,u55,u56,u57,u58,u59,u60,u61,u62,u63,u64,u65,u66,u67,u68,u69,u70,u71,u72,u73,u74,u75,u76,u77,u78,u79,u80,u81,u82,u83,u84,u85,u86,u87,u88,u89,u90,u91,u92,u93,u94,u95,u96,u97,u98,u99,u100,u101,u102,u103,u104,u105,u106,u107,u108,u109,u110,u111,x112,x113,x114,x115,x116,x117,x118,x119,x120,x121,x122,x123,u124,u125,u126,u127,u128,u129,u130,u131,u132,u133,u134,u135,u136,u137,u138,u139,u140,u141,u142,u143,u144,u145,u146,u147,u148,u149,u150,u151,u152,u153,u154,u155,u156,u157,u158,u159,u160,u161,u162,u163,u164,u165,u166,u167,u168,u169,u170,u171,u172,u173,u174,u175,u176,u177,u178,u179,u180,u181,u182,u183,u184,u185,u186,u187,u188,u189,u190,u191],[]⟩ (w6.setCell ⟨rb,4,none⟩ (.slice a6 (n + 1) c6)))) :
  Code.wp Tryz.prog reg21 Q ⟨#[u0,u1,u2,u3,u4,u5,u6,u7,ptr rb,.slice (some ⟨g,0,none⟩) gn gc,u10,u11,u12,u13,u14,u15,u16,u17,u18,u19,u20,u21,u22,u23,u24,u25,u26,u27,u28,u29,u30,u31,u32,u33,u34,u35,u36,u37,u38,u39,u40,u41,u42,u43,u44,u45,u46,u47,u48,u49,u50,u51,u52,u53,u54,u55,u56,u57,u58,u59,u60,u61,u62,u63,u64,u65,u66,u67,u68,u69,u70,u71,u72,u73,u74,u75,u76,u77,u78,u79,u80,u81,u82,u83,u84,u85,u86,u87,u88,u89,u90,u91,u92,u93,u94,u95,u96,u97,u98,u99,u100,u101,u102,u103,u104,u105,u106,u107,u108,u109,u110,u111,u112,u113,u114,u115,u116,u117,u118,u119,u120,u121,u122,u123,u124,u125,u126,u127,u128,u129,u130,u131,u132,u133,u134,u135,u136,u137,u138,u139,u140,u141,u142,u143,u144,u145,u146,u147,u148,u149,u150,u151,u152,u153,u154,u155,u156,u157,u158,u159,u160,u161,u162,u163,u164,u165,u166,u167,u168,u169,u170,u171,u172,u173,u174,u175,u176,u177,u178,u179,u180,u181,u182,u183,u184,u185,u186,u187,u188,u189,u190,u191],[]⟩ w5:=by
 conv => arg 2;whnf
 have hg0:(0:Int) < (gn:Int):=by omega
 refine Lst.region_last (ops1:=?ops1) (o:=?op1) (S:=fun w' => w'.cell? ⟨rb,4,none⟩=some (.slice av n cv)∧w'.cell? ⟨g,0,none⟩=some (.string s)) (by kernel_rfl) ?hp1 ?hb1 ?hk1 (by exact unhide H0) ?hn1
 case hp1 => (simp only [List.pop_toArray,List.dropLast_cons_cons,List.dropLast_singleton];rfl)
 case hb1 => (simp only [List.back?_toArray,List.getLast?_cons_cons,List.getLast?_singleton];rfl)
 case hk1 => kernel_rfl
 intro hHeld
 refine Lst.tk 0 ?_ (hQ:=fun _ _ _ h => hQ _ _ _ _ _ h)
 (try simp only [Act.put,List.setIfInBounds_toArray])
 refine Lst.tk 1 ?_ (hQ:=fun _ _ _ h => hQ _ _ _ _ _ h)
 (try simp only [Act.put])
 refine Lst.tk 2 ?_ (hQ:=fun _ _ _ h => hQ _ _ _ _ _ h)
 (try simp only [Act.put])
 refine Lst.tk 3 ?_ (hQ:=fun _ _ _ h => hQ _ _ _ _ _ h)
 (try simp only [Act.put])
 refine Lst.tk 4 ?_ (hQ:=fun _ _ _ h => hQ _ _ _ _ _ h)
 (try simp only [Act.put])
 refine Lst.tk 5 ?_ (hQ:=fun _ _ _ h => hQ _ _ _ _ _ h)
 (try simp only [Act.put])
 refine Lst.tk 6 ?_ (hQ:=fun _ _ _ h => hQ _ _ _ _ _ h)
 (try simp only [Act.put])
 refine Lst.tk 7 ?_ (hQ:=fun _ _ _ h => hQ _ _ _ _ _ h)
 (try simp only [Act.put])
 refine wpAnyH_ready (rs:=[8]) (by kernel_rfl) (by simp) ?_
 refine AllReadyH.cons (by simp only [List.getElem?_toArray,List.getElem?_cons_succ,List.getElem?_cons_zero];rfl) (fun K hK => ?_) AllReadyH.nil
 go_simp
 refine hK.out _ _ (unhide HA) (fun hh6 => ?_)
 clear hK K
 (try simp only [Act.put,List.setIfInBounds_toArray,List.set_cons_zero,List.set_cons_succ])
 refine wpAnyH_ready (rs:=[9]) (by kernel_rfl) (by simp) ?_
 refine AllReadyH.cons (by simp only [List.getElem?_toArray,List.getElem?_cons_succ,List.getElem?_cons_zero];rfl) (fun K hK => ?_) AllReadyH.nil
 refine step_app (by rfl) _ _ _ (by rfl) _ _ _ _ (by rfl) (by rfl) (by exact unhide HAP) ?_
 refine hK.out _ _ (unhide H6) (fun hh7 => ?_)
 clear hK K
 (try simp only [Act.put,List.setIfInBounds_toArray,List.set_cons_zero,List.set_cons_succ])
 refine Lst.tk 10 ?_ (hQ:=fun _ _ _ h => hQ _ _ _ _ _ h)
 (try simp only [Act.put,List.setIfInBounds_toArray])
 refine Lst.tk 11 ?_ (hQ:=fun _ _ _ h => hQ _ _ _ _ _ h)
 (try simp only [Act.put])
 refine wpAnyH_done (by kernel_rfl) ?_ _
 show Oper.wp _ _ _ _ _ _
 have k126:=(unhide H6).1
 obtain ⟨f6,l6f⟩:=unhide HF6
 go_simp
 apply unhide HK
def DFRes (w:World) (X:Except Er Fil) (e:Ending) (w':World):Prop :=
 Below w.heap.size w w'∧match X with
 | .ok F => ∃ B P,w.heap.size≤B∧e=.returned (.tuple #[ptr P.fb,.int .i64 0,.int .i64 0])∧DFAt B w' F P
 | .error er => e=.returned (.tuple #[.pointer none,.int .i64 (er.1:Nat),.int .i64 (er.2:Nat)])∧er.2≠0
theorem DFRes.yes {w w':World} {X:Except Er Fil} {F:Fil} {B:Nat} {P:DPts} (hX:X=.ok F) (k:Below w.heap.size w w') (hB:w.heap.size≤B) (h:DFAt B w' F P):DFRes w X (.returned (.tuple #[ptr P.fb,.int .i64 0,.int .i64 0])) w':=by
 subst hX
 exact ⟨k,B,P,hB,rfl,h⟩
theorem DFRes.no {w w':World} {X:Except Er Fil} {l c:Nat} {ci:Int} (hX:X=.error (l,c)) (k:Below w.heap.size w w') (hc:ci=(c:Nat)) (h0:c≠0):DFRes w X (.returned (.tuple #[.pointer none,.int .i64 (l:Nat),.int .i64 ci])) w':=by
 subst hX hc
 exact ⟨k,rfl,h0⟩
def foundC (F:Fil) (x:Int):Option Cls:=match findC F.classes x with
 | some i => F.classes[i]?
 | none => none
theorem found_some {F:Fil} {x:Int} (h:(findC F.classes x).isSome=true):∃ c,foundC F x=some c∧fndV F.classes x=dclsV c:=by
 unfold foundC fndV
 cases hf:findC F.classes x with
 | none => rw [hf] at h;cases h
 | some i =>
  obtain ⟨c,hc,-⟩:=findC_get hf
  exact ⟨c,hc,by simp only [hc]⟩
theorem goes_eq {F:Fil} {x sp:Int} (hs:F.specials[0]?=some sp):goesOn F x=((match foundC F x with
  | some c => c.kind == 2
  | none => false) || x == sp):=by
 unfold goesOn foundC
 rw [hs,show (some x == some sp)=(x == sp) from rfl]
 cases hf:findC F.classes x with
 | none => rfl
 | some i =>
  obtain ⟨c,hc,-⟩:=findC_get hf
  simp only [hc,Option.map_some]
  rfl
theorem nexts_of {F:Fil} {j:Nat} {r:Rul} (hr:F.rules[j]?=some r) (hb:badR F r=true) (hn:∀ y ∈ F.rules.take j,¬ badR F y=true):nexts F=some r.line:=by
 have hj:=(List.getElem?_eq_some_iff.1 hr).1
 show (F.rules.find? (badR F)).map (·.line)=some r.line
 have e:F.rules=F.rules.take j ++ r :: F.rules.drop (j + 1):=by
  conv => lhs;rw [← List.take_append_drop j F.rules]
  congr 1
  rw [List.drop_eq_getElem_cons hj,(List.getElem?_eq_some_iff.1 hr).2]
 rw [e,List.find?_append]
 rw [show (F.rules.take j).find? (badR F)=none from List.find?_eq_none.2 hn]
 simp [hb]
theorem nexts_none {F:Fil} (hn:∀ y ∈ F.rules,¬ badR F y=true):nexts F=none:=by
 show (F.rules.find? (badR F)).map (·.line)=none
 rw [List.find?_eq_none.2 hn]
 rfl
theorem own_ruls {B:Nat} {w:World} {F:Fil} {P:DPts} (h:DFAt B w F P):∃ ao cap,P.vu=.slice ao F.rules.length cap∧F.rules.length≤maxLen∧∀ (k:Nat) r,F.rules[k]?=some r→∃ g vn,ao=some ⟨g,0,none⟩∧g < w.heap.size∧So.IRow 0 w vn r.next∧w.cell? ⟨g,k * 8 + 6,none⟩=some vn∧w.cell? ⟨g,k * 8 + 7,none⟩=some (.int .i64 (r.line:Nat)):=by
 obtain ⟨ao,cap,e,h1,h2⟩:=own_len h.ruls
 refine ⟨ao,cap,e,Nat.le_trans h1 h2,fun k r hk => ?_⟩
 have hlt:=(List.getElem?_eq_some_iff.1 hk).1
 obtain ⟨g,cap',e',-,hg,-,-,-,hc⟩:=own_at h.ruls (Nat.lt_of_le_of_lt (Nat.zero_le _) hlt)
 rw [e] at e'
 injection e' with e' _ _
 subst e'
 obtain ⟨vn,hv⟩:∃ v,P.nv[k]?=some v:=⟨_,List.getElem?_eq_getElem (by rw [h.rulF.1];exact hlt)⟩
 have q:∀ j,j < 8→w.cell? ⟨g,k * 8 + j,none⟩=(drulC r vn)[j]?:=fun j hj => (hc _ (by omega)).trans (flat_get (f:=fun p:Rul × Value => drulC p.1 p.2) (m:=8) (fun _ => rfl) (zip_get hk hv) hj)
 exact ⟨g,vn,rfl,hg,h.rulF.2 k vn r hv hk,q 6 (by decide),q 7 (by decide)⟩
noncomputable def rtail:Code:=dropSeq 6 (Tryz.f10.body.getD .skip)
theorem rtail_wp {B rb:Nat} {w W:World} {R:Rdr} {P:DPts} {v:Value} {A:List (Nat × List Bs)} {X:Except Er Fil} (h:DAt B W rb R P v A) (hw:Below w.heap.size w W) (hB:w.heap.size≤B) (hX:X=affEnd (.ok R))
  (u0 u1 u2 u3 u4 u5 u6 u7 u9 u10 u11 u12 u13 u14 u15 u16 u17 u18 u19 u20 u21 u22 u23 u24 u25 u26 u27 u28 u29 u30 u31 u32 u33 u34 u35 u36 u37 u38 u39 u40 u41 u42 u43 u44 u45 u46 u47 u48 u49 u50 u51 u52 u53 u54 u55 u56 u57 u58 u59 u60 u61 u62 u63 u64 u65 u66 u67 u68 u69 u70 u71 u72 u73 u74 u75 u76 u77 u78 u79 u80 u81 u82 u83 u84 u85 u86 u87 u88 u89 u90 u91 u92 u93 u94 u95 u96 u97 u98 u99 u100 u101 u102 u103 u104 u105 u106 u107 u108 u109 u110 u111 u112 u113 u114 u115 u116 u117 u118 u119 u120 u121 u122 u123 u124 u125 u126 u127 u128 u129 u130 u131 u132 u133 u134 u135 u136 u137 u138 u139 u140 u141 u142 u143 u144 u145 u146 u147 u148 u149 u150 u151 u152 u153 u154 u155 u156 u157 u158 u159 u160 u161 u162 u163 u164 u165 u166 u167 u168 u169 u170 u171 u172 u173 u174 u175 u176 u177 u178 u179 u180 u181 u182 u183 u184 u185 u186 u187 u188 u189 u190 u191:Value):Code.wp Tryz.prog rtail (bodyPost Tryz.prog Tryz.f10 (DFRes w X)) ⟨#[u0,u1,u2,u3,u4,u5,u6,u7,ptr rb,u9,u10,u11,u12,u13,u14,u15,u16,u17,u18,u19,u20,u21,u22,u23,u24,u25,u26,u27,u28,u29,u30,u31,u32,u33,u34,u35,u36,u37,u38,u39,u40,u41,u42,u43,u44,u45,u46,u47,u48,u49,u50,u51,u52,u53,u54,u55,u56,u57,u58,u59,u60,u61,u62,u63,u64,u65,u66,u67,u68,u69,u70,u71,u72,u73,u74,u75,u76,u77,u78,u79,u80,u81,u82,u83,u84,u85,u86,u87,u88,u89,u90,u91,u92,u93,u94,u95,u96,u97,u98,u99,u100,u101,u102,u103,u104,u105,u106,u107,u108,u109,u110,u111,u112,u113,u114,u115,u116,u117,u118,u119,u120,u121,u122,u123,u124,u125,u126,u127,u128,u129,u130,u131,u132,u133,u134,u135,u136,u137,u138,u139,u140,u141,u142,u143,u144,u145,u146,u147,u148,u149,u150,u151,u152,u153,u154,u155,u156,u157,u158,u159,u160,u161,u162,u163,u164,u165,u166,u167,u168,u169,u170,u171,u172,u173,u174,u175,u176,u177,u178,u179,u180,u181,u182,u183,u184,u185,u186,u187,u188,u189,u190,u191],[]⟩ W:=by
 conv => arg 2;whnf
 obtain ⟨d0,-⟩:=h.cells
 have HF:=hide h.file
 obtain ⟨ao,cap,eu,hmx,hcl⟩:=own_ruls h.file
 have HCL:=hide hcl
 have hsp:R.file.specials[0]?=some (R.file.specials.getD 0 0):=five_get h.file.ok.spec (by decide)
 have HGO:=hide (fun x => goes_eq (x:=x) hsp)
 have HWW:=hide hw
 have HXN:=hide (fun (k:Nat) (hn:nexts R.file=some k) => hX.trans (affEnd_n hn))
 have HXO:=hide (fun (hn:nexts R.file=none) => hX.trans (affEnd_ok hn))
 have HFC:Hid (∀ w1,Below W.heap.size W w1→w1.cell? ⟨P.fb,12,none⟩=some (.slice ao R.file.rules.length cap)∧w1.cell? ⟨P.fb,3,none⟩=some (.int .i64 (R.file.specials.getD 0 0))∧DFAt B w1 R.file P):=fun w1 b => by
  have h1:=h.file.below b
  exact ⟨h1.cells.2.2.2.2.2.2.2.1.trans (by rw [eu]),h1.spec 0 (by decide),h1⟩
 have HTK:Hid (∀ x,x ∈ R.file.rules.take R.file.rules.length↔x ∈ R.file.rules):=fun x => by rw [List.take_length]
 have hrb:=h.lt
 have hfbW:=h.file.lt
 have HBB:=hide hB
 unfold maxLen at hmx
 obtain ⟨n,hn⟩:∃ n,R.file.rules.length=n:=⟨_,rfl⟩
 rw [hn] at hmx HFC HTK
 have HN:=hide hn
 clear h hw hX hcl eu hsp hn hB
 generalize R.file.specials.getD 0 0=sp at *
 go_wp2
 go_loopw [13,14,15,16,17] (fun s13 _ _ _ _ wr => ∃ j:Nat,s13=.int .i64 j∧j≤n∧Hid (Below W.heap.size W wr)∧Hid (∀ y ∈ R.file.rules.take j,¬ badR R.file y=true)) (fun s13 _ _ _ _ _ => n - (intOf s13).toNat)
 case atStart => exact ⟨0,rfl,Nat.zero_le _,Below.refl _ _,hide (fun y hy => by simp at hy)⟩
 case round =>
  obtain ⟨j,rfl,hj,HB,HT⟩:=hrel
  obtain ⟨k12,k3,hF⟩:=unhide HFC _ (unhide HB)
  have HFA:=hide hF
  clear hF d0
  by_cases hjn:j < n
  ·have hji:(j:Int) < (n:Int):=by omega
   have hj0:¬ (j:Int) < 0:=by omega
   obtain ⟨r,hr⟩:∃ r,R.file.rules[j]?=some r:=⟨_,List.getElem?_eq_getElem (by rw [unhide HN];exact hjn)⟩
   obtain ⟨gu,vn,rfl,hgu,hvn,c6,c7⟩:=unhide HCL j r hr
   have c6W:=c6
   have c7W:=c7
   replace c6:=((unhide HB).cell (p:=⟨gu,j * 8 + 6,none⟩) hgu).trans c6
   obtain ⟨an,cn,rfl,hnm,hnc⟩:=hvn.form
   have HNC:=hide hnc
   have HR:=hide hr
   have HTX:=hide (fun (hb:¬ badR R.file r=true) => take_none (unhide HT) hr hb)
   have HTK2:Hid (∀ x,x ∈ r.next.take r.next.length↔x ∈ r.next):=fun x => by rw [List.take_length]
   unfold maxLen at hnm
   obtain ⟨m,hm⟩:∃ m,r.next.length=m:=⟨_,rfl⟩
   rw [hm] at c6 c6W hnm HTK2
   have HM:=hide hm
   clear hr hvn hnc hm
   go_wp2
   go_loopw [14,15,16,17] (fun s14 _ _ _ ws => ∃ k:Nat,s14=.int .i64 k∧k≤m∧Hid (Below wr.heap.size wr ws)∧Hid (∀ y ∈ r.next.take k,¬ goesOn R.file y=false)) (fun s14 _ _ _ _ => m - (intOf s14).toNat)
   case atStart => exact ⟨0,rfl,Nat.zero_le _,Below.refl _ _,hide (fun y hy => by simp at hy)⟩
   case round =>
    obtain ⟨k,rfl,hk,HS,HU⟩:=hrel
    have HSB:Hid (Below W.heap.size W wr):=btr (unhide HB) (unhide HS)
    obtain ⟨k12,k3,hF2⟩:=unhide HFC _ (unhide HSB)
    have c7w:=c7W
    replace c6:=((unhide HSB).cell (p:=⟨gu,j * 8 + 6,none⟩) hgu).trans c6W
    have hfb:=hF2.lt
    have hgu2:=Nat.lt_of_lt_of_le hgu (unhide HSB).size
    by_cases hkm:k < m
    ·have hki:(k:Int) < (m:Int):=by omega
     have hk0:¬ (k:Int) < 0:=by omega
     obtain ⟨x,hx⟩:∃ x,r.next[k]?=some x:=⟨_,List.getElem?_eq_getElem (by rw [unhide HM];exact hkm)⟩
     obtain ⟨gn,rfl,hgn,hcx⟩:=unhide HNC k x hx
     replace hcx:=((unhide HSB).cell (p:=⟨gn,k,none⟩) hgn).trans hcx
     have HFD:=hide (find_doc hF2 x)
     have HUX:Hid (goesOn R.file x=true→∀ y ∈ r.next.take (k + 1),¬ goesOn R.file y=false):=fun hg => take_none (unhide HU) hx (by rw [hg];decide)
     have HBX:Hid (goesOn R.file x=false→badR R.file r=true):=fun hg => by
      show (!(r.next.all (goesOn R.file)))=true
      rw [Bool.not_eq_true',List.all_eq_false]
      exact ⟨x,List.mem_of_getElem? hx,by rw [hg];decide⟩
     clear hF2 hx
     by_cases hxs:x=sp
     ·have hxe:(x == sp)=true:=by rw [beq_iff_eq];exact hxs
      have hxn:(x != sp)=false:=by rw [bne,hxe];rfl
      obtain ⟨f1,f2,f3,f4,f5,hfn⟩:=fndV_form R.file.classes x
      rw [hfn] at HFD
      generalize (findC R.file.classes x).isSome=so at *
      clear hfn hxs
      go_wp2_with (go_at_call 16;refine (unhide HFD).mono ?_;rintro e w3 ⟨rfl,b3⟩;have HB3:=hide (btr (unhide HS) b3);have HB4:=hide (btr (unhide HSB) b3);clear b3;have y3:=(unhide HFC _ (unhide HB4)).2.1;have hfb3:=Nat.lt_of_lt_of_le hfbW (unhide HB4).size)
      go_roundw
      case rel =>
       refine ⟨k + 1,by go_num,by omega,?_,unhide HUX (by rw [unhide HGO,hxe];simp)⟩
       have hb:=unhide HB3
       have hsz:=hb.size
       refine Below.trans hb ?_
       refine Below.mono (B:=w3.heap.size) ?_ hsz
       (repeat (first | exact Below.refl _ _ | refine Below.drew ?_ | refine Below.alloc ?_ (by first | (simp; done) | (simp; omega)) _ | refine Below.setCell ?_ (by first | (simp; done) | (simp; omega)) _))
      case measure => simp [intOf];omega
     ·have hxe:(x == sp)=false:=by rw [beq_eq_false_iff_ne];exact hxs
      have hxn:(x != sp)=true:=by rw [bne,hxe];rfl
      cases hso:(findC R.file.classes x).isSome with
      | false =>
       obtain ⟨f1,f2,f3,f4,f5,hfn⟩:=fndV_form R.file.classes x
       have hfo:foundC R.file x=none:=by
        unfold foundC
        cases hq:findC R.file.classes x with
        | none => rfl
        | some i => rw [hq] at hso;cases hso
       rw [hfn,hso] at HFD
       clear hfn hso hxs
       have HBD:=hide (unhide HBX (by rw [unhide HGO,hfo,hxe];rfl))
       go_wp2_with (go_at_call 16;refine (unhide HFD).mono ?_;rintro e w3 ⟨rfl,b3⟩;have HB3:=hide (btr (unhide HSB) b3);clear b3;have y12:=(unhide HFC _ (unhide HB3)).1;have y3:=(unhide HFC _ (unhide HB3)).2.1;have y7:=((unhide HB3).cell (p:=⟨gu,j * 8 + 7,none⟩) hgu).trans c7w;have hgu3:=Nat.lt_of_lt_of_le hgu (unhide HB3).size;have hfb3:=Nat.lt_of_lt_of_le hfbW (unhide HB3).size)
       go_quiet (fail)
       go_wp2
       have hb:Below W.heap.size W w3:=unhide HB3
       have hsz:=hb.size
       go_ret3
       refine DFRes.no (unhide HXN _ (nexts_of (unhide HR) (unhide HBD) (unhide HT))) ((unhide HWW).trans ((Below.trans hb (Below.mono (B:=w3.heap.size) ?_ hsz)).mono (unhide HWW).size)) rfl (by decide)
       refine Below.trans (b:=World.alloc w3 (.cells #[.int .i64 f1,.int .i64 f2,.bool f3,.int .i64 f4,.int .i64 f5] 52)) ?_ (Below.mono (So.drew_low _ _) ?_)
       ·(repeat (first | exact Below.refl _ _ | refine Below.drew ?_ | refine Below.alloc ?_ (by first | (simp; done) | (simp; omega)) _ | refine Below.setCell ?_ (by first | (simp; done) | (simp; omega)) _))
       ·simp
      | true =>
       obtain ⟨c,hfo,hfn⟩:=found_some hso
       unfold dclsV at hfn
       rw [hfn,hso] at HFD
       clear hfn hso hxs
       by_cases hc2:c.kind=2
       ·have hce:(c.kind == 2)=true:=by rw [beq_iff_eq];exact hc2
        have hcn:(c.kind != 2)=false:=by rw [bne,hce];rfl
        clear hc2
        go_wp2_with (go_at_call 16;refine (unhide HFD).mono ?_;rintro e w3 ⟨rfl,b3⟩;have HB3:=hide (btr (unhide HS) b3);have HB4:=hide (btr (unhide HSB) b3);clear b3;have y3:=(unhide HFC _ (unhide HB4)).2.1;have hfb3:=Nat.lt_of_lt_of_le hfbW (unhide HB4).size)
        go_roundw
        case rel =>
         refine ⟨k + 1,by go_num,by omega,?_,unhide HUX (by rw [unhide HGO,hfo,hxe];simp [hce])⟩
         have hb:=unhide HB3
         have hsz:=hb.size
         refine Below.trans hb ?_
         refine Below.mono (B:=w3.heap.size) ?_ hsz
         (repeat (first | exact Below.refl _ _ | refine Below.drew ?_ | refine Below.alloc ?_ (by first | (simp; done) | (simp; omega)) _ | refine Below.setCell ?_ (by first | (simp; done) | (simp; omega)) _))
        case measure => simp [intOf];omega
       ·have hce:(c.kind == 2)=false:=by rw [beq_eq_false_iff_ne];exact hc2
        have hcn:(c.kind != 2)=true:=by rw [bne,hce];rfl
        clear hc2
        have HBD:=hide (unhide HBX (by rw [unhide HGO,hfo,hxe];simp [hce]))
        go_wp2_with (go_at_call 16;refine (unhide HFD).mono ?_;rintro e w3 ⟨rfl,b3⟩;have HB3:=hide (btr (unhide HSB) b3);clear b3;have y12:=(unhide HFC _ (unhide HB3)).1;have y3:=(unhide HFC _ (unhide HB3)).2.1;have y7:=((unhide HB3).cell (p:=⟨gu,j * 8 + 7,none⟩) hgu).trans c7w;have hgu3:=Nat.lt_of_lt_of_le hgu (unhide HB3).size;have hfb3:=Nat.lt_of_lt_of_le hfbW (unhide HB3).size)
        go_quiet (fail)
        go_wp2
        have hb:Below W.heap.size W w3:=unhide HB3
        have hsz:=hb.size
        go_ret3
        refine DFRes.no (unhide HXN _ (nexts_of (unhide HR) (unhide HBD) (unhide HT))) ((unhide HWW).trans ((Below.trans hb (Below.mono (B:=w3.heap.size) ?_ hsz)).mono (unhide HWW).size)) rfl (by decide)
        refine Below.trans (b:=World.alloc w3 (.cells #[.int .i64 c.flag,.int .i64 c.kind,.bool c.cross,.int .i64 (c.first:Nat),.int .i64 (c.count:Nat)] 52)) ?_ (Below.mono (So.drew_low _ _) ?_)
        ·(repeat (first | exact Below.refl _ _ | refine Below.drew ?_ | refine Below.alloc ?_ (by first | (simp; done) | (simp; omega)) _ | refine Below.setCell ?_ (by first | (simp; done) | (simp; omega)) _))
        ·simp
    ·obtain rfl:k=m:=by omega
     have hki:¬ (k:Int) < (k:Int):=by omega
     have HNB:=hide (unhide HTX (fun hb => by
      have hb:(!(r.next.all (goesOn R.file)))=true:=hb
      rw [Bool.not_eq_true',List.all_eq_false] at hb
      obtain ⟨y,hy,hyg⟩:=hb
      refine unhide HU y ((unhide HTK2 y).2 hy) ?_
      cases hq:goesOn R.file y with
      | true => exact absurd hq hyg
      | false => rfl))
     go_wp2
     go_roundw
     case rel => exact ⟨j + 1,by go_num,by omega,unhide HSB,unhide HNB⟩
     case measure => simp [intOf];omega
  ·obtain rfl:j=n:=by omega
   have hji:¬ (j:Int) < (j:Int):=by omega
   have HNO:=hide (unhide HXO (nexts_none fun y hy => unhide HT y ((unhide HTK y).2 hy)))
   go_wp2
   go_ret3
   exact DFRes.yes (unhide HNO) ((unhide HWW).trans ((unhide HB).mono (unhide HWW).size)) (unhide HBB) (unhide HFA)
end Af
end Go.Proofs.YtmhegbeemgagkaaGreatDoor
