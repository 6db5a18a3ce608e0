import Derived.Test.YtmhegbeemgagkaaGreatDoorJb1
import Derived.Test.YtmhegbeemgagkaaGreatDoorJb2
import Derived.Test.YtmhegbeemgagkaaGreatDoorJb3
import Derived.Test.YtmhegbeemgagkaaGreatDoorGn28
set_option maxHeartbeats 8000000
set_option maxRecDepth 100000
namespace Go.Proofs.YtmhegbeemgagkaaGreatDoor
open Go.RowKit
namespace Af
open RowB
theorem rule_doc4 {B xb g cap l:Nat} {w0 w:World} {F:Fil} {P:DPts} {c:Cls} {row:List Bs} {a r:Bs} (h:RH B xb g cap w0 w F P l c row) (hn:row.length=4∨row.length=5) (h1:(pcN true (fld row 2)).2=0) (h2:Wd.rd [] (fld row 3)=some (a,r,true)) (ha:a≠[48]) (hf:fitN a=0) :
  Calls Tryz.prog 121 #[ptr P.fb,ptr xb,.slice (some ⟨g,0,none⟩) row.length cap] w (RRes xb w (rule F l c row)):=by
 have hadd:=added_cut (F:=F) (l:=l) (k:=c.kind) h2 (.inr hf)
 have HX1:=hide (fun p (hp:added F l c.kind (fld row 3)=.ok p) => rule_of hn (pc0_ok h1) hp)
 have HX2:=hide (fun e (hp:added F l c.kind (fld row 3)=.error e) => rule_e2 hn (pc0_ok h1) hp)
 have hcells:=h.cells
 have hsx:=h.sx
 have hlow:=fun i (hi:i < row.length) => h.few _ (List.mem_of_getElem? (fld_get (row:=row) (i:=i) hi))
 have c2:=hcells w (Below.refl _ _) 2 (by omega)
 have hs2:=(hlow 2 (by omega)).1
 have hs3:=(hlow 3 (by omega)).1
 have HP:=hide (fun W => piece_doc (Fld.str (fld row 2)) true W (by rw [fstr_wd,Wd.str_size];exact hs2))
 rw [str_toList,h1] at HP
 have HR:=hide (fun W => RfW.read_any (Fld.str (fld row 3)) W (by rw [fstr_wd,Wd.str_size];omega))
 rw [str_toList,h2] at HR
 unfold RdW.ans at HR
 have hz:=rd_len [] _ h2
 simp only [List.length_nil,Nat.zero_add] at hz
 have HC:=hide hcells
 have HSX:=hide hsx
 have HF:=hide h.flags
 have hcap:=h.cap
 have hxl:=hsx.lt
 have HLOW:=hide hlow
 have hdd:addD a=a:=if_neg ha
 rw [hdd] at hadd
 have t48:=lst_f (s:=Wd.str a) (l:=[48]) (by rw [Wd.str_list];exact ha)
 have HFT:=hide (fun W => fit_doc (Wd.str a) W (by rw [Wd.str_size];unfold maxLen;omega))
 rw [Wd.str_list,hf] at HFT
 rw [if_neg (by decide)] at hadd
 have HFL:=hide (fun W b => unhide HF W b (Wd.str r) (by rw [Wd.str_size];omega))
 rw [Wd.str_list] at HFL
 have HADD:=hide hadd
 clear h hcells hsx hlow h1 h2 hs2 hs3 hadd hdd ha hf HF hz
 generalize pcN true (fld row 2)=pc at *
 obtain ⟨T,ec⟩:=pc
 go_enter Tryz.func121,Tryz.ntmps121
 go_wp2_with fail
 refine (unhide HP _).mono ?_
 rintro e w2 ⟨rfl,b2⟩
 have HS2:=hide ((unhide HSX).below b2)
 have x3:=(unhide HS2).cells.2.1
 have xf:=(unhide HS2).cells.2.2.2.2.2
 have xl:=(unhide HS2).lt
 have HS3:Hid (SX xb w (w2.setCell ⟨xb,3,none⟩ (.string (Wd.str T))) ⟨c.kind,c.flag,c.cross,T,[],[],[],l⟩ (.slice none 0 0)):=(unhide HS2).set 3 _ rfl (unhide HS2).nxt
 have c3:=unhide HC _ (unhide HS3).low 3 (by omega)
 clear b2
 go_wp2_with fail
 refine (unhide HR _).mono ?_
 rintro e w3 ⟨rfl,b3⟩
 have HS4:=hide ((unhide HS3).below b3)
 have y0:=(unhide HS4).cells.1
 have y4:=(unhide HS4).cells.2.2.1
 have y5:=(unhide HS4).cells.2.2.2.1
 have y6:=(unhide HS4).cells.2.2.2.2.1
 have yf:=(unhide HS4).cells.2.2.2.2.2
 have yl:=(unhide HS4).lt
 clear b3 x3 xf xl c3 c2
 go_wp2_with fail
 refine (unhide HFT _).mono ?_
 rintro e w4 ⟨rfl,rfl⟩
 have HS5:Hid (SX xb w (w4.setCell ⟨xb,4,none⟩ (.string (Wd.str a))) ⟨c.kind,c.flag,c.cross,T,a,[],[],l⟩ (.slice none 0 0)):=(unhide HS4).set 4 _ rfl (unhide HS4).nxt
 have z0:=(unhide HS5).cells.1
 have z5:=(unhide HS5).cells.2.2.2.1
 have z6:=(unhide HS5).cells.2.2.2.2.1
 have zf:=(unhide HS5).cells.2.2.2.2.2
 have zl:=(unhide HS5).lt
 by_cases hk:c.kind=1
 ·have HY:=hide (unhide HX2 _ ((unhide HADD).trans (if_pos hk)))
  have hkt:(c.kind == 1)=true:=by rw [beq_iff_eq];exact hk
  clear hn
  go_wp2_with fail
  go_ret
  exact RRes.no (unhide HY) (unhide HS5) (by decide) rfl
 have hkf:(c.kind == 1)=false:=by rw [beq_eq_false_iff_ne];exact hk
 have HADD2:=hide ((unhide HADD).trans (if_neg hk))
 clear HADD
 go_wp2_with fail
 refine (unhide HFL _ (unhide HS5).low).mono ?_
 rintro e w5 ⟨u,rfl,hu,b5⟩
 obtain ⟨au,cu,eu,-,-⟩:=hu.form
 have HU:=hide hu
 have HS5b:=hide ((unhide HS5).below b5)
 have s6:=(unhide HS5b).cells.2.2.2.2.1
 have s5:=(unhide HS5b).cells.2.2.2.1
 have sf:=(unhide HS5b).cells.2.2.2.2.2
 have sl:=(unhide HS5b).lt
 have HS6:=hide ((unhide HS5b).set 6 u (r':=⟨c.kind,c.flag,c.cross,T,a,[],flgS F r,l⟩) (u':=u) rfl (unhide HU))
 have s65:=(unhide HS6).cells.2.2.2.1
 have s6f:=(unhide HS6).cells.2.2.2.2.2
 have s6l:=(unhide HS6).lt
 clear hu b5
 by_cases hfe:flgE F r=0
 ·have HXX:=hide (unhide HX1 _ ((unhide HADD2).trans (if_neg (fun q => q hfe))))
  rw [hfe] at *
  subst eu
  rcases hn with hn | hn
  ·have HY:=hide ((unhide HXX).trans (condX_4 hn))
   have hn5:(row.length:Int)=4:=by omega
   rw [hn] at *
   have HS7:=hide ((unhide HS6).set 5 (.string ⟨#[46]⟩) (r':=⟨c.kind,c.flag,c.cross,T,a,[46],flgS F r,l⟩) rfl (unhide HS6).nxt)
   go_wp2_with fail
   go_ret
   exact RRes.yes (unhide HY) (unhide HS7)
  ·have hn5:(row.length:Int)=5:=by omega
   have HS7:=hide ((unhide HS6).set 5 (.string ⟨#[46]⟩) (r':=⟨c.kind,c.flag,c.cross,T,a,[46],flgS F r,l⟩) rfl (unhide HS6).nxt)
   have c4:=unhide HC _ (unhide HS7).low 4 (by omega)
   have hl4:=unhide HLOW 4 (by omega)
   have HB:=hide (fun W => VlW.bytes_any (Fld.str (fld row 4)) W (by rw [fstr_wd,Wd.str_size];unfold maxLen;omega))
   rw [str_toList] at HB
   have HCR:=hide (fun W => Pt.refRead_any (Fld.str (fld row 4)) W)
   rw [str_toList] at HCR
   have HYB:=hide (fun hb => (unhide HXX).trans (condX_b hn hb))
   have HYK:=hide (fun hb he => (unhide HXX).trans (condX_ok hn hl4.2 hb he))
   have HYE:=hide (fun hb he => (unhide HXX).trans (condX_e hn hl4.2 hb he))
   rw [hn] at *
   cases hb:(fld row 4).all Wd.fit with
   | false =>
    have HY:=hide (unhide HYB hb)
    rw [hb] at HB
    clear hb HCR
    go_wp2_with fail
    refine (unhide HB _).mono ?_
    rintro e w8 ⟨rfl,rfl⟩
    go_wp2_with fail
    go_ret
    exact RRes.no (unhide HY) (unhide HS7) (by decide) rfl
   | true =>
    rw [hb] at HB
    by_cases he:(Cd.rd (fld row 4)).2=0
    ·have HY:=hide (unhide HYK hb he)
     have HSH:=hide (fun W v h => Pt.refShow_any (Cd.rd (fld row 4)).1 v W (Pt.rd_pcs _) (Cd.rd_len _) h)
     rw [he] at HCR
     clear hb he
     go_wp2_with fail
     refine (unhide HB _).mono ?_
     rintro e w8 ⟨rfl,rfl⟩
     go_wp2_with fail
     refine (unhide HCR _).mono ?_
     rintro e w9 ⟨v9,rfl,hp9,b9⟩
     have HS9:=hide ((unhide HS7).below b9)
     have HT9:=hide hp9.at
     clear hp9 b9
     go_wp2_with fail
     refine (unhide HSH _ _ (unhide HT9)).mono ?_
     rintro e w10 ⟨rfl,b10⟩
     have HS10:=hide ((unhide HS9).below b10)
     have v5:=(unhide HS10).cells.2.2.2.1
     have vf:=(unhide HS10).cells.2.2.2.2.2
     have vl:=(unhide HS10).lt
     have HS11:=hide ((unhide HS10).set 5 (.string (Wd.str (Cd.sws (Cd.rd (fld row 4)).1))) (r':=⟨c.kind,c.flag,c.cross,T,a,Cd.sws (Cd.rd (fld row 4)).1,flgS F r,l⟩) rfl (unhide HS10).nxt)
     clear b10
     go_wp2_with fail
     go_ret
     exact RRes.yes (unhide HY) (unhide HS11)
    ·have HY:=hide (unhide HYE hb he)
     have HNZ:=hide he
     have hez:(((Cd.rd (fld row 4)).2:Nat):Int)≠0:=by omega
     generalize (Cd.rd (fld row 4)).2=ce at *
     have hez2:((ce:Int) == 0)=false:=by rw [beq_eq_false_iff_ne];exact hez
     clear hb he
     go_wp2_with fail
     refine (unhide HB _).mono ?_
     rintro e w8 ⟨rfl,rfl⟩
     go_wp2_with fail
     refine (unhide HCR _).mono ?_
     rintro e w9 ⟨v9,rfl,hp9,b9⟩
     have HS9:=hide ((unhide HS7).below b9)
     clear hp9 b9
     go_wp2_with fail
     go_ret
     exact RRes.no (unhide HY) (unhide HS9) (unhide HNZ) rfl
 ·have HY:=hide (unhide HX2 _ ((unhide HADD2).trans (if_pos hfe)))
  have hez2:(flgE F r == 0)=false:=by rw [beq_eq_false_iff_ne];exact hfe
  have HPOS:=hide (flgE_pos F r)
  have HNZ:=hide hfe
  subst eu
  generalize flgE F r=ce at *
  clear hn
  go_wp2_with fail
  go_ret
  exact RRes.no (unhide HY) (unhide HS6) (by have:=unhide HPOS;have:=unhide HNZ;omega) (by have:=unhide HPOS;omega)
theorem rule_doc {B xb g cap l:Nat} {w0 w:World} {F:Fil} {P:DPts} {c:Cls} {row:List Bs} (h:RH B xb g cap w0 w F P l c row) (hn:row.length=4∨row.length=5) :
  Calls Tryz.prog 121 #[ptr P.fb,ptr xb,.slice (some ⟨g,0,none⟩) row.length cap] w (RRes xb w (rule F l c row)):=by
 have hlow:=fun i (hi:i < row.length) => h.few _ (List.mem_of_getElem? (fld_get (row:=row) (i:=i) hi))
 have hs2:=(hlow 2 (by omega)).1
 have hs3:=(hlow 3 (by omega)).1
 have HP:=hide (fun W => piece_doc (Fld.str (fld row 2)) true W (by rw [fstr_wd,Wd.str_size];exact hs2))
 rw [str_toList] at HP
 have HR:=hide (fun W => RfW.read_any (Fld.str (fld row 3)) W (by rw [fstr_wd,Wd.str_size];omega))
 rw [str_toList] at HR
 have c2:=h.cells w (Below.refl _ _) 2 (by omega)
 have hcap:=h.cap
 have hlen3:3 < row.length:=by omega
 by_cases h1:(pcN true (fld row 2)).2=0
 ·rcases hr:Wd.rd [] (fld row 3) with _ | ⟨a,r,cu⟩
  ·have HY:=hide (rule_e2 (F:=F) (c:=c) (l:=l) hn (pc0_ok h1) (added_none hr))
   have HSX:=hide h.sx
   have HC:=hide h.cells
   have hxl:=h.sx.lt
   rw [h1] at HP
   rw [hr] at HR
   unfold RdW.ans at HR
   generalize row.length=n at *
   clear h hlow hr h1 hn
   generalize pcN true (fld row 2)=pc at *
   obtain ⟨T,ec⟩:=pc
   go_enter Tryz.func121,Tryz.ntmps121
   go_wp2_with fail
   refine (unhide HP _).mono ?_
   rintro e w2 ⟨rfl,b2⟩
   have HS2:=hide ((unhide HSX).below b2)
   have x3:=(unhide HS2).cells.2.1
   have xf:=(unhide HS2).cells.2.2.2.2.2
   have xl:=(unhide HS2).lt
   have HS3:=hide ((unhide HS2).set 3 (.string (Wd.str T)) (r':=⟨c.kind,c.flag,c.cross,T,[],[],[],l⟩) rfl (unhide HS2).nxt)
   have c3:=unhide HC _ (unhide HS3).low 3 hlen3
   clear b2
   go_wp2_with fail
   refine (unhide HR _).mono ?_
   rintro e w3 ⟨rfl,b3⟩
   have HS4:=hide ((unhide HS3).below b3)
   clear b3 x3 xf xl c3 c2
   go_wp2_with fail
   go_ret
   exact RRes.no (unhide HY) (unhide HS4) (by decide) rfl
  ·by_cases ha:a=[48]
   ·cases cu with
    | false => exact rule_doc1 h hn h1 hr ha
    | true => exact rule_doc3 h hn h1 hr ha
   ·by_cases hf:fitN a=0
    ·cases cu with
     | false => exact rule_doc2 h hn h1 hr ha hf
     | true => exact rule_doc4 h hn h1 hr ha hf
    ·have HY:=hide (rule_e2 (F:=F) (c:=c) (l:=l) hn (pc0_ok h1) (added_fit hr ha hf))
     have HSX:=hide h.sx
     have HC:=hide h.cells
     have hxl:=h.sx.lt
     have hz:=rd_len [] _ hr
     simp only [List.length_nil,Nat.zero_add] at hz
     have t48:=lst_f (s:=Wd.str a) (l:=[48]) (by rw [Wd.str_list];exact ha)
     have HFT:=hide (fun W => fit_doc (Wd.str a) W (by rw [Wd.str_size];unfold maxLen;omega))
     rw [Wd.str_list] at HFT
     rw [h1] at HP
     rw [hr] at HR
     unfold RdW.ans at HR
     generalize row.length=n at *
     have hfz:((fitN a:Int) == 0)=false:=by rw [beq_eq_false_iff_ne];omega
     have HNZ:=hide hf
     clear h hlow hr h1 hn hz ha hf
     generalize fitN a=fe at *
     generalize pcN true (fld row 2)=pc at *
     obtain ⟨T,ec⟩:=pc
     go_enter Tryz.func121,Tryz.ntmps121
     go_wp2_with fail
     refine (unhide HP _).mono ?_
     rintro e w2 ⟨rfl,b2⟩
     have HS2:=hide ((unhide HSX).below b2)
     have x3:=(unhide HS2).cells.2.1
     have xf:=(unhide HS2).cells.2.2.2.2.2
     have xl:=(unhide HS2).lt
     have HS3:=hide ((unhide HS2).set 3 (.string (Wd.str T)) (r':=⟨c.kind,c.flag,c.cross,T,[],[],[],l⟩) rfl (unhide HS2).nxt)
     have c3:=unhide HC _ (unhide HS3).low 3 hlen3
     clear b2
     go_wp2_with fail
     refine (unhide HR _).mono ?_
     rintro e w3 ⟨rfl,b3⟩
     have HS4:=hide ((unhide HS3).below b3)
     clear b3 x3 xf xl c3 c2
     go_wp2_with fail
     refine (unhide HFT _).mono ?_
     rintro e w4 ⟨rfl,rfl⟩
     go_wp2_with fail
     go_ret
     exact RRes.no (unhide HY) (unhide HS4) (unhide HNZ) rfl
 ·have HY:=hide (rule_e1 (F:=F) (c:=c) hn (pc0_no (l:=l) h1))
  have HSX:=hide h.sx
  have hpz:(((pcN true (fld row 2)).2:Int) == 0)=false:=by rw [beq_eq_false_iff_ne];omega
  have HNZ:=hide h1
  generalize row.length=n at *
  clear h hlow h1 hn HR
  generalize pcN true (fld row 2)=pc at *
  obtain ⟨T,ec⟩:=pc
  go_enter Tryz.func121,Tryz.ntmps121
  go_wp2_with fail
  refine (unhide HP _).mono ?_
  rintro e w2 ⟨rfl,b2⟩
  have HS2:=hide ((unhide HSX).below b2)
  clear b2
  go_wp2_with fail
  go_ret
  exact RRes.no (unhide HY) (unhide HS2) (unhide HNZ) rfl
theorem infoDU:(Tryz.prog.info? 106).map (fun i => (i.zero,i.size,i.bytes))=some (some (.agg #[.int .i64 0,.int .i64 0,.bool false,.string ⟨#[]⟩,.string ⟨#[]⟩,.string ⟨#[]⟩,.slice none 0 0,.int .i64 0]),8,104):=by kernel_rfl
theorem rul_ok {F:Fil} (ok:FilOk F) (p:Rul) (h:F.rules.length < 1024):FilOk { F with rules:=F.rules ++ [p] }:=⟨ok.kind,ok.spec,ok.specB,ok.cls,ok.reps,ok.ali,ok.aliS,by simp;omega,ok.len⟩
theorem DAt.addRul {B rb:Nat} {w w4 w5:World} {R:Rdr} {P:DPts} {v u v':Value} {A:List (Nat × List Bs)} (h:DAt B w rb R P v A) (p:Rul) (hn:R.file.rules.length < 1024) (k4:Below w.heap.size w w4) (hu:So.IRow 0 w4 u p.next) (k5:Kq [106] noM w4 w5) (l5:Below B w4 w5)
  (o5:w5.ownsRow B 106 8 v' (R.file.rules.length + 1) (((R.file.rules.zip P.nv).flatMap fun q => drulC q.1 q.2) ++ drulC p u)) :
  DAt B (w5.setCell ⟨P.fb,12,none⟩ v') rb { R with file:={ R.file with rules:=R.file.rules ++ [p] } } { P with vu:=v',nv:=P.nv ++ [u] } v A∧Below B w (w5.setCell ⟨P.fb,12,none⟩ v'):=by
 have h4:=h.below k4
 refine h.grew 106 k4 k5 l5 12 { R.file with rules:=R.file.rules ++ [p] } rfl ⟨rfl,rfl,rfl⟩ (.inr ⟨rfl,rfl,by decide⟩) (.inr ⟨rfl,rfl,rfl,by decide⟩) (.inr ⟨rfl,rfl,by decide⟩) (.inl ⟨?_,by simp [h.file.rulF.1],?_⟩) (by decide) (rul_ok h.file.ok p hn)
 ·have e:(R.file.rules ++ [p]).zip (P.nv ++ [u])=R.file.rules.zip P.nv ++ [(p,u)]:=by
   rw [List.zip_append (by rw [h.file.rulF.1])]
   rfl
  show w5.ownsRow B _ 8 v' (R.file.rules ++ [p]).length (((R.file.rules ++ [p]).zip (P.nv ++ [u])).flatMap fun q => drulC q.1 q.2)
  rw [e,List.flatMap_append]
  simpa using o5
 intro i v q hv hq
 rcases snoc_get hv with ⟨_,hv⟩ | ⟨hi,hv⟩
 ·rcases snoc_get hq with ⟨_,hq⟩ | ⟨hi2,hq⟩
  ·exact irow_kq (h4.file.rulF.2 i v q hv hq) k5 (by decide)
  ·have:=h.file.rulF.1;omega
 ·rcases snoc_get hq with ⟨hi2,hq⟩ | ⟨hi2,hq⟩
  ·have:=h.file.rulF.1;omega
  ·subst hv hq
   exact irow_kq hu k5 (by decide)
def rulX (c:Cls) (R:Rdr) (row:List Bs):Except Er Rdr:=match rule R.file R.line c row with
 | .error e => .error e
 | .ok p => .ok { R with file:={ R.file with rules:=R.file.rules ++ [p] } }
theorem rulX_no {c:Cls} {R:Rdr} {row:List Bs} {e:Er} (h:rule R.file R.line c row=.error e):rulX c R row=.error e:=by unfold rulX;rw [h]
theorem rulX_ok {c:Cls} {R:Rdr} {row:List Bs} {p:Rul} (h:rule R.file R.line c row=.ok p):rulX c R row=.ok { R with file:={ R.file with rules:=R.file.rules ++ [p] } }:=by unfold rulX;rw [h]
theorem rule_n {F:Fil} {l:Nat} {c:Cls} {row:List Bs} (h:row.length≠4∧row.length≠5):rule F l c row=.error (l,111):=by unfold rule;rw [if_pos h]
theorem condn_line {l:Nat} {f:Bs} {e:Er} (h:condn l f=.error e):e.1=l:=by
 unfold condn ckB at h
 split at h
 ·rename_i e' he
  split at he
  ·cases he
  ·injection he with he
   injection h with h
   rw [← h,← he]
 ·split at h
  ·injection h with h
   rw [← h]
  ·cases h
theorem piece0_line {l:Nat} {f:Bs} {e:Er} (h:piece0 l f=.error e):e.1=l:=by
 have:=pc_eq l true f
 rw [if_pos rfl,h] at this
 split at this
 ·cases this
 ·injection this with this
  rw [this]
theorem added_line {F:Fil} {l:Nat} {k:Int} {f:Bs} {e:Er} (h:added F l k f=.error e):e.1=l:=by
 unfold added addW at h
 split at h
 ·injection h with h
  rw [← h]
 ·split at h
  ·rename_i a r c _ e' he
   split at he
   ·cases he
   ·rw [fit_ck] at he
    split at he
    ·rename_i he2
     split at he2
     ·cases he2
     ·injection he2 with he2
      injection he with he
      injection h with h
      rw [← h,← he,← he2]
    ·cases he
  ·split at h
   ·cases h
   ·split at h
    ·injection h with h
     rw [← h]
    ·split at h
     ·injection h with h
      rw [← h]
     ·cases h
theorem rule_ln {F:Fil} {l:Nat} {c:Cls} {row:List Bs} {e:Er} (h:rule F l c row=.error e):e.1=l:=by
 unfold rule at h
 split at h
 ·injection h with h
  rw [← h]
 ·split at h
  ·rename_i e' he
   injection h with h
   rw [← h]
   exact piece0_line he
  ·split at h
   ·rename_i e' he
    injection h with h
    rw [← h]
    exact added_line he
   ·split at h
    ·split at h
     ·rename_i e' he
      injection h with h
      rw [← h]
      exact condn_line he
     ·cases h
    ·cases h
theorem rres_fin {B rb X:Nat} {w W2 w5:World} {R:Rdr} {v:Value} {A:List (Nat × List Bs)} {c:Cls} {row:List Bs} {e:Ending} (h:RRes X W2 (rule R.file R.line c row) e w5) :
  ∃ (ec:Int) (r:Rul) (u:Value),e=.returned (.int .i64 ec)∧SX X W2 w5 r u∧∀ (W:World) (P':DPts),DAt B W rb { R with file:={ R.file with rules:=R.file.rules ++ [r] } } P' v A→Below B w W→DRes B rb v A w (rulX c R row) (.returned (.int .i64 ec)) W:=by
 obtain ⟨-,h⟩:=h
 cases hr:rule R.file R.line c row with
 | ok p =>
  rw [hr] at h
  obtain ⟨rfl,u,hS⟩:=h
  exact ⟨0,p,u,rfl,hS,fun W P' hD hB => DRes.yes (rulX_ok hr) hB hD⟩
 | error er =>
  obtain ⟨l',cd⟩:=er
  rw [hr] at h
  obtain ⟨rfl,h0,r,u,hS⟩:=h
  have hl:l'=R.line:=rule_ln hr
  subst hl
  exact ⟨_,r,u,rfl,hS,fun W P' hD hB => DRes.no (rulX_no hr) hB h0 rfl hD.lineAt⟩
theorem rh_new {B rb g cap:Nat} {w W:World} {R:Rdr} {P:DPts} {v:Value} {A:List (Nat × List Bs)} {c:Cls} {row:List Bs} {X:Nat} (h:DAt B w rb R P v A) (hrow:RowIn B w (.slice (some ⟨g,0,none⟩) row.length cap) row) (hfew:∀ f ∈ row,f.length≤65536∧f≠[])
  (hb:Below w.heap.size w W) (hX:w.heap.size≤X) (hW:W.heap[X]?=some (.cells (drulC (rul0 c R.line) (.slice none 0 0)).toArray 106 (0,0))):RH B X g cap w W R.file P R.line c row :=
 ⟨h.file,hb,hX,h.base,⟨Below.refl _ _,lt_some hW,hW,So.IRow.nil _ _⟩,hrow.below (hb.mono h.base),hfew⟩
def RCells (W:World) (xb:Nat) (r:Rul) (u:Value):Prop:=W.cell? ⟨xb,0,none⟩=some (.int .i64 r.kind)∧W.cell? ⟨xb,1,none⟩=some (.int .i64 r.flag)∧W.cell? ⟨xb,2,none⟩=some (.bool r.cross)∧W.cell? ⟨xb,3,none⟩=some (.string (Wd.str r.strip))∧W.cell? ⟨xb,4,none⟩=some (.string (Wd.str r.add))∧W.cell? ⟨xb,5,none⟩=some (.string (Wd.str r.cond))∧W.cell? ⟨xb,6,none⟩=some u∧W.cell? ⟨xb,7,none⟩=some (.int .i64 (r.line:Nat))
theorem blk_all {W:World} {xb:Nat} {r:Rul} {u:Value} (h:W.heap[xb]?=some (.cells (drulC r u).toArray 106 (0,0))):RCells W xb r u:=by
 refine ⟨?_,?_,?_,?_,?_,?_,?_,?_⟩ <;> simp [World.cell?,h,drulC]
noncomputable def reg23:Code:=match dropSeq 7 (Tryz.f97.body.getD .skip) with
 | .seq a _ => a
 | c => c
theorem reg23_wp {w5 w6:World} {r:Rul} {rb fb xb n rn:Nat} {av au a6:Option Addr} {cv cu c6:Nat} {ec:Int} {K:Act→World→Prop} {Φ:Ending→World→Prop}
  (H0:Hid (w5.cell? ⟨fb,12,none⟩=some (.slice av n cv)∧w5.cell? ⟨xb,0,none⟩=some (.int .i64 r.kind)∧w5.cell? ⟨xb,1,none⟩=some (.int .i64 r.flag)∧w5.cell? ⟨xb,2,none⟩=some (.bool r.cross)∧w5.cell? ⟨xb,3,none⟩=some (.string (Wd.str r.strip))∧w5.cell? ⟨xb,4,none⟩=some (.string (Wd.str r.add))∧w5.cell? ⟨xb,5,none⟩=some (.string (Wd.str r.cond))∧w5.cell? ⟨xb,6,none⟩=some (.slice au rn cu)∧w5.cell? ⟨xb,7,none⟩=some (.int .i64 (r.line:Nat)))) (HA:Hid ((w5.alloc (.cells #[.int .i64 r.kind,.int .i64 r.flag,.bool r.cross,.string (Wd.str r.strip),.string (Wd.str r.add),.string (Wd.str r.cond),.slice au rn cu,.int .i64 (r.line:Nat)] 106)).drew.cell? ⟨fb,12,none⟩=some (.slice av n cv)∧(w5.alloc (.cells #[.int .i64 r.kind,.int .i64 r.flag,.bool r.cross,.string (Wd.str r.strip),.string (Wd.str r.add),.string (Wd.str r.cond),.slice au rn cu,.int .i64 (r.line:Nat)] 106)).drew.cell? ⟨xb,0,none⟩=some (.int .i64 r.kind)∧(w5.alloc (.cells #[.int .i64 r.kind,.int .i64 r.flag,.bool r.cross,.string (Wd.str r.strip),.string (Wd.str r.add),.string (Wd.str r.cond),.slice au rn cu,.int .i64 (r.line:Nat)] 106)).drew.cell? ⟨xb,1,none⟩=some (.int .i64 r.flag)∧(w5.alloc (.cells #[.int .i64 r.kind,.int .i64 r.flag,.bool r.cross,.string (Wd.str r.strip),.string (Wd.str r.add),.string (Wd.str r.cond),.slice au rn cu,.int .i64 (r.line:Nat)] 106)).drew.cell? ⟨xb,2,none⟩=some (.bool r.cross)∧(w5.alloc (.cells #[.int .i64 r.kind,.int .i64 r.flag,.bool r.cross,.string (Wd.str r.strip),.string (Wd.str r.add),.string (Wd.str r.cond),.slice au rn cu,.int .i64 (r.line:Nat)] 106)).drew.cell? ⟨xb,3,none⟩=some (.string (Wd.str r.strip))∧(w5.alloc (.cells #[.int .i64 r.kind,.int .i64 r.flag,.bool r.cross,.string (Wd.str r.strip),.string (Wd.str r.add),.string (Wd.str r.cond),.slice au rn cu,.int .i64 (r.line:Nat)] 106)).drew.cell? ⟨xb,4,none⟩=some (.string (Wd.str r.add))∧(w5.alloc (.cells #[.int .i64 r.kind,.int .i64 r.flag,.bool r.cross,.string (Wd.str r.strip),.string (Wd.str r.add),.string (Wd.str r.cond),.slice au rn cu,.int .i64 (r.line:Nat)] 106)).drew.cell? ⟨xb,5,none⟩=some (.string (Wd.str r.cond))∧(w5.alloc (.cells #[.int .i64 r.kind,.int .i64 r.flag,.bool r.cross,.string (Wd.str r.strip),.string (Wd.str r.add),.string (Wd.str r.cond),.slice au rn cu,.int .i64 (r.line:Nat)] 106)).drew.cell? ⟨xb,6,none⟩=some (.slice au rn cu)∧(w5.alloc (.cells #[.int .i64 r.kind,.int .i64 r.flag,.bool r.cross,.string (Wd.str r.strip),.string (Wd.str r.add),.string (Wd.str r.cond),.slice au rn cu,.int .i64 (r.line:Nat)] 106)).drew.cell? ⟨xb,7,none⟩=some (.int .i64 (r.line:Nat)))) (H6:Hid (w6.cell? ⟨fb,12,none⟩=some (.slice av n cv)∧w6.cell? ⟨xb,0,none⟩=some (.int .i64 r.kind)∧w6.cell? ⟨xb,1,none⟩=some (.int .i64 r.flag)∧w6.cell? ⟨xb,2,none⟩=some (.bool r.cross)∧w6.cell? ⟨xb,3,none⟩=some (.string (Wd.str r.strip))∧w6.cell? ⟨xb,4,none⟩=some (.string (Wd.str r.add))∧w6.cell? ⟨xb,5,none⟩=some (.string (Wd.str r.cond))∧w6.cell? ⟨xb,6,none⟩=some (.slice au rn cu)∧w6.cell? ⟨xb,7,none⟩=some (.int .i64 (r.line:Nat)))) (HF6:Hid (w6.frozen? ⟨fb,12,none⟩=false∧fb < w6.heap.size))
  (HAP:Hid ((Builtin.append_ #[95,95] 95 #[.slice av n cv,.slice (some ⟨w5.heap.size,0,none⟩) 1 1]).run Tryz.prog (w5.alloc (.cells #[.int .i64 r.kind,.int .i64 r.flag,.bool r.cross,.string (Wd.str r.strip),.string (Wd.str r.add),.string (Wd.str r.cond),.slice au rn cu,.int .i64 (r.line:Nat)] 106)).drew=.ok (.slice a6 (n + 1) c6) w6))
  (u1 u2 u3 u4 u6 u7 u8 u9 u10 u11 u14 u15 u16 u17 u18 u19 u20 u21 u22 u23 u24 u25 u26 u27 u28 u29 u30 u31 u32 u33 u34 u35 u36 u37 u38 u39 u40 u41 u42 u43 u44 u45 u46 u47 u48 u49 u50 u51 u52 u53 u54 u55 u56 u57 u58 u59 u60 u61 u62 u63 u64 u65 u66 u67 u68 u69 u70 u71 u72 u73 u74 u75 u76 u77 u78 u79 u80 u81 u82 u83 u84 u85 u86 u87 u88 u89 u90 u91 u92 u93 u94 u95 u96 u97 u98 u99 u100 u101 u102 u103 u104 u105 u106 u107 u108 u109 u110 u111 u112 u113 u114 u115 u116 u117 u118 u119 u120 u121 u122 u123 u124 u125 u126 u127:Value) (HK:Hid (∀ x117 x118 x119 x120 x121 x122 x123 x124 x125 x126:Value,K ⟨#[ptr rb,u1,u2,u3,u4,ptr fb,u6,u7,u8,u9,u10,u11,ptr xb,.int .i64 ec,u14,u15,u16,u17,u18,u19,u20,u21,u22,u23,u24,u25,u26,u27,u28,u29,u30,u31,u32,u33,u34,u35,u36,u37,u38,u39,u40,u41,u42,u43,u44,u45,u46,u47,u48,u49,u50,u51,u52,u53,u54,u55,u56,u57,u58,u59,u60,u61,u62,u63,u64,u65,u66,u67,u68,u69,u70,u71,u72,u73,u74,u75,u76,u77,u78,u79,u80,u81,u82,u83,u84,u85,u86,u87,u88,u89,u90,u91,u92,u93,u94,u95,u96,u97,u98,u99,u100,u101,u102,u103,u104,u105,u106,u107,u108,u109,u110,u111,u112,u113,u114,u115,u116,x117,x118,x119,x120,x121,x122,x123,x124,x125,x126,u127],[]⟩ (w6.setCell ⟨fb,12,none⟩ (.slice a6 (n + 1) c6)))) :
  Code.wp Tryz.prog reg23 (Exit.then K (bodyPost Tryz.prog Tryz.f97 Φ)) ⟨#[ptr rb,u1,u2,u3,u4,ptr fb,u6,u7,u8,u9,u10,u11,ptr xb,.int .i64 ec,u14,u15,u16,u17,u18,u19,u20,u21,u22,u23,u24,u25,u26,u27,u28,u29,u30,u31,u32,u33,u34,u35,u36,u37,u38,u39,u40,u41,u42,u43,u44,u45,u46,u47,u48,u49,u50,u51,u52,u53,u54,u55,u56,u57,u58,u59,u60,u61,u62,u63,u64,u65,u66,u67,u68,u69,u70,u71,u72,u73,u74,u75,u76,u77,u78,u79,u80,u81,u82,u83,u84,u85,u86,u87,u88,u89,u90,u91,u92,u93,u94,u95,u96,u97,u98,u99,u100,u101,u102,u103,u104,u105,u106,u107,u108,u109,u110,u111,u112,u113,u114,u115,u116,u117,u118,u119,u120,u121,u122,u123,u124,u125,u126,u127],[]⟩ w5:=by
 conv => arg 2;whnf
 refine Lst.region_last (ops1:=?ops1) (o:=?op1) (S:=fun w' => w'.cell? ⟨fb,12,none⟩=some (.slice av n cv)∧w'.cell? ⟨xb,0,none⟩=some (.int .i64 r.kind)∧w'.cell? ⟨xb,1,none⟩=some (.int .i64 r.flag)∧w'.cell? ⟨xb,2,none⟩=some (.bool r.cross)∧w'.cell? ⟨xb,3,none⟩=some (.string (Wd.str r.strip))∧w'.cell? ⟨xb,4,none⟩=some (.string (Wd.str r.add))∧w'.cell? ⟨xb,5,none⟩=some (.string (Wd.str r.cond))∧w'.cell? ⟨xb,6,none⟩=some (.slice au rn cu)∧w'.cell? ⟨xb,7,none⟩=some (.int .i64 (r.line:Nat))) (by kernel_rfl) ?hp1 ?hb1 ?hk1 (by exact unhide H0) ?hn1
 case hp1 => (simp only [List.pop_toArray,List.dropLast_cons_cons,List.dropLast_singleton];rfl)
 case hb1 => (simp only [List.back?_toArray,List.getLast?_cons_cons,List.getLast?_singleton];rfl)
 case hk1 => kernel_rfl
 intro hHeld
 refine Lst.tk 0 ?_
 (try simp only [Act.put,List.setIfInBounds_toArray])
 refine Lst.tk 1 ?_
 (try simp only [Act.put])
 refine Lst.tk 2 ?_
 (try simp only [Act.put])
 refine Lst.tk 3 ?_
 (try simp only [Act.put])
 refine Lst.tk 4 ?_
 (try simp only [Act.put])
 refine Lst.tk 5 ?_
 (try simp only [Act.put])
 refine wpAnyH_ready (rs:=[6]) (by kernel_rfl) (by simp) ?_
 refine AllReadyH.cons (by simp only [List.getElem?_toArray,List.getElem?_cons_succ,List.getElem?_cons_zero];rfl) (fun K hK => ?_) AllReadyH.nil
 go_simp
 refine hK.out _ _ (unhide HA) (fun hh6 => ?_)
 clear hK K
 (try simp only [Act.put,List.setIfInBounds_toArray,List.set_cons_zero,List.set_cons_succ])
 refine wpAnyH_ready (rs:=[7]) (by kernel_rfl) (by simp) ?_
 refine AllReadyH.cons (by simp only [List.getElem?_toArray,List.getElem?_cons_succ,List.getElem?_cons_zero];rfl) (fun K hK => ?_) AllReadyH.nil
 refine step_app (by rfl) _ _ _ (by rfl) _ _ _ _ (by rfl) (by rfl) (by exact unhide HAP) ?_
 refine hK.out _ _ (unhide H6) (fun hh7 => ?_)
 clear hK K
 (try simp only [Act.put,List.setIfInBounds_toArray,List.set_cons_zero,List.set_cons_succ])
 refine Lst.tk 8 ?_
 (try simp only [Act.put,List.setIfInBounds_toArray])
 refine Lst.tk 9 ?_
 (try simp only [Act.put])
 refine wpAnyH_done (by kernel_rfl) ?_ _
 show Oper.wp _ _ _ _ _ _
 have k126:=(unhide H6).1
 obtain ⟨f6,l6f⟩:=unhide HF6
 go_simp
 apply unhide HK
theorem infoDC:(Tryz.prog.info? 52).map (fun i => (i.zero,i.size,i.bytes))=some (some (.agg #[.int .i64 0,.int .i64 0,.bool false,.int .i64 0,.int .i64 0]),5,40):=by kernel_rfl
theorem cls_ok {F:Fil} (ok:FilOk F) (c:Cls) (h:1≤c.flag∧c.flag≤65535):FilOk { F with classes:=F.classes ++ [c] }:=⟨ok.kind,ok.spec,ok.specB,fun x hx => by
 rcases List.mem_append.1 hx with q | q
 ·exact ok.cls x q
 ·rw [List.mem_singleton] at q;rw [q];exact h,ok.reps,ok.ali,ok.aliS,ok.rul,ok.len⟩
theorem DAt.addCls {B rb:Nat} {w w4 w5:World} {R:Rdr} {P:DPts} {v v':Value} {A:List (Nat × List Bs)} (h:DAt B w rb R P v A) (c:Cls) (hc:1≤c.flag∧c.flag≤65535) (k4:Below w.heap.size w w4) (k5:Kq [52] noM w4 w5) (l5:Below B w4 w5)
  (o5:w5.ownsRow B 52 5 v' (R.file.classes.length + 1) (R.file.classes.flatMap dclsC ++ dclsC c)) :
  DAt B (w5.setCell ⟨P.fb,11,none⟩ v') rb { R with file:={ R.file with classes:=R.file.classes ++ [c] } } { P with vc:=v' } v A∧Below B w (w5.setCell ⟨P.fb,11,none⟩ v') :=
 h.grew 52 k4 k5 l5 11 { R.file with classes:=R.file.classes ++ [c] } rfl ⟨rfl,rfl,rfl⟩ (.inr ⟨rfl,rfl,by decide⟩) (.inr ⟨rfl,rfl,rfl,by decide⟩) (.inl (by simpa using o5)) (.inr ⟨rfl,rfl,rfl,by decide⟩) (by decide) (cls_ok h.file.ok c hc)
def CCells (W:World) (cb:Nat) (c:Cls):Prop:=W.cell? ⟨cb,0,none⟩=some (.int .i64 c.flag)∧W.cell? ⟨cb,1,none⟩=some (.int .i64 c.kind)∧W.cell? ⟨cb,2,none⟩=some (.bool c.cross)∧W.cell? ⟨cb,3,none⟩=some (.int .i64 (c.first:Nat))∧W.cell? ⟨cb,4,none⟩=some (.int .i64 (c.count:Nat))
theorem cblk_all {W:World} {cb:Nat} {c:Cls} (h:W.heap[cb]?=some (.cells (dclsC c).toArray 52 (0,0))):CCells W cb c:=by
 refine ⟨?_,?_,?_,?_,?_⟩ <;> simp [World.cell?,h,dclsC]
noncomputable def reg14:Code:=match dropSeq 9 (Tryz.f66.body.getD .skip) with
 | .seq a _ => a
 | c => c
theorem reg14_wp {w5 w6:World} {c:Cls} {rb fb cb n:Nat} {av a6:Option Addr} {cv c6:Nat} {K:Act→World→Prop} {Φ:Ending→World→Prop}
  (H0:Hid (w5.cell? ⟨rb,0,none⟩=some (.pointer (some ⟨fb,0,none⟩))∧w5.cell? ⟨fb,11,none⟩=some (.slice av n cv)∧w5.cell? ⟨cb,0,none⟩=some (.int .i64 c.flag)∧w5.cell? ⟨cb,1,none⟩=some (.int .i64 c.kind)∧w5.cell? ⟨cb,2,none⟩=some (.bool c.cross)∧w5.cell? ⟨cb,3,none⟩=some (.int .i64 (c.first:Nat))∧w5.cell? ⟨cb,4,none⟩=some (.int .i64 (c.count:Nat)))) (HA:Hid ((w5.alloc (.cells #[.int .i64 c.flag,.int .i64 c.kind,.bool c.cross,.int .i64 (c.first:Nat),.int .i64 (c.count:Nat)] 52)).drew.cell? ⟨rb,0,none⟩=some (.pointer (some ⟨fb,0,none⟩))∧(w5.alloc (.cells #[.int .i64 c.flag,.int .i64 c.kind,.bool c.cross,.int .i64 (c.first:Nat),.int .i64 (c.count:Nat)] 52)).drew.cell? ⟨fb,11,none⟩=some (.slice av n cv)∧(w5.alloc (.cells #[.int .i64 c.flag,.int .i64 c.kind,.bool c.cross,.int .i64 (c.first:Nat),.int .i64 (c.count:Nat)] 52)).drew.cell? ⟨cb,0,none⟩=some (.int .i64 c.flag)∧(w5.alloc (.cells #[.int .i64 c.flag,.int .i64 c.kind,.bool c.cross,.int .i64 (c.first:Nat),.int .i64 (c.count:Nat)] 52)).drew.cell? ⟨cb,1,none⟩=some (.int .i64 c.kind)∧(w5.alloc (.cells #[.int .i64 c.flag,.int .i64 c.kind,.bool c.cross,.int .i64 (c.first:Nat),.int .i64 (c.count:Nat)] 52)).drew.cell? ⟨cb,2,none⟩=some (.bool c.cross)∧(w5.alloc (.cells #[.int .i64 c.flag,.int .i64 c.kind,.bool c.cross,.int .i64 (c.first:Nat),.int .i64 (c.count:Nat)] 52)).drew.cell? ⟨cb,3,none⟩=some (.int .i64 (c.first:Nat))∧(w5.alloc (.cells #[.int .i64 c.flag,.int .i64 c.kind,.bool c.cross,.int .i64 (c.first:Nat),.int .i64 (c.count:Nat)] 52)).drew.cell? ⟨cb,4,none⟩=some (.int .i64 (c.count:Nat)))) (H6:Hid (w6.cell? ⟨rb,0,none⟩=some (.pointer (some ⟨fb,0,none⟩))∧w6.cell? ⟨fb,11,none⟩=some (.slice av n cv)∧w6.cell? ⟨cb,0,none⟩=some (.int .i64 c.flag)∧w6.cell? ⟨cb,1,none⟩=some (.int .i64 c.kind)∧w6.cell? ⟨cb,2,none⟩=some (.bool c.cross)∧w6.cell? ⟨cb,3,none⟩=some (.int .i64 (c.first:Nat))∧w6.cell? ⟨cb,4,none⟩=some (.int .i64 (c.count:Nat)))) (HF6:Hid (w6.frozen? ⟨fb,11,none⟩=false∧fb < w6.heap.size))
  (HAP:Hid ((Builtin.append_ #[94,94] 94 #[.slice av n cv,.slice (some ⟨w5.heap.size,0,none⟩) 1 1]).run Tryz.prog (w5.alloc (.cells #[.int .i64 c.flag,.int .i64 c.kind,.bool c.cross,.int .i64 (c.first:Nat),.int .i64 (c.count:Nat)] 52)).drew=.ok (.slice a6 (n + 1) c6) w6))
  (u1 u2 u3 u4 u5 u6 u7 u9 u10 u11 u12 u13 u14 u15 u16 u17 u18 u19 u20 u21 u22 u23 u24 u25 u26 u27 u28 u29 u30 u31 u32 u33 u34 u35 u36 u37 u38 u39 u40 u41 u42 u43 u44 u45 u46 u47 u48 u49 u50 u51 u52 u53 u54 u55 u56 u57 u58 u59 u60 u61 u62 u63 u64 u65 u66 u67 u68 u69 u70 u71 u72 u73 u74 u75 u76 u77 u78 u79 u80 u81 u82 u83 u84 u85 u86 u87 u88 u89 u90:Value) (HK:Hid (∀ x71 x72 x73 x74 x75 x76 x77 x78 x79 x80 x81 x82 x83 x84 x85 x86:Value,K ⟨#[ptr rb,u1,u2,u3,u4,u5,u6,u7,ptr cb,u9,u10,u11,u12,u13,u14,u15,u16,u17,u18,u19,u20,u21,u22,u23,u24,u25,u26,u27,u28,u29,u30,u31,u32,u33,u34,u35,u36,u37,u38,u39,u40,u41,u42,u43,u44,u45,u46,u47,u48,u49,u50,u51,u52,u53,u54,u55,u56,u57,u58,u59,u60,u61,u62,u63,u64,u65,u66,u67,u68,u69,u70,x71,x72,x73,x74,x75,x76,x77,x78,x79,x80,x81,x82,x83,x84,x85,x86,u87,u88,u89,u90],[]⟩ (w6.setCell ⟨fb,11,none⟩ (.slice a6 (n + 1) c6)))) :
  Code.wp Tryz.prog reg14 (Exit.then K (bodyPost Tryz.prog Tryz.f66 Φ)) ⟨#[ptr rb,u1,u2,u3,u4,u5,u6,u7,ptr cb,u9,u10,u11,u12,u13,u14,u15,u16,u17,u18,u19,u20,u21,u22,u23,u24,u25,u26,u27,u28,u29,u30,u31,u32,u33,u34,u35,u36,u37,u38,u39,u40,u41,u42,u43,u44,u45,u46,u47,u48,u49,u50,u51,u52,u53,u54,u55,u56,u57,u58,u59,u60,u61,u62,u63,u64,u65,u66,u67,u68,u69,u70,u71,u72,u73,u74,u75,u76,u77,u78,u79,u80,u81,u82,u83,u84,u85,u86,u87,u88,u89,u90],[]⟩ w5:=by
 conv => arg 2;whnf
 refine Lst.region_last (ops1:=?ops1) (o:=?op1) (S:=fun w' => w'.cell? ⟨rb,0,none⟩=some (.pointer (some ⟨fb,0,none⟩))∧w'.cell? ⟨fb,11,none⟩=some (.slice av n cv)∧w'.cell? ⟨cb,0,none⟩=some (.int .i64 c.flag)∧w'.cell? ⟨cb,1,none⟩=some (.int .i64 c.kind)∧w'.cell? ⟨cb,2,none⟩=some (.bool c.cross)∧w'.cell? ⟨cb,3,none⟩=some (.int .i64 (c.first:Nat))∧w'.cell? ⟨cb,4,none⟩=some (.int .i64 (c.count:Nat))) (by kernel_rfl) ?hp1 ?hb1 ?hk1 (by exact unhide H0) ?hn1
 case hp1 => (simp only [List.pop_toArray,List.dropLast_cons_cons,List.dropLast_singleton];rfl)
 case hb1 => (simp only [List.back?_toArray,List.getLast?_cons_cons,List.getLast?_singleton];rfl)
 case hk1 => kernel_rfl
 intro hHeld
 refine Lst.tk 0 ?_
 (try simp only [Act.put,List.setIfInBounds_toArray])
 refine Lst.tk 1 ?_
 (try simp only [Act.put])
 refine Lst.tk 2 ?_
 (try simp only [Act.put])
 refine Lst.tk 3 ?_
 (try simp only [Act.put])
 refine Lst.tk 4 ?_
 (try simp only [Act.put])
 refine Lst.tk 5 ?_
 (try simp only [Act.put])
 refine Lst.tk 6 ?_
 (try simp only [Act.put])
 refine Lst.tk 7 ?_
 (try simp only [Act.put])
 refine Lst.tk 8 ?_
 (try simp only [Act.put])
 refine Lst.tk 9 ?_
 (try simp only [Act.put])
 refine Lst.tk 10 ?_
 (try simp only [Act.put])
 refine Lst.tk 11 ?_
 (try simp only [Act.put])
 refine wpAnyH_ready (rs:=[12]) (by kernel_rfl) (by simp) ?_
 refine AllReadyH.cons (by simp only [List.getElem?_toArray,List.getElem?_cons_succ,List.getElem?_cons_zero];rfl) (fun K hK => ?_) AllReadyH.nil
 go_simp
 refine hK.out _ _ (unhide HA) (fun hh6 => ?_)
 clear hK K
 (try simp only [Act.put,List.setIfInBounds_toArray,List.set_cons_zero,List.set_cons_succ])
 refine wpAnyH_ready (rs:=[13]) (by kernel_rfl) (by simp) ?_
 refine AllReadyH.cons (by simp only [List.getElem?_toArray,List.getElem?_cons_succ,List.getElem?_cons_zero];rfl) (fun K hK => ?_) AllReadyH.nil
 refine step_app (by rfl) _ _ _ (by rfl) _ _ _ _ (by rfl) (by rfl) (by exact unhide HAP) ?_
 refine hK.out _ _ (unhide H6) (fun hh7 => ?_)
 clear hK K
 (try simp only [Act.put,List.setIfInBounds_toArray,List.set_cons_zero,List.set_cons_succ])
 refine Lst.tk 14 ?_
 (try simp only [Act.put,List.setIfInBounds_toArray])
 refine Lst.tk 15 ?_
 (try simp only [Act.put])
 refine wpAnyH_done (by kernel_rfl) ?_ _
 show Oper.wp _ _ _ _ _ _
 have k126:=(unhide H6).2.1
 obtain ⟨f6,l6f⟩:=unhide HF6
 go_simp
 apply unhide HK
theorem inner_rul {B rb:Nat} {w:World} {R:Rdr} {P:DPts} {v:Value} {A:List (Nat × List Bs)} {c:Cls} {i:Nat} (h:DAt B w rb R P v A) (row:List Bs) (rv:Value) (hrow:RowIn B w rv row) (hfew:∀ f ∈ row,f.length≤65536∧f≠[]) (h0:row≠[]) (hk1:fld row 0≠[82,69,80]) (hk2:fld row 0≠[65,70]) (hc:R.file.classes[i]?=some c) (hci:R.file.classes.length=i + 1) (hlt:R.file.rules.length < 1024) :
  Calls Tryz.prog 97 #[ptr rb,rv] w (DRes B rb v A w (rulX c R row)):=by
 obtain ⟨i0,hi,hz0,hz1,hz2⟩:=info_parts infoDU
 obtain ⟨d0,-,-,-,-,d5,-⟩:=h.cells
 obtain ⟨-,-,-,-,-,-,k11,-,-⟩:=h.file.cells
 have hpos:0 < row.length:=List.length_pos_iff.2 h0
 have HROW:=hide hrow
 obtain ⟨g,cap,rfl,hg,hgn,hrc⟩:=hrow.get
 have q0:=hrc 0 hpos
 have t0:=lst_f (s:=Fld.str (fld row 0)) (l:=[82,69,80]) (by rw [str_toList];exact hk1)
 have t1:=lst_f (s:=Fld.str (fld row 0)) (l:=[65,70]) (by rw [str_toList];exact hk2)
 have HH:=hide h
 have HFEW:=hide hfew
 have hrb:=h.lt
 have hfb:=h.file.lt
 clear h0 hk1 hk2
 by_cases hn:row.length=4∨row.length=5
 ·obtain ⟨ac,cc,ec,hmc,hcl⟩:=own_cls h.file.clss
  rw [ec] at k11
  obtain ⟨gc,rfl,hgc,c0,c1,c2,c3,c4⟩:=hcl i c hc
  rw [hci] at k11 hmc
  unfold maxLen at hmc
  have i1:¬ (((i + 1:Nat):Int) - 1 < 0):=by omega
  have i2:(((i + 1:Nat):Int) - 1) < ((i + 1:Nat):Int):=by omega
  have i3:(((i + 1:Nat):Int) - 1).toNat=i:=by omega
  have i4:((i + 1:Nat):Int)≤9223372036854775807:=by omega
  have HRD:=hide (fun (W:World) (X:Nat) (hb:Below w.heap.size w W) (hX:w.heap.size≤X) (hW:W.heap[X]?=some (.cells (drulC (rul0 c R.line) (.slice none 0 0)).toArray 106 (0,0))) => rule_doc (rh_new (unhide HH) (unhide HROW) (unhide HFEW) hb hX hW) hn)
  have hn4:row.length=4∨row.length=5:=hn
  generalize hnn:row.length=nr at *
  have hg1:(((nr:Int) == 4)=false→((nr:Int) == 5)=true):=by
   intro q
   rw [beq_eq_false_iff_ne] at q
   rw [beq_iff_eq]
   omega
  clear hrow hrc hfew hcl hc hci h ec hnn hn
  generalize Fld.str (fld row 0)=r0 at *
  rcases hn4 with rfl | rfl
  ·go_enter Tryz.func97,Tryz.ntmps97
   go_wp2_with fail
   go_region
   go_wp2_with fail
   go_region
   go_wp2_with fail
   have hb2:Below w.heap.size w ((w.alloc (.cells #[.int .i64 c.flag,.int .i64 c.kind,.bool c.cross,.int .i64 (c.first:Nat),.int .i64 (c.count:Nat)] 52)).alloc (.cells (drulC (rul0 c R.line) (.slice none 0 0)).toArray 106)).drew.drew:=((((Below.refl _ w).alloc (Nat.le_refl _) _).alloc (by simp) _).drew).drew
   have hW:((w.alloc (.cells #[.int .i64 c.flag,.int .i64 c.kind,.bool c.cross,.int .i64 (c.first:Nat),.int .i64 (c.count:Nat)] 52)).alloc (.cells (drulC (rul0 c R.line) (.slice none 0 0)).toArray 106)).drew.drew.heap[w.heap.size + 1]?=some (.cells (drulC (rul0 c R.line) (.slice none 0 0)).toArray 106 (0,0)):=by
    have:=alloc_new (w.alloc (.cells #[.int .i64 c.flag,.int .i64 c.kind,.bool c.cross,.int .i64 (c.first:Nat),.int .i64 (c.count:Nat)] 52)) (.cells (drulC (rul0 c R.line) (.slice none 0 0)).toArray 106)
    rw [show (w.alloc (.cells #[.int .i64 c.flag,.int .i64 c.kind,.bool c.cross,.int .i64 (c.first:Nat),.int .i64 (c.count:Nat)] 52)).heap.size=w.heap.size + 1 by simp] at this
    exact this
   have HB2:=hide hb2
   refine (unhide HRD _ (w.heap.size + 1) hb2 (Nat.le_succ _) hW).mono ?_
   clear hW hb2
   rintro e w5 hres
   obtain ⟨ec,r,u,rfl,hS,hfin⟩:=rres_fin (w:=w) (B:=B) (rb:=rb) (v:=v) (A:=A) hres
   obtain ⟨au,cu,rfl,-,-⟩:=hS.nxt.form
   have HFIN:=hide hfin
   have HB5:=hide ((unhide HB2).trans (hS.low.mono (Nat.le_succ _)))
   have HS:=hide hS
   have HA5:=hide ((unhide HH).below (unhide HB5))
   obtain ⟨-,-,-,-,-,-,-,k12,kz⟩:=(unhide HA5).file.cells
   have hfb5:=(unhide HA5).file.lt
   obtain ⟨av,cv,ev,-,-⟩:=own_len (unhide HA5).file.ruls
   have hne:P.vu.ownBlock≠some (w.heap.size + 1):=fun q => by
    have:=((unhide HH).file.ruls.lt _ q).2
    omega
   have hB5:=(unhide HA5).base
   have hxl:=hS.lt
   have hx5:=hS.blk
   obtain ⟨a6,c6,w6,hap,o6,k6,l6,b6⟩:=push1 (B:=B) (w:=w5) (X:=(w5.alloc (.cells #[.int .i64 r.kind,.int .i64 r.flag,.bool r.cross,.string (Wd.str r.strip),.string (Wd.str r.add),.string (Wd.str r.cond),.slice au r.next.length cu,.int .i64 (r.line:Nat)] 106)).drew) (t:=95) (v:=P.vu) (news:=[.int .i64 r.kind,.int .i64 r.flag,.bool r.cross,.string (Wd.str r.strip),.string (Wd.str r.add),.string (Wd.str r.cond),.slice au r.next.length cu,.int .i64 (r.line:Nat)]) Tryz.underlying95 infoDU rfl (by decide) (unhide HA5).file.ruls hB5 (((Below.refl _ _).alloc (Nat.le_refl _) _).drew) (alloc_new w5 _) rfl (by simp [Value.oneCell']) (by omega) (by decide) 95
   rw [ev] at k12 hap
   have hf6:=(k6.cells _ _ _ _ (unhide HA5).file.fil (by decide)).trans (unhide HA5).file.fil
   have k126:w6.cell? ⟨P.fb,12,none⟩=some (.slice av R.file.rules.length cv):=by
    rw [← ev]
    simp [World.cell?,hf6,dfilC]
   have f6:w6.frozen? ⟨P.fb,12,none⟩=false:=by simp [World.frozen?,hf6]
   have l6f:P.fb < w6.heap.size:=lt_some hf6
   have hx6:=(b6 (w.heap.size + 1) hxl hne).trans hx5
   have H0:Hid (w5.cell? ⟨P.fb,12,none⟩=some (.slice av R.file.rules.length cv)∧w5.cell? ⟨w.heap.size + 1,0,none⟩=some (.int .i64 r.kind)∧w5.cell? ⟨w.heap.size + 1,1,none⟩=some (.int .i64 r.flag)∧w5.cell? ⟨w.heap.size + 1,2,none⟩=some (.bool r.cross)∧w5.cell? ⟨w.heap.size + 1,3,none⟩=some (.string (Wd.str r.strip))∧w5.cell? ⟨w.heap.size + 1,4,none⟩=some (.string (Wd.str r.add))∧w5.cell? ⟨w.heap.size + 1,5,none⟩=some (.string (Wd.str r.cond))∧w5.cell? ⟨w.heap.size + 1,6,none⟩=some (.slice au r.next.length cu)∧w5.cell? ⟨w.heap.size + 1,7,none⟩=some (.int .i64 (r.line:Nat))):=hide ⟨k12,blk_all hx5⟩
   have hxA:(w5.alloc (.cells #[.int .i64 r.kind,.int .i64 r.flag,.bool r.cross,.string (Wd.str r.strip),.string (Wd.str r.add),.string (Wd.str r.cond),.slice au r.next.length cu,.int .i64 (r.line:Nat)] 106)).drew.heap[w.heap.size + 1]?=some (.cells (drulC r (.slice au r.next.length cu)).toArray 106 (0,0)):=alloc_heap1 hx5 _
   have HA:Hid ((w5.alloc (.cells #[.int .i64 r.kind,.int .i64 r.flag,.bool r.cross,.string (Wd.str r.strip),.string (Wd.str r.add),.string (Wd.str r.cond),.slice au r.next.length cu,.int .i64 (r.line:Nat)] 106)).drew.cell? ⟨P.fb,12,none⟩=some (.slice av R.file.rules.length cv)∧(w5.alloc (.cells #[.int .i64 r.kind,.int .i64 r.flag,.bool r.cross,.string (Wd.str r.strip),.string (Wd.str r.add),.string (Wd.str r.cond),.slice au r.next.length cu,.int .i64 (r.line:Nat)] 106)).drew.cell? ⟨w.heap.size + 1,0,none⟩=some (.int .i64 r.kind)∧(w5.alloc (.cells #[.int .i64 r.kind,.int .i64 r.flag,.bool r.cross,.string (Wd.str r.strip),.string (Wd.str r.add),.string (Wd.str r.cond),.slice au r.next.length cu,.int .i64 (r.line:Nat)] 106)).drew.cell? ⟨w.heap.size + 1,1,none⟩=some (.int .i64 r.flag)∧(w5.alloc (.cells #[.int .i64 r.kind,.int .i64 r.flag,.bool r.cross,.string (Wd.str r.strip),.string (Wd.str r.add),.string (Wd.str r.cond),.slice au r.next.length cu,.int .i64 (r.line:Nat)] 106)).drew.cell? ⟨w.heap.size + 1,2,none⟩=some (.bool r.cross)∧(w5.alloc (.cells #[.int .i64 r.kind,.int .i64 r.flag,.bool r.cross,.string (Wd.str r.strip),.string (Wd.str r.add),.string (Wd.str r.cond),.slice au r.next.length cu,.int .i64 (r.line:Nat)] 106)).drew.cell? ⟨w.heap.size + 1,3,none⟩=some (.string (Wd.str r.strip))∧(w5.alloc (.cells #[.int .i64 r.kind,.int .i64 r.flag,.bool r.cross,.string (Wd.str r.strip),.string (Wd.str r.add),.string (Wd.str r.cond),.slice au r.next.length cu,.int .i64 (r.line:Nat)] 106)).drew.cell? ⟨w.heap.size + 1,4,none⟩=some (.string (Wd.str r.add))∧(w5.alloc (.cells #[.int .i64 r.kind,.int .i64 r.flag,.bool r.cross,.string (Wd.str r.strip),.string (Wd.str r.add),.string (Wd.str r.cond),.slice au r.next.length cu,.int .i64 (r.line:Nat)] 106)).drew.cell? ⟨w.heap.size + 1,5,none⟩=some (.string (Wd.str r.cond))∧(w5.alloc (.cells #[.int .i64 r.kind,.int .i64 r.flag,.bool r.cross,.string (Wd.str r.strip),.string (Wd.str r.add),.string (Wd.str r.cond),.slice au r.next.length cu,.int .i64 (r.line:Nat)] 106)).drew.cell? ⟨w.heap.size + 1,6,none⟩=some (.slice au r.next.length cu)∧(w5.alloc (.cells #[.int .i64 r.kind,.int .i64 r.flag,.bool r.cross,.string (Wd.str r.strip),.string (Wd.str r.add),.string (Wd.str r.cond),.slice au r.next.length cu,.int .i64 (r.line:Nat)] 106)).drew.cell? ⟨w.heap.size + 1,7,none⟩=some (.int .i64 (r.line:Nat))):=hide ⟨(((Below.refl w5.heap.size w5).alloc (Nat.le_refl _) _).drew.cell (p:=⟨P.fb,12,none⟩) hfb5).trans k12,blk_all hxA⟩
   have H6:Hid (w6.cell? ⟨P.fb,12,none⟩=some (.slice av R.file.rules.length cv)∧w6.cell? ⟨w.heap.size + 1,0,none⟩=some (.int .i64 r.kind)∧w6.cell? ⟨w.heap.size + 1,1,none⟩=some (.int .i64 r.flag)∧w6.cell? ⟨w.heap.size + 1,2,none⟩=some (.bool r.cross)∧w6.cell? ⟨w.heap.size + 1,3,none⟩=some (.string (Wd.str r.strip))∧w6.cell? ⟨w.heap.size + 1,4,none⟩=some (.string (Wd.str r.add))∧w6.cell? ⟨w.heap.size + 1,5,none⟩=some (.string (Wd.str r.cond))∧w6.cell? ⟨w.heap.size + 1,6,none⟩=some (.slice au r.next.length cu)∧w6.cell? ⟨w.heap.size + 1,7,none⟩=some (.int .i64 (r.line:Nat))):=hide ⟨k126,blk_all hx6⟩
   have HAP:=hide hap
   have HF6:=hide (And.intro f6 l6f)
   have HZ:=hide ((unhide HH).addRul (v':=.slice a6 (R.file.rules.length + 1) c6) r hlt (unhide HB5) (unhide HS).nxt k6 l6 o6)
   clear hres hfin hS ev hap o6 k6 l6 b6 hf6 k126 f6 l6f hx6 hxA hx5 hne kz k12 hxl hB5 d0 d5 k11 q0 c0 c1 c2 c3 c4
   clear HFEW HROW HRD HB2 hi hz0 hz1 hz2 hmc hgc hg1 hgn i1 i2 i3 i4 hpos hrb hfb t0 t1 hlt hg
   go_wp2_with fail
   refine reg23_wp H0 HA H6 HF6 HAP _ _ _ _ _ _ _ _ _ _ _ _ _ _ _ _ _ _ _ _ _ _ _ _ _ _ _ _ _ _ _ _ _ _ _ _ _ _ _ _ _ _ _ _ _ _ _ _ _ _ _ _ _ _ _ _ _ _ _ _ _ _ _ _ _ _ _ _ _ _ _ _ _ _ _ _ _ _ _ _ _ _ _ _ _ _ _ _ _ _ _ _ _ _ _ _ _ _ _ _ _ _ _ _ _ _ _ _ _ _ _ _ _ _ _ _ _ _ _ _ _ _ _ _ ?_
   rename_i K hK
   intro x117 x118 x119 x120 x121 x122 x123 x124 x125 x126
   apply hK
   go_wp2_with fail
   go_ret
   exact unhide HFIN _ _ (unhide HZ).1 (unhide HZ).2
  ·go_enter Tryz.func97,Tryz.ntmps97
   go_wp2_with fail
   go_region
   go_wp2_with fail
   go_region
   go_wp2_with fail
   have hb2:Below w.heap.size w ((w.alloc (.cells #[.int .i64 c.flag,.int .i64 c.kind,.bool c.cross,.int .i64 (c.first:Nat),.int .i64 (c.count:Nat)] 52)).alloc (.cells (drulC (rul0 c R.line) (.slice none 0 0)).toArray 106)).drew.drew:=((((Below.refl _ w).alloc (Nat.le_refl _) _).alloc (by simp) _).drew).drew
   have hW:((w.alloc (.cells #[.int .i64 c.flag,.int .i64 c.kind,.bool c.cross,.int .i64 (c.first:Nat),.int .i64 (c.count:Nat)] 52)).alloc (.cells (drulC (rul0 c R.line) (.slice none 0 0)).toArray 106)).drew.drew.heap[w.heap.size + 1]?=some (.cells (drulC (rul0 c R.line) (.slice none 0 0)).toArray 106 (0,0)):=by
    have:=alloc_new (w.alloc (.cells #[.int .i64 c.flag,.int .i64 c.kind,.bool c.cross,.int .i64 (c.first:Nat),.int .i64 (c.count:Nat)] 52)) (.cells (drulC (rul0 c R.line) (.slice none 0 0)).toArray 106)
    rw [show (w.alloc (.cells #[.int .i64 c.flag,.int .i64 c.kind,.bool c.cross,.int .i64 (c.first:Nat),.int .i64 (c.count:Nat)] 52)).heap.size=w.heap.size + 1 by simp] at this
    exact this
   have HB2:=hide hb2
   refine (unhide HRD _ (w.heap.size + 1) hb2 (Nat.le_succ _) hW).mono ?_
   clear hW hb2
   rintro e w5 hres
   obtain ⟨ec,r,u,rfl,hS,hfin⟩:=rres_fin (w:=w) (B:=B) (rb:=rb) (v:=v) (A:=A) hres
   obtain ⟨au,cu,rfl,-,-⟩:=hS.nxt.form
   have HFIN:=hide hfin
   have HB5:=hide ((unhide HB2).trans (hS.low.mono (Nat.le_succ _)))
   have HS:=hide hS
   have HA5:=hide ((unhide HH).below (unhide HB5))
   obtain ⟨-,-,-,-,-,-,-,k12,kz⟩:=(unhide HA5).file.cells
   have hfb5:=(unhide HA5).file.lt
   obtain ⟨av,cv,ev,-,-⟩:=own_len (unhide HA5).file.ruls
   have hne:P.vu.ownBlock≠some (w.heap.size + 1):=fun q => by
    have:=((unhide HH).file.ruls.lt _ q).2
    omega
   have hB5:=(unhide HA5).base
   have hxl:=hS.lt
   have hx5:=hS.blk
   obtain ⟨a6,c6,w6,hap,o6,k6,l6,b6⟩:=push1 (B:=B) (w:=w5) (X:=(w5.alloc (.cells #[.int .i64 r.kind,.int .i64 r.flag,.bool r.cross,.string (Wd.str r.strip),.string (Wd.str r.add),.string (Wd.str r.cond),.slice au r.next.length cu,.int .i64 (r.line:Nat)] 106)).drew) (t:=95) (v:=P.vu) (news:=[.int .i64 r.kind,.int .i64 r.flag,.bool r.cross,.string (Wd.str r.strip),.string (Wd.str r.add),.string (Wd.str r.cond),.slice au r.next.length cu,.int .i64 (r.line:Nat)]) Tryz.underlying95 infoDU rfl (by decide) (unhide HA5).file.ruls hB5 (((Below.refl _ _).alloc (Nat.le_refl _) _).drew) (alloc_new w5 _) rfl (by simp [Value.oneCell']) (by omega) (by decide) 95
   rw [ev] at k12 hap
   have hf6:=(k6.cells _ _ _ _ (unhide HA5).file.fil (by decide)).trans (unhide HA5).file.fil
   have k126:w6.cell? ⟨P.fb,12,none⟩=some (.slice av R.file.rules.length cv):=by
    rw [← ev]
    simp [World.cell?,hf6,dfilC]
   have f6:w6.frozen? ⟨P.fb,12,none⟩=false:=by simp [World.frozen?,hf6]
   have l6f:P.fb < w6.heap.size:=lt_some hf6
   have hx6:=(b6 (w.heap.size + 1) hxl hne).trans hx5
   have H0:Hid (w5.cell? ⟨P.fb,12,none⟩=some (.slice av R.file.rules.length cv)∧w5.cell? ⟨w.heap.size + 1,0,none⟩=some (.int .i64 r.kind)∧w5.cell? ⟨w.heap.size + 1,1,none⟩=some (.int .i64 r.flag)∧w5.cell? ⟨w.heap.size + 1,2,none⟩=some (.bool r.cross)∧w5.cell? ⟨w.heap.size + 1,3,none⟩=some (.string (Wd.str r.strip))∧w5.cell? ⟨w.heap.size + 1,4,none⟩=some (.string (Wd.str r.add))∧w5.cell? ⟨w.heap.size + 1,5,none⟩=some (.string (Wd.str r.cond))∧w5.cell? ⟨w.heap.size + 1,6,none⟩=some (.slice au r.next.length cu)∧w5.cell? ⟨w.heap.size + 1,7,none⟩=some (.int .i64 (r.line:Nat))):=hide ⟨k12,blk_all hx5⟩
   have hxA:(w5.alloc (.cells #[.int .i64 r.kind,.int .i64 r.flag,.bool r.cross,.string (Wd.str r.strip),.string (Wd.str r.add),.string (Wd.str r.cond),.slice au r.next.length cu,.int .i64 (r.line:Nat)] 106)).drew.heap[w.heap.size + 1]?=some (.cells (drulC r (.slice au r.next.length cu)).toArray 106 (0,0)):=alloc_heap1 hx5 _
   have HA:Hid ((w5.alloc (.cells #[.int .i64 r.kind,.int .i64 r.flag,.bool r.cross,.string (Wd.str r.strip),.string (Wd.str r.add),.string (Wd.str r.cond),.slice au r.next.length cu,.int .i64 (r.line:Nat)] 106)).drew.cell? ⟨P.fb,12,none⟩=some (.slice av R.file.rules.length cv)∧(w5.alloc (.cells #[.int .i64 r.kind,.int .i64 r.flag,.bool r.cross,.string (Wd.str r.strip),.string (Wd.str r.add),.string (Wd.str r.cond),.slice au r.next.length cu,.int .i64 (r.line:Nat)] 106)).drew.cell? ⟨w.heap.size + 1,0,none⟩=some (.int .i64 r.kind)∧(w5.alloc (.cells #[.int .i64 r.kind,.int .i64 r.flag,.bool r.cross,.string (Wd.str r.strip),.string (Wd.str r.add),.string (Wd.str r.cond),.slice au r.next.length cu,.int .i64 (r.line:Nat)] 106)).drew.cell? ⟨w.heap.size + 1,1,none⟩=some (.int .i64 r.flag)∧(w5.alloc (.cells #[.int .i64 r.kind,.int .i64 r.flag,.bool r.cross,.string (Wd.str r.strip),.string (Wd.str r.add),.string (Wd.str r.cond),.slice au r.next.length cu,.int .i64 (r.line:Nat)] 106)).drew.cell? ⟨w.heap.size + 1,2,none⟩=some (.bool r.cross)∧(w5.alloc (.cells #[.int .i64 r.kind,.int .i64 r.flag,.bool r.cross,.string (Wd.str r.strip),.string (Wd.str r.add),.string (Wd.str r.cond),.slice au r.next.length cu,.int .i64 (r.line:Nat)] 106)).drew.cell? ⟨w.heap.size + 1,3,none⟩=some (.string (Wd.str r.strip))∧(w5.alloc (.cells #[.int .i64 r.kind,.int .i64 r.flag,.bool r.cross,.string (Wd.str r.strip),.string (Wd.str r.add),.string (Wd.str r.cond),.slice au r.next.length cu,.int .i64 (r.line:Nat)] 106)).drew.cell? ⟨w.heap.size + 1,4,none⟩=some (.string (Wd.str r.add))∧(w5.alloc (.cells #[.int .i64 r.kind,.int .i64 r.flag,.bool r.cross,.string (Wd.str r.strip),.string (Wd.str r.add),.string (Wd.str r.cond),.slice au r.next.length cu,.int .i64 (r.line:Nat)] 106)).drew.cell? ⟨w.heap.size + 1,5,none⟩=some (.string (Wd.str r.cond))∧(w5.alloc (.cells #[.int .i64 r.kind,.int .i64 r.flag,.bool r.cross,.string (Wd.str r.strip),.string (Wd.str r.add),.string (Wd.str r.cond),.slice au r.next.length cu,.int .i64 (r.line:Nat)] 106)).drew.cell? ⟨w.heap.size + 1,6,none⟩=some (.slice au r.next.length cu)∧(w5.alloc (.cells #[.int .i64 r.kind,.int .i64 r.flag,.bool r.cross,.string (Wd.str r.strip),.string (Wd.str r.add),.string (Wd.str r.cond),.slice au r.next.length cu,.int .i64 (r.line:Nat)] 106)).drew.cell? ⟨w.heap.size + 1,7,none⟩=some (.int .i64 (r.line:Nat))):=hide ⟨(((Below.refl w5.heap.size w5).alloc (Nat.le_refl _) _).drew.cell (p:=⟨P.fb,12,none⟩) hfb5).trans k12,blk_all hxA⟩
   have H6:Hid (w6.cell? ⟨P.fb,12,none⟩=some (.slice av R.file.rules.length cv)∧w6.cell? ⟨w.heap.size + 1,0,none⟩=some (.int .i64 r.kind)∧w6.cell? ⟨w.heap.size + 1,1,none⟩=some (.int .i64 r.flag)∧w6.cell? ⟨w.heap.size + 1,2,none⟩=some (.bool r.cross)∧w6.cell? ⟨w.heap.size + 1,3,none⟩=some (.string (Wd.str r.strip))∧w6.cell? ⟨w.heap.size + 1,4,none⟩=some (.string (Wd.str r.add))∧w6.cell? ⟨w.heap.size + 1,5,none⟩=some (.string (Wd.str r.cond))∧w6.cell? ⟨w.heap.size + 1,6,none⟩=some (.slice au r.next.length cu)∧w6.cell? ⟨w.heap.size + 1,7,none⟩=some (.int .i64 (r.line:Nat))):=hide ⟨k126,blk_all hx6⟩
   have HAP:=hide hap
   have HF6:=hide (And.intro f6 l6f)
   have HZ:=hide ((unhide HH).addRul (v':=.slice a6 (R.file.rules.length + 1) c6) r hlt (unhide HB5) (unhide HS).nxt k6 l6 o6)
   clear hres hfin hS ev hap o6 k6 l6 b6 hf6 k126 f6 l6f hx6 hxA hx5 hne kz k12 hxl hB5 d0 d5 k11 q0 c0 c1 c2 c3 c4
   clear HFEW HROW HRD HB2 hi hz0 hz1 hz2 hmc hgc hg1 hgn i1 i2 i3 i4 hpos hrb hfb t0 t1 hlt hg
   go_wp2_with fail
   refine reg23_wp H0 HA H6 HF6 HAP _ _ _ _ _ _ _ _ _ _ _ _ _ _ _ _ _ _ _ _ _ _ _ _ _ _ _ _ _ _ _ _ _ _ _ _ _ _ _ _ _ _ _ _ _ _ _ _ _ _ _ _ _ _ _ _ _ _ _ _ _ _ _ _ _ _ _ _ _ _ _ _ _ _ _ _ _ _ _ _ _ _ _ _ _ _ _ _ _ _ _ _ _ _ _ _ _ _ _ _ _ _ _ _ _ _ _ _ _ _ _ _ _ _ _ _ _ _ _ _ _ _ _ _ ?_
   rename_i K hK
   intro x117 x118 x119 x120 x121 x122 x123 x124 x125 x126
   apply hK
   go_wp2_with fail
   go_ret
   exact unhide HFIN _ _ (unhide HZ).1 (unhide HZ).2
 ·have HX:=hide (rulX_no (rule_n (F:=R.file) (l:=R.line) (c:=c) (row:=row) (by omega)))
  have h4z:((row.length:Int) == 4)=false:=by rw [beq_eq_false_iff_ne];omega
  have h5z:((row.length:Int) == 5)=false:=by rw [beq_eq_false_iff_ne];omega
  have h4n:((row.length:Int) != 4)=true:=by rw [bne_iff_ne];omega
  have h5n:((row.length:Int) != 5)=true:=by rw [bne_iff_ne];omega
  have HA2:=hide h.lineAt
  clear hn hrow hrc hfew h hc hci HROW HFEW
  generalize Fld.str (fld row 0)=r0 at *
  generalize row.length=n at *
  go_enter Tryz.func97,Tryz.ntmps97
  go_wp2_with fail
  go_ret
  exact DRes.no (unhide HX) (Below.refl _ _) (by decide) rfl (unhide HA2)
end Af
end Go.Proofs.YtmhegbeemgagkaaGreatDoor
