import Derived.Test.YtmhegbeemgagkaaGreatDoorGn25
namespace Go.Proofs.YtmhegbeemgagkaaGreatDoor
open Go.RowKit
namespace Af
open RowB
set_option maxRecDepth 100000 in
set_option maxHeartbeats 8000000 in
theorem rule_doc1 {B xb g cap l:Nat} {w0 w:World} {F:Fil} {P:DPts} {c:Cls} {row:List Bs} {a r:Bs} (h:RH B xb g cap w0 w F P l c row) (hn:row.length=4∨row.length=5) (h1:(pcN true (fld row 2)).2=0) (h2:Wd.rd [] (fld row 3)=some (a,r,false)) (ha:a=[48]) :
  Calls Tryz.prog 121 #[ptr P.fb,ptr xb,.slice (some ⟨g,0,none⟩) row.length cap] w (RRes xb w (rule F l c row)):=by
 have hadd:=added_cut (F:=F) (l:=l) (k:=c.kind) h2 (.inl ha)
 have HX1:=hide (fun p (hp:added F l c.kind (fld row 3)=.ok p) => rule_of hn (pc0_ok h1) hp)
 have HX2:=hide (fun e (hp:added F l c.kind (fld row 3)=.error e) => rule_e2 hn (pc0_ok h1) hp)
 have hcells:=h.cells
 have hsx:=h.sx
 have hlow:=fun i (hi:i < row.length) => h.few _ (List.mem_of_getElem? (fld_get (row:=row) (i:=i) hi))
 have c2:=hcells w (Below.refl _ _) 2 (by omega)
 have hs2:=(hlow 2 (by omega)).1
 have hs3:=(hlow 3 (by omega)).1
 have HP:=hide (fun W => piece_doc (Fld.str (fld row 2)) true W (by rw [fstr_wd,Wd.str_size];exact hs2))
 rw [str_toList,h1] at HP
 have HR:=hide (fun W => RfW.read_any (Fld.str (fld row 3)) W (by rw [fstr_wd,Wd.str_size];omega))
 rw [str_toList,h2] at HR
 unfold RdW.ans at HR
 have hz:=rd_len [] _ h2
 simp only [List.length_nil,Nat.zero_add] at hz
 have HC:=hide hcells
 have HSX:=hide hsx
 have HF:=hide h.flags
 have hcap:=h.cap
 have hxl:=hsx.lt
 have HLOW:=hide hlow
 have hdd:addD a=[]:=if_pos ha
 rw [hdd] at hadd
 have t48:=lst_t (s:=Wd.str a) (l:=[48]) (by rw [Wd.str_list];exact ha)
 rw [if_pos rfl] at hadd
 have HXX:=hide (unhide HX1 _ hadd)
 clear h hcells hsx hlow h1 h2 hs2 hs3 hadd hdd ha HF hz
 generalize pcN true (fld row 2)=pc at *
 obtain ⟨T,ec⟩:=pc
 go_enter Tryz.func121,Tryz.ntmps121
 go_wp2_with fail
 refine (unhide HP _).mono ?_
 rintro e w2 ⟨rfl,b2⟩
 have HS2:=hide ((unhide HSX).below b2)
 have x3:=(unhide HS2).cells.2.1
 have xf:=(unhide HS2).cells.2.2.2.2.2
 have xl:=(unhide HS2).lt
 have HS3:Hid (SX xb w (w2.setCell ⟨xb,3,none⟩ (.string (Wd.str T))) ⟨c.kind,c.flag,c.cross,T,[],[],[],l⟩ (.slice none 0 0)):=(unhide HS2).set 3 _ rfl (unhide HS2).nxt
 have c3:=unhide HC _ (unhide HS3).low 3 (by omega)
 clear b2
 go_wp2_with fail
 refine (unhide HR _).mono ?_
 rintro e w3 ⟨rfl,b3⟩
 have HS4:=hide ((unhide HS3).below b3)
 have y0:=(unhide HS4).cells.1
 have y4:=(unhide HS4).cells.2.2.1
 have y5:=(unhide HS4).cells.2.2.2.1
 have y6:=(unhide HS4).cells.2.2.2.2.1
 have yf:=(unhide HS4).cells.2.2.2.2.2
 have yl:=(unhide HS4).lt
 clear b3 x3 xf xl c3 c2
 rcases hn with hn | hn
 ·have HY:=hide ((unhide HXX).trans (condX_4 hn))
  have hn5:(row.length:Int)=4:=by omega
  rw [hn] at *
  have HS7:Hid (SX xb w (w3.setCell ⟨xb,5,none⟩ (.string ⟨#[46]⟩)) ⟨c.kind,c.flag,c.cross,T,[],[46],[],l⟩ (.slice none 0 0)):=(unhide HS4).set 5 _ rfl (unhide HS4).nxt
  go_wp2_with fail
  go_ret
  exact RRes.yes (unhide HY) (unhide HS7)
 ·have hn5:(row.length:Int)=5:=by omega
  have HS7:Hid (SX xb w (w3.setCell ⟨xb,5,none⟩ (.string ⟨#[46]⟩)) ⟨c.kind,c.flag,c.cross,T,[],[46],[],l⟩ (.slice none 0 0)):=(unhide HS4).set 5 _ rfl (unhide HS4).nxt
  have c4:=unhide HC _ (unhide HS7).low 4 (by omega)
  have hl4:=unhide HLOW 4 (by omega)
  have HB:=hide (fun W => VlW.bytes_any (Fld.str (fld row 4)) W (by rw [fstr_wd,Wd.str_size];unfold maxLen;omega))
  rw [str_toList] at HB
  have HCR:=hide (fun W => Pt.refRead_any (Fld.str (fld row 4)) W)
  rw [str_toList] at HCR
  have HYB:=hide (fun hb => (unhide HXX).trans (condX_b hn hb))
  have HYK:=hide (fun hb he => (unhide HXX).trans (condX_ok hn hl4.2 hb he))
  have HYE:=hide (fun hb he => (unhide HXX).trans (condX_e hn hl4.2 hb he))
  rw [hn] at *
  cases hb:(fld row 4).all Wd.fit with
  | false =>
   have HY:=hide (unhide HYB hb)
   rw [hb] at HB
   clear hb HCR
   go_wp2_with fail
   refine (unhide HB _).mono ?_
   rintro e w8 ⟨rfl,rfl⟩
   go_wp2_with fail
   go_ret
   exact RRes.no (unhide HY) (unhide HS7) (by decide) rfl
  | true =>
   rw [hb] at HB
   by_cases he:(Cd.rd (fld row 4)).2=0
   ·have HY:=hide (unhide HYK hb he)
    have HSH:=hide (fun W v h => Pt.refShow_any (Cd.rd (fld row 4)).1 v W (Pt.rd_pcs _) (Cd.rd_len _) h)
    rw [he] at HCR
    clear hb he
    go_wp2_with fail
    refine (unhide HB _).mono ?_
    rintro e w8 ⟨rfl,rfl⟩
    go_wp2_with fail
    refine (unhide HCR _).mono ?_
    rintro e w9 ⟨v9,rfl,hp9,b9⟩
    have HS9:=hide ((unhide HS7).below b9)
    have HT9:=hide hp9.at
    clear hp9 b9
    go_wp2_with fail
    refine (unhide HSH _ _ (unhide HT9)).mono ?_
    rintro e w10 ⟨rfl,b10⟩
    have HS10:=hide ((unhide HS9).below b10)
    have v5:=(unhide HS10).cells.2.2.2.1
    have vf:=(unhide HS10).cells.2.2.2.2.2
    have vl:=(unhide HS10).lt
    have HS11:=hide ((unhide HS10).set 5 (.string (Wd.str (Cd.sws (Cd.rd (fld row 4)).1))) (r':=⟨c.kind,c.flag,c.cross,T,[],Cd.sws (Cd.rd (fld row 4)).1,[],l⟩) rfl (unhide HS10).nxt)
    clear b10
    go_wp2_with fail
    go_ret
    exact RRes.yes (unhide HY) (unhide HS11)
   ·have HY:=hide (unhide HYE hb he)
    have HNZ:=hide he
    have hez:(((Cd.rd (fld row 4)).2:Nat):Int)≠0:=by omega
    generalize (Cd.rd (fld row 4)).2=ce at *
    have hez2:((ce:Int) == 0)=false:=by rw [beq_eq_false_iff_ne];exact hez
    clear hb he
    go_wp2_with fail
    refine (unhide HB _).mono ?_
    rintro e w8 ⟨rfl,rfl⟩
    go_wp2_with fail
    refine (unhide HCR _).mono ?_
    rintro e w9 ⟨v9,rfl,hp9,b9⟩
    have HS9:=hide ((unhide HS7).below b9)
    clear hp9 b9
    go_wp2_with fail
    go_ret
    exact RRes.no (unhide HY) (unhide HS9) (unhide HNZ) rfl
end Af
end Go.Proofs.YtmhegbeemgagkaaGreatDoor
