import Derived.Test.YtmhegbeemgagkaaGreatDoorGn25
set_option maxHeartbeats 8000000
set_option maxRecDepth 100000
namespace Go.Proofs.YtmhegbeemgagkaaGreatDoor
open Go.RowKit
namespace Af
open RowB
theorem infoDR:(Tryz.prog.info? 107).map (fun i => (i.zero,i.size,i.bytes))=some (some (.agg #[.string ⟨#[]⟩,.string ⟨#[]⟩]),2,32):=by kernel_rfl
theorem infoDA:(Tryz.prog.info? 60).map (fun i => (i.zero,i.size,i.bytes))=some (some (.slice none 0 0),1,24):=by kernel_rfl
theorem app_kq {a b:World} {B:Nat} {e:TypeId} {size n:Nat} {v:Value} {xs:List Value} (ho:a.ownsRow B e size v n xs) (hg:a.grownBy b v.ownBlock) (hB:B≤a.heap.size):Kq [e] noM a b∧Below B a b :=
 ⟨Kq.grown hg ho (by simp),(Below.refl _ _).grown hg hB fun k hk => (ho.lt k hk).1⟩
theorem app_new {a b:World} {o:Obj} {B:Nat} {e:TypeId} {size n:Nat} {v:Value} {xs:List Value} (ho:a.ownsRow B e size v n xs) (hg:(a.alloc o).grownBy b v.ownBlock) (hB:B≤a.heap.size):Kq [e] noM (a.alloc o) b∧Below B (a.alloc o) b∧a.heap.size < b.heap.size:=by
 have h:=app_kq (ho.alloc o) hg (Nat.le_trans hB (by simp))
 refine ⟨h.1,h.2,?_⟩
 have:=h.2.size
 simp at this
 omega
theorem rep_ok {F:Fil} (ok:FilOk F) (p:Bs × Bs) (h:F.reps.length < 256):FilOk { F with reps:=F.reps ++ [p] }:=⟨ok.kind,ok.spec,ok.specB,ok.cls,by simp;omega,ok.ali,ok.aliS,ok.rul,ok.len⟩
theorem DAt.addRep {B rb:Nat} {w w4 w5:World} {R:Rdr} {P:DPts} {v v':Value} {A:List (Nat × List Bs)} (h:DAt B w rb R P v A) (p:Bs × Bs) (hn:R.file.reps.length < 256) (k4:Below w.heap.size w w4) (k5:Kq [107] noM w4 w5) (l5:Below B w4 w5)
  (o5:w5.ownsRow B 107 2 v' (R.file.reps.length + 1) (R.file.reps.flatMap repC ++ repC p)) :
  DAt B (w5.setCell ⟨P.fb,9,none⟩ v') rb { R with file:={ R.file with reps:=R.file.reps ++ [p] } } { P with vr:=v' } v A∧Below B w (w5.setCell ⟨P.fb,9,none⟩ v') :=
 h.grew 107 k4 k5 l5 9 { R.file with reps:=R.file.reps ++ [p] } rfl ⟨rfl,rfl,rfl⟩ (.inl (by simpa using o5)) (.inr ⟨rfl,rfl,rfl,by decide⟩) (.inr ⟨rfl,rfl,by decide⟩) (.inr ⟨rfl,rfl,rfl,by decide⟩) (by decide) (rep_ok h.file.ok p hn)
theorem ali_ok {F:Fil} (ok:FilOk F) (p:List Int) (h:F.aliases.length < 1024) (hp:So.setOf p=p∧p.length≤1048577):FilOk { F with aliases:=F.aliases ++ [p] }:=⟨ok.kind,ok.spec,ok.specB,ok.cls,ok.reps,by simp;omega,fun a ha => by
 rcases List.mem_append.1 ha with q | q
 ·exact ok.aliS a q
 ·simp at q;subst q;exact hp,ok.rul,ok.len⟩
theorem DAt.addAli {B rb:Nat} {w w4 w5:World} {R:Rdr} {P:DPts} {v u v':Value} {A:List (Nat × List Bs)} (h:DAt B w rb R P v A) (p:List Int) (hp:So.setOf p=p∧p.length≤1048577) (hn:R.file.aliases.length < 1024) (k4:Below w.heap.size w w4) (hu:So.IRow 0 w4 u p) (k5:Kq [60] noM w4 w5) (l5:Below B w4 w5)
  (o5:w5.ownsRow B 60 1 v' (R.file.aliases.length + 1) (P.av ++ [u])) :
  DAt B (w5.setCell ⟨P.fb,10,none⟩ v') rb { R with file:={ R.file with aliases:=R.file.aliases ++ [p] } } { P with va:=v',av:=P.av ++ [u] } v A∧Below B w (w5.setCell ⟨P.fb,10,none⟩ v'):=by
 have h4:=h.below k4
 refine h.grew 60 k4 k5 l5 10 { R.file with aliases:=R.file.aliases ++ [p] } rfl ⟨rfl,rfl,rfl⟩ (.inr ⟨rfl,rfl,by decide⟩) (.inl ⟨by simpa using o5,by simp [h.file.aliF.1],?_⟩) (.inr ⟨rfl,rfl,by decide⟩) (.inr ⟨rfl,rfl,rfl,by decide⟩) (by decide) (ali_ok h.file.ok p hn hp)
 intro i v q hv hq
 rcases snoc_get hv with ⟨_,hv⟩ | ⟨hi,hv⟩
 ·rcases snoc_get hq with ⟨_,hq⟩ | ⟨hi2,hq⟩
  ·exact irow_kq (h4.file.aliF.2 i v q hv hq) k5 (by decide)
  ·have:=h.file.aliF.1;omega
 ·rcases snoc_get hq with ⟨hi2,hq⟩ | ⟨hi2,hq⟩
  ·have:=h.file.aliF.1;omega
  ·subst hv hq
   exact irow_kq hu k5 (by decide)
theorem dcell {B rb:Nat} {w w5:World} {R:Rdr} {P:DPts} {v:Value} {A:List (Nat × List Bs)} {o:Obj} {e:TypeId} (h:DAt B w rb R P v A) (k:Kq [e] noM (w.alloc o) w5) (he:e≠97) (i:Nat):w5.cell? ⟨P.fb,i,none⟩=w.cell? ⟨P.fb,i,none⟩∧w5.frozen? ⟨P.fb,i,none⟩=false:=by
 have h1:=(k.cells _ _ _ _ (alloc_heap1 h.file.fil o) (by simp;exact fun q => he q.symm)).trans (alloc_heap1 h.file.fil o)
 have h2:=h.file.fil
 simp [World.cell?,World.frozen?,h1,h2]
def repX (R:Rdr) (row:List Bs):Except Er Rdr:=match repRow R.line row with
 | .error e => .error e
 | .ok p => .ok { R with file:={ R.file with reps:=R.file.reps ++ [p] } }
theorem repX_no {R:Rdr} {row:List Bs} {e:Er} (h:repRow R.line row=.error e):repX R row=.error e:=by unfold repX;rw [h]
theorem repX_ok {R:Rdr} {row:List Bs} {p:Bs × Bs} (h:repRow R.line row=.ok p):repX R row=.ok { R with file:={ R.file with reps:=R.file.reps ++ [p] } }:=by unfold repX;rw [h]
def aliX (R:Rdr) (row:List Bs):Except Er Rdr:=match aliRow R.file R.line row with
 | .error e => .error e
 | .ok p => .ok { R with file:={ R.file with aliases:=R.file.aliases ++ [p] } }
theorem aliX_no {R:Rdr} {row:List Bs} {e:Er} (h:aliRow R.file R.line row=.error e):aliX R row=.error e:=by unfold aliX;rw [h]
theorem aliX_ok {R:Rdr} {row:List Bs} {p:List Int} (h:aliRow R.file R.line row=.ok p):aliX R row=.ok { R with file:={ R.file with aliases:=R.file.aliases ++ [p] } }:=by unfold aliX;rw [h]
theorem inner_rep {B rb:Nat} {w:World} {R:Rdr} {P:DPts} {v:Value} {A:List (Nat × List Bs)} (h:DAt B w rb R P v A) (row:List Bs) (rv:Value) (hrow:RowIn B w rv row) (hfew:∀ f ∈ row,f.length≤65536∧f≠[]) (h0:row≠[]) (hk:fld row 0=[82,69,80]) (hlt:R.file.reps.length < 256) :
  Calls Tryz.prog 97 #[ptr rb,rv] w (DRes B rb v A w (repX R row)):=by
 obtain ⟨i0,hi,hz0,hz1,hz2⟩:=info_parts infoDR
 obtain ⟨d0,-⟩:=h.cells
 have hpos:0 < row.length:=List.length_pos_iff.2 h0
 obtain ⟨g,cap,rfl,hg,hgn,hrc⟩:=hrow.get
 have q0:=hrc 0 hpos
 have t0:=lst_t (s:=Fld.str (fld row 0)) (l:=[82,69,80]) (by rw [str_toList];exact hk)
 have HH:=hide h
 have HBW:Hid (∀ w1,Below w.heap.size w w1→Below B w w1):=fun w1 b => b.mono h.base
 have hrb:=h.lt
 clear h0 hk
 by_cases h3:row.length=3
 ·have q1:=hrc 1 (by omega)
  have q2:=hrc 2 (by omega)
  have hs1:=(hfew _ (List.mem_of_getElem? (fld_get (row:=row) (i:=1) (by omega)))).1
  have hs2:=(hfew _ (List.mem_of_getElem? (fld_get (row:=row) (i:=2) (by omega)))).1
  have HP:=hide (fun W => piece_doc (Fld.str (fld row 1)) false W (by rw [fstr_wd,Wd.str_size];exact hs1))
  have HQ:=hide (fun W => piece_doc (Fld.str (fld row 2)) true W (by rw [fstr_wd,Wd.str_size];exact hs2))
  rw [str_toList] at HP HQ
  have HX1:=hide (fun (hp:(pcN false (fld row 1)).2≠0) => repX_no (R:=R) (repRow_p h3 (pc1_no (l:=R.line) hp)))
  have HX2:=hide (fun (hp:(pcN false (fld row 1)).2=0) (hq:(pcN true (fld row 2)).2≠0) => repX_no (R:=R) (repRow_q h3 (pc1_ok (l:=R.line) hp) (pc0_no (l:=R.line) hq)))
  have HX3:=hide (fun (hp:(pcN false (fld row 1)).2=0) (hq:(pcN true (fld row 2)).2=0) => repX_ok (R:=R) (repRow_ok h3 (pc1_ok (l:=R.line) hp) (pc0_ok (l:=R.line) hq)))
  have hc2:Hid (∀ w1,Below w.heap.size w w1→w1.cell? ⟨g,2,none⟩=some (.string (Fld.str (fld row 2)))):=fun w1 b => ((b.mono h.base).cell (p:=⟨g,2,none⟩) hg).trans q2
  rw [h3] at *
  clear h3 hrow hrc hfew hs1 hs2 h
  generalize pcN false (fld row 1)=pc at *
  obtain ⟨T1,ec⟩:=pc
  generalize pcN true (fld row 2)=pd at *
  obtain ⟨T2,ed⟩:=pd
  generalize Fld.str (fld row 0)=r0 at *
  go_enter Tryz.func97,Tryz.ntmps97
  go_wp2_with fail
  refine (unhide HP _).mono ?_
  rintro e w2 ⟨rfl,b2⟩
  have HB2:=hide b2
  have q2:=unhide hc2 _ b2
  clear b2
  by_cases hp:ec=0
  ·subst hp
   go_wp2_with fail
   refine (unhide HQ _).mono ?_
   rintro e w3 ⟨rfl,b3⟩
   have HB3:Hid (Below w.heap.size w w3):=btr (unhide HB2) b3
   have hA3:=(unhide HH).below (unhide HB3)
   have HA3:=hide hA3
   obtain ⟨-,-,-,-,k9,-,-,-,kz⟩:=hA3.file.cells
   have ho9:=hA3.file.reps
   have hfb3:=hA3.file.lt
   obtain ⟨av,cv,ev,hv1,hv2⟩:=own_len ho9
   rw [ev] at k9 ho9
   have HO9:=hide ho9
   have hbB:=hA3.base
   clear ho9 hA3 hv1 hv2 ev
   go_wp2_with (at_builtin;(refine wpList_append_own _ rfl _ _ 92 rfl B 107 i0 (.agg #[.string ⟨#[]⟩,.string ⟨#[]⟩]) 2 32 Tryz.underlying92 hi hz0 hz1 hz2 rfl (by decide) _ _ _ rfl ((unhide HO9).alloc _) ⟨w3.heap.size,0,none⟩ 1 1 [.string (Wd.str T1),.string (Wd.str T2)] rfl rfl (cell_two_new _ _ _ _) (by simp [Value.oneCell']) (by unfold maxLen;omega) (by omega) (by first | (simp;done) | (simp;omega)) ?_;intro v' w5 hown' hgrow hnil;clear hnil;obtain ⟨av5,cv5,rfl,-,-⟩:=own_len hown';have HW5:=hide (app_new (unhide HO9) hgrow hbB);have HO5:=hide hown';have k9':=(dcell (unhide HA3) (unhide HW5).1 (by decide) 9).1.trans k9;have kz':=(dcell (unhide HA3) (unhide HW5).1 (by decide) 9).2;have hf5:=Nat.lt_trans hfb3 (unhide HW5).2.2;clear hown' hgrow))
   have HZ:=hide ((unhide HH).addRep (T1,T2) hlt ((unhide HB3).alloc (unhide HB3).size _) (unhide HW5).1 (unhide HW5).2.1 (unhide HO5))
   go_ret
   by_cases hq:ed=0
   ·subst hq
    exact DRes.yes (unhide HX3 trivial rfl) (unhide HZ).2 (unhide HZ).1
   ·exact DRes.no (unhide HX2 trivial hq) (unhide HZ).2 hq rfl (unhide HZ).1.lineAt
  ·have hpz:((ec:Int) == 0)=false:=by rw [beq_eq_false_iff_ne];omega
   have HNZ:=hide hp
   have HA2:=hide ((unhide HH).below (unhide HB2)).lineAt
   have HX:=hide (unhide HX1 hp)
   clear hp
   go_wp2_with fail
   go_ret
   exact DRes.no (unhide HX) (unhide HBW _ (unhide HB2)) (unhide HNZ) rfl (unhide HA2)
 ·have HX:=hide (repX_no (R:=R) (repRow_n (l:=R.line) h3))
  have h3z:((row.length:Int) == 3)=false:=by rw [beq_eq_false_iff_ne];omega
  have HA2:=hide h.lineAt
  clear h3 hrow hrc hfew h
  generalize Fld.str (fld row 0)=r0 at *
  generalize row.length=n at *
  go_enter Tryz.func97,Tryz.ntmps97
  go_wp2_with fail
  go_ret
  exact DRes.no (unhide HX) (Below.refl _ _) (by decide) rfl (unhide HA2)
theorem inner_ali {B rb:Nat} {w:World} {R:Rdr} {P:DPts} {v:Value} {A:List (Nat × List Bs)} (h:DAt B w rb R P v A) (row:List Bs) (rv:Value) (hrow:RowIn B w rv row) (hfew:∀ f ∈ row,f.length≤65536∧f≠[]) (h0:row≠[]) (hk:fld row 0=[65,70]) (hlt:R.file.aliases.length < 1024) :
  Calls Tryz.prog 97 #[ptr rb,rv] w (DRes B rb v A w (aliX R row)):=by
 obtain ⟨i0,hi,hz0,hz1,hz2⟩:=info_parts infoDA
 obtain ⟨d0,-⟩:=h.cells
 obtain ⟨k0,-⟩:=h.file.cells
 have hpos:0 < row.length:=List.length_pos_iff.2 h0
 obtain ⟨g,cap,rfl,hg,hgn,hrc⟩:=hrow.get
 have q0:=hrc 0 hpos
 have t0:=lst_f (s:=Fld.str (fld row 0)) (l:=[82,69,80]) (by rw [str_toList,hk];decide)
 have t1:=lst_t (s:=Fld.str (fld row 0)) (l:=[65,70]) (by rw [str_toList];exact hk)
 have HH:=hide h
 have hrb:=h.lt
 have hgw:g < w.heap.size:=Nat.lt_of_lt_of_le hg h.base
 have hfb:=h.file.lt
 clear h0 hk
 by_cases h2:row.length=2
 ·have q1:=hrc 1 (by omega)
  have hs1:=(hfew _ (List.mem_of_getElem? (fld_get (row:=row) (i:=1) (by omega)))).1
  have HP:=hide (fun W => So.refReadAll R.file.kind (Fld.str (fld row 1)) W (by rw [fstr_wd,Wd.str_size];omega))
  have hdl:Cut.dl (Fld.str (fld row 1))=fld row 1:=str_toList _
  rw [hdl] at HP
  have HX1:=hide (fun (hp:So.rE R.file.kind (fld row 1)≠0) => aliX_no (R:=R) (aliRow_e (F:=R.file) (l:=R.line) h2 hp))
  have HX2:=hide (fun (hp:So.rE R.file.kind (fld row 1)=0) => aliX_ok (R:=R) (aliRow_ok (F:=R.file) (l:=R.line) h2 hp))
  have HSET:=hide (fun (hp:So.rE R.file.kind (fld row 1)=0) => rS_set R.file.kind (fld row 1) hp)
  have HNIL:=hide (fun (hp:So.rE R.file.kind (fld row 1)≠0) => show So.rS R.file.kind (fld row 1)=[] from if_neg hp)
  have HEP:Hid (0≤So.rE R.file.kind (fld row 1)):=by
   unfold Hid So.rE So.readE
   repeat' split
   all_goals omega
  rw [h2] at *
  clear h2 hrow hrc hfew hs1 h hdl
  generalize So.rS R.file.kind (fld row 1)=S at *
  generalize So.rE R.file.kind (fld row 1)=ec at *
  generalize Fld.str (fld row 0)=r0 at *
  generalize Fld.str (fld row 1)=r1 at *
  go_enter Tryz.func97,Tryz.ntmps97
  go_wp2_with fail
  go_region_held2 (fun w' => w'.cell? ⟨P.fb,0,none⟩=some (.int .i64 R.file.kind)∧w'.cell? ⟨g,1,none⟩=some (.string r1)) (first | (with_reducible exact ⟨k03,z13⟩) | exact ⟨k0,q1⟩) (first | (go_at_call 44;refine (unhide HP _).mono ?_;rintro e w3 ⟨u,rfl,f3,b3'⟩;have b3:=((Below.refl w.heap.size w).drew).trans b3';have HB3:=hide b3;have HF3:=hide f3;have k03:=(b3.cell (p:=⟨P.fb,0,none⟩) hfb).trans k0;have z13:=(b3.cell (p:=⟨g,1,none⟩) hgw).trans q1;clear b3 f3 b3'))
  obtain ⟨au,cu,rfl,-,-⟩:=(unhide HF3).form
  have hA3:=(unhide HH).below (unhide HB3)
  have HA3:=hide hA3
  obtain ⟨-,-,-,-,-,k10,-,-,kz⟩:=hA3.file.cells
  have ho9:=hA3.file.alis
  have hfb3:=hA3.file.lt
  obtain ⟨av,cv,ev,hv1,hv2⟩:=own_len ho9
  rw [ev] at k10 ho9
  have HO9:=hide ho9
  have hbB:=hA3.base
  clear ho9 hA3 hv1 hv2 ev k03 z13
  go_wp2_with (at_builtin;(refine wpList_append_own _ rfl _ _ 93 rfl B 60 i0 (.slice none 0 0) 1 24 Tryz.underlying93 hi hz0 hz1 hz2 rfl (by decide) _ _ _ rfl ((unhide HO9).alloc _) ⟨w3.heap.size,0,none⟩ 1 1 [.slice au S.length cu] rfl rfl (cell_one_new _ _ _) (by simp [Value.oneCell']) (by unfold maxLen;omega) (by omega) (by first | (simp;done) | (simp;omega)) ?_;intro v' w5 hown' hgrow hnil;clear hnil;obtain ⟨av5,cv5,rfl,-,-⟩:=own_len hown';have HW5:=hide (app_new (unhide HO9) hgrow hbB);have HO5:=hide hown';have k9':=(dcell (unhide HA3) (unhide HW5).1 (by decide) 10).1.trans k10;have kz':=(dcell (unhide HA3) (unhide HW5).1 (by decide) 10).2;have hf5:=Nat.lt_trans hfb3 (unhide HW5).2.2;clear hown' hgrow))
  go_ret
  by_cases hq:ec=0
  ·have HZ:=hide ((unhide HH).addAli S (unhide HSET hq) hlt ((unhide HB3).alloc (unhide HB3).size (.cells #[.slice au S.length cu] 60)) (u:=.slice au S.length cu) (irow_kept (unhide HF3) (below_kept ((Below.refl _ w3).alloc (Nat.le_refl _) _))) (unhide HW5).1 (unhide HW5).2.1 (unhide HO5))
   subst hq
   exact DRes.yes (unhide HX2 rfl) (unhide HZ).2 (unhide HZ).1
  ·have hn:=unhide HNIL hq
   subst hn
   have HZ:=hide ((unhide HH).addAli [] ⟨rfl,by simp⟩ hlt ((unhide HB3).alloc (unhide HB3).size (.cells #[.slice au 0 cu] 60)) (u:=.slice au 0 cu) (irow_kept (unhide HF3) (below_kept ((Below.refl _ w3).alloc (Nat.le_refl _) _))) (unhide HW5).1 (unhide HW5).2.1 (unhide HO5))
   have he:=unhide HEP
   exact DRes.no (unhide HX1 hq) (unhide HZ).2 (by omega) (by omega) (unhide HZ).1.lineAt
 ·have HX:=hide (aliX_no (R:=R) (aliRow_n (F:=R.file) (l:=R.line) h2))
  have h3z:((row.length:Int) == 2)=false:=by rw [beq_eq_false_iff_ne];omega
  have HA2:=hide h.lineAt
  clear h2 hrow hrc hfew h
  generalize Fld.str (fld row 0)=r0 at *
  generalize row.length=n at *
  go_enter Tryz.func97,Tryz.ntmps97
  go_wp2_with fail
  go_ret
  exact DRes.no (unhide HX) (Below.refl _ _) (by decide) rfl (unhide HA2)
end Af
end Go.Proofs.YtmhegbeemgagkaaGreatDoor
