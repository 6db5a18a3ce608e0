import Derived.Test.YtmhegbeemgagkaaGreatDoorGn20
import Derived.Deep.RegionHeld2
set_option maxHeartbeats 8000000
set_option maxRecDepth 100000
namespace Go.Proofs.YtmhegbeemgagkaaGreatDoor
open Go.RowKit
namespace Af
open RowB
theorem clone_txt (s:ByteArray) (w:World) (hs:s.size≤67108864):Calls Tryz.prog 111 #[.string s] w fun e w' => e=.returned (.string s)∧Below w.heap.size w w':=by
 have HC:=hide (fun W => Tryz.stringslite_Clone s W (by omega))
 go_enter Tryz.func111,Tryz.ntmps111
 go_wp2_with (go_at_call 142;refine (unhide HC _).mono ?_;rintro e w1 ⟨rfl,hb⟩;have HB:=hide hb;clear hb)
 go_ret
 exact ⟨rfl,unhide HB⟩
theorem doCharset_no {R:Rdr} {f:Bs} (h:VlW.okB f=false):doCharset R f=.error (R.line,21):=by unfold doCharset;rw [h];rfl
theorem doCharset_ok {R:Rdr} {f:Bs} (h:VlW.okB f=true):doCharset R f=.ok { R with file:={ R.file with charset:=f } }:=by unfold doCharset;rw [if_pos h]
theorem readCharset_any {B rb:Nat} {R:Rdr} {P:Pts} {w:World} (h:RAt B w rb R P) (k:Value) (hd:List Bs) (hv:Value) (hrow:StrRow B w hv (hd.map Fld.str)) (hlen:hd.length=2) (hf:∀ f ∈ hd,f.length≤65536) :
  Calls Tryz.prog 83 #[ptr rb,hv,k] w (Res B rb P w (doCharset R (fld hd 1))):=by
 obtain ⟨d0,-,hl,-,-,-,-⟩:=h.cells
 have hb:=h.lt
 have HH:=hide h
 obtain ⟨g,cap,rfl,hg,h1,h2,⟨gcur,hgc⟩,hcl⟩:=str_cells hrow
 have HNG:Hid (P.fb≠g):=fun e => by
  rw [← e,h.file.fil] at hgc
  injection hgc with hgc
  injection hgc with _ hgc _
  exact absurd hgc (by decide)
 clear hgc
 unfold maxLen at h2
 have q1:=hcl 1 _ (fld_get (by omega))
 have hf1:=hf _ (List.mem_of_getElem? (fld_get (row:=hd) (i:=1) (by omega)))
 have e1:(Fld.str (fld hd 1)).data.toList=fld hd 1:=by simp [Fld.str]
 have hsz:(Fld.str (fld hd 1)).size≤65536:=by rw [fstr_wd,Wd.str_size];omega
 have HC:=hide (checkBytes_any rb R.line (Fld.str (fld hd 1)) w hsz hb hl)
 rw [e1] at HC
 rw [hlen] at h1 ⊢
 clear hcl hf hrow hlen
 cases ho:VlW.okB (fld hd 1) with
 | false =>
  have HX:=hide (doCharset_no (R:=R) ho)
  have HT:=hide (noOf (unhide HC) (ckB_no ho))
  have HB:=hide h.base
  clear ho h d0 hsz e1 hl HC hf1
  generalize Fld.str (fld hd 1)=r1 at *
  go_enter Tryz.func83,Tryz.ntmps83
  go_wp2_with (go_at_call 110;refine (unhide HT).mono ?_;rintro e w2 ⟨rfl,b2⟩)
  exact ⟨rfl,Res.no (unhide HX) (Kt.of_below b2 (unhide HB))⟩
 | true =>
  have HX:=hide (doCharset_ok (R:=R) ho)
  have HT:=hide (okOf (unhide HC) (ckB_ok ho))
  have HCT:=hide (fun W => clone_txt (Fld.str (fld hd 1)) W (by omega))
  have ok:=h.file.ok
  have HF:=hide (fun w0 (b:Below w.heap.size w w0) => h.fset b (F':={ R.file with charset:=fld hd 1 }) 1 (.string (Fld.str (fld hd 1))) rfl rfl rfl rfl rfl ⟨ok.kind,ok.spec,ok.specB,ok.cls,ok.reps,ok.ali,ok.aliS,ok.rul,hf1⟩)
  have HCC:Hid (∀ w0,Below w.heap.size w w0→w0.cell? ⟨rb,0,none⟩=some (.pointer (some ⟨P.fb,0,none⟩))∧w0.cell? ⟨P.fb,1,none⟩=some (.string (Wd.str R.file.charset))∧P.fb < w0.heap.size∧∀ j,w0.frozen? ⟨P.fb,j,none⟩=false):=fun w0 b => by
   have h0:=h.below b
   have:=h0.file.fil
   refine ⟨h0.cells.1,by simp [World.cell?,this,filC],h0.file.lt,fun j => by simp [World.frozen?,this]⟩
  have HNE:Hid (P.fb≠rb):=fun e => h.ne e.symm
  clear ho h d0 hsz e1 hl HC hf1 ok
  generalize Fld.str (fld hd 1)=r1 at *
  go_enter Tryz.func83,Tryz.ntmps83
  go_wp2_with (go_at_call 110;refine (unhide HT).mono ?_;rintro e w2 ⟨rfl,b2⟩;have HB2:=hide b2;clear b2)
  obtain ⟨f1,-,-,-⟩:=unhide HCC _ (unhide HB2)
  have g1:=((unhide HB2).cell (p:=⟨g,1,none⟩) hg).trans q1
  have sA:(w2.drew.cell? ⟨rb,0,none⟩=some (.pointer (some ⟨P.fb,0,none⟩))∧w2.drew.cell? ⟨g,1,none⟩=some (.string r1)):=⟨f1,g1⟩
  clear f1 g1
  go_region_held2 (fun w' => w'.cell? ⟨rb,0,none⟩=some (.pointer (some ⟨P.fb,0,none⟩))∧w'.cell? ⟨g,1,none⟩=some (.string r1)) (first | (with_reducible exact s6) | (with_reducible exact s5) | (with_reducible exact sA)) (first | (go_at_call 111;refine (unhide HCT _).mono ?_;rintro e w5 ⟨rfl,b5⟩;have HB5:=hide (btr (unhide HB2).drew b5);obtain ⟨n1,n2,n3,n4⟩:=unhide HCC _ (unhide HB5);have s5:(w5.cell? ⟨rb,0,none⟩=some (.pointer (some ⟨P.fb,0,none⟩))∧w5.cell? ⟨g,1,none⟩=some (.string r1)):=⟨n1,((unhide HB5).cell (p:=⟨g,1,none⟩) hg).trans q1⟩;have s6:((w5.setCell ⟨P.fb,1,none⟩ (.string r1)).cell? ⟨rb,0,none⟩=some (.pointer (some ⟨P.fb,0,none⟩))∧(w5.setCell ⟨P.fb,1,none⟩ (.string r1)).cell? ⟨g,1,none⟩=some (.string r1)):=⟨(World.cell?_setCell_far _ _ _ _ (unhide HNE)).trans s5.1,(World.cell?_setCell_far _ _ _ _ (unhide HNG)).trans s5.2⟩;clear b5 n1))
  go_wp2
  go_end0
  exact Res.yes (unhide HX) (unhide HF _ (unhide HB5)).2 (unhide HF _ (unhide HB5)).1 rfl rfl rfl
theorem calls_nof {g:FuncId} {args:Array Value} {w W:World} {er:Er} {Q:Ending→World→Prop} (r:Value) (b:Below w.heap.size w W) (h:∀ W,Below w.heap.size w W→Calls Tryz.prog g args W fun e w' => e=.panicked (chn er)∧Below W.heap.size W w') (k:∀ w',Below w.heap.size w w'→Q (.panicked (chn er)) w') (_d:Hid False→Q (.returned r) W):Calls Tryz.prog g args W Q :=
 (h W b).mono fun e w' q => by rw [q.1];exact k w' (b.trans (q.2.mono b.size))
theorem doSpecial_no {i:Nat} {R:Rdr} {f:Bs} {e:Er} (h:newFlag R f=.error e):doSpecial i R f=.error e:=by unfold doSpecial;rw [h]
theorem doSpecial_ok {i:Nat} {R:Rdr} {f:Bs} {x:Int} (h:newFlag R f=.ok x):doSpecial i R f=.ok { R with file:={ R.file with specials:=R.file.specials.set i x } }:=by unfold doSpecial;rw [h]
theorem five {l:List Int} (h:l.length=5):∃ a b c d e,l=[a,b,c,d,e]:=by
 match l,h with
 | [a,b,c,d,e],_ => exact ⟨a,b,c,d,e,rfl⟩
theorem spec_ok {F:Fil} (ok:FilOk F) (i:Nat) (x:Int) (h0:0≤x) (h1:x≤65535):FilOk { F with specials:=F.specials.set i x }:=by
 refine ⟨ok.kind,by simpa using ok.spec,fun y hy => ?_,ok.cls,ok.reps,ok.ali,ok.aliS,ok.rul,ok.len⟩
 rcases List.mem_or_eq_of_mem_set hy with q | q
 ·exact ok.specB y q
 ·subst q;exact ⟨h0,h1⟩
theorem filC_spec {W:World} {F:Fil} {P:Pts} {i:Nat} (hi:i < 5) (h:W.heap[P.fb]?=some (.cells (filC F P) 111 (0,0))):W.cell? ⟨P.fb,3 + i,none⟩=some (.int .u16 (F.specials.getD i 0)):=by
 rcases i with _ | _ | _ | _ | _ | i <;> first | omega | simp [World.cell?,h,filC]
theorem spec_setP {F:Fil} {P:Pts} {i:Nat} (hi:i < 5) (ok:FilOk F) (x:Int):(filC F P).setIfInBounds (3 + i) (.int .u16 x)=filC { F with specials:=F.specials.set i x } P:=by
 obtain ⟨s0,s1,s2,s3,s4,hsp⟩:=five ok.spec
 rcases i with _ | _ | _ | _ | _ | i <;> first | omega | simp [filC,hsp]
theorem readSpecial_any {B rb i:Nat} (hi:i < 5) {R:Rdr} {P:Pts} {w:World} (h:RAt B w rb R P) (hd:List Bs) (hv:Value) (hrow:StrRow B w hv (hd.map Fld.str)) (hlen:hd.length=2) (hf:∀ f ∈ hd,f.length≤65536) :
  Calls Tryz.prog 85 #[ptr rb,hv,.int .i64 (i:Nat)] w (Res B rb P w (doSpecial i R (fld hd 1))):=by
 obtain ⟨d0,-,hl,-,-,-,-⟩:=h.cells
 have hb:=h.lt
 have hfb:=h.file.lt
 have HH:=hide h
 have hi5:(i:Int) < 5:=by omega
 have hi0:¬ (i:Int) < 0:=by omega
 obtain ⟨g,cap,rfl,hg,h1,h2,⟨gcur,hgc⟩,hcl⟩:=str_cells hrow
 have HNG:Hid (P.fb≠g):=fun e => by
  rw [← e,h.file.fil] at hgc
  injection hgc with hgc
  injection hgc with _ hgc _
  exact absurd hgc (by decide)
 clear hgc
 have HNE:Hid (P.fb≠rb):=fun e => h.ne e.symm
 unfold maxLen at h2
 have q1:=hcl 1 _ (fld_get (by omega))
 have hf1:=hf _ (List.mem_of_getElem? (fld_get (row:=hd) (i:=1) (by omega)))
 have HN:=hide (fun W (b:Below w.heap.size w W) => newFlag_all (h.below b) (Fld.str (fld hd 1)) (by rw [fstr_wd,Wd.str_size];omega))
 have e1:(Fld.str (fld hd 1)).data.toList=fld hd 1:=by simp [Fld.str]
 rw [e1] at HN
 rw [hlen] at h1 ⊢
 clear hcl hf hrow hlen hf1 e1
 cases hn:newFlag R (fld hd 1) with
 | error er =>
  have HX:=hide (doSpecial_no (i:=i) hn)
  have HNN:=hide (fun W b => noOf (unhide HN W b) hn)
  obtain ⟨k3,kz⟩:(∃ u,w.cell? ⟨P.fb,3 + i,none⟩=some u)∧∀ j,w.frozen? ⟨P.fb,j,none⟩=false:=by
   have:=h.file.fil
   exact ⟨⟨_,filC_spec hi this⟩,fun j => by simp [World.frozen?,this]⟩
  obtain ⟨u,ku⟩:=k3
  clear HN hn h hl
  generalize Fld.str (fld hd 1)=r1 at *
  have sA:(w.drew.cell? ⟨rb,0,none⟩=some (.pointer (some ⟨P.fb,0,none⟩))∧w.drew.cell? ⟨g,1,none⟩=some (.string r1)):=⟨d0,q1⟩
  have s6:∀ v,((w.setCell ⟨P.fb,3 + i,none⟩ v).drew.cell? ⟨rb,0,none⟩=some (.pointer (some ⟨P.fb,0,none⟩))∧(w.setCell ⟨P.fb,3 + i,none⟩ v).drew.cell? ⟨g,1,none⟩=some (.string r1)):=fun v => ⟨(World.cell?_setCell_far w ⟨P.fb,_,none⟩ _ v (unhide HNE)).trans d0,(World.cell?_setCell_far w ⟨P.fb,_,none⟩ _ v (unhide HNG)).trans q1⟩
  go_enter Tryz.func85,Tryz.ntmps85
  go_wp2_with fail
  go_region_held2 (fun w' => (w'.cell? ⟨rb,0,none⟩=some (.pointer (some ⟨P.fb,0,none⟩))∧w'.cell? ⟨g,1,none⟩=some (.string r1))) (first | (with_reducible exact s6 _) | (with_reducible exact sA)) (first | (go_at_call 113;refine calls_nof (.int .u16 0) (by (repeat (first | exact Below.refl _ _ | refine Below.drew ?_ | refine Below.alloc ?_ (by first | (simp; done) | (simp; omega)) _ | refine Below.setCell ?_ (by first | (simp; done) | (simp; omega)) _))) (unhide HNN) (fun w4 b4 => ⟨rfl,Res.no (unhide HX) (Kt.of_below b4 (unhide HH).base)⟩) ?_;intro HF))
  all_goals exact (unhide HF).elim
 | ok x =>
  have HX:=hide (doSpecial_ok (i:=i) hn)
  have HNN:=hide (fun W b => okOf (unhide HN W b) hn)
  unfold flgV at HNN
  obtain ⟨x1,x2,-,-⟩:=newFlag_pos hn
  have HF:=hide (fun w0 (b:Below w.heap.size w w0) => h.fset b (F':={ R.file with specials:=R.file.specials.set i x }) (3 + i) (.int .u16 x) (spec_setP hi h.file.ok x) rfl rfl rfl rfl (spec_ok h.file.ok i x (by omega) x2))
  have HCC:Hid (∀ w0,Below w.heap.size w w0→w0.cell? ⟨rb,0,none⟩=some (.pointer (some ⟨P.fb,0,none⟩))∧w0.cell? ⟨P.fb,3 + i,none⟩=some (.int .u16 (R.file.specials.getD i 0))∧P.fb < w0.heap.size∧∀ j,w0.frozen? ⟨P.fb,j,none⟩=false):=fun w0 b => by
   have h0:=h.below b
   have:=h0.file.fil
   refine ⟨h0.cells.1,filC_spec hi this,h0.file.lt,fun j => by simp [World.frozen?,this]⟩
  clear HN hn h hl x1 x2
  generalize Fld.str (fld hd 1)=r1 at *
  have sA:(w.drew.cell? ⟨rb,0,none⟩=some (.pointer (some ⟨P.fb,0,none⟩))∧w.drew.cell? ⟨g,1,none⟩=some (.string r1)):=⟨d0,q1⟩
  go_enter Tryz.func85,Tryz.ntmps85
  go_wp2_with fail
  go_region_held2 (fun w' => (w'.cell? ⟨rb,0,none⟩=some (.pointer (some ⟨P.fb,0,none⟩))∧w'.cell? ⟨g,1,none⟩=some (.string r1))) (first | (with_reducible exact s6) | (with_reducible exact s5) | (with_reducible exact sA)) (first | (go_at_call 113;refine (unhide HNN _ (by (repeat (first | exact Below.refl _ _ | refine Below.drew ?_ | refine Below.alloc ?_ (by first | (simp; done) | (simp; omega)) _ | refine Below.setCell ?_ (by first | (simp; done) | (simp; omega)) _)))).mono ?_;rintro e w5 ⟨rfl,b5⟩;have HB5:=hide (btr ((Below.refl _ w).drew) b5);obtain ⟨n1,n2,n3,n4⟩:=unhide HCC _ (unhide HB5);have s5:(w5.cell? ⟨rb,0,none⟩=some (.pointer (some ⟨P.fb,0,none⟩))∧w5.cell? ⟨g,1,none⟩=some (.string r1)):=⟨n1,((unhide HB5).cell (p:=⟨g,1,none⟩) hg).trans q1⟩;have s6:((w5.setCell ⟨P.fb,3 + i,none⟩ (.int .u16 x)).cell? ⟨rb,0,none⟩=some (.pointer (some ⟨P.fb,0,none⟩))∧(w5.setCell ⟨P.fb,3 + i,none⟩ (.int .u16 x)).cell? ⟨g,1,none⟩=some (.string r1)):=⟨(World.cell?_setCell_far _ _ _ _ (unhide HNE)).trans s5.1,(World.cell?_setCell_far _ _ _ _ (unhide HNG)).trans s5.2⟩;clear b5 n1))
  go_wp2
  go_end0
  exact Res.yes (unhide HX) (unhide HF _ (unhide HB5)).2 (unhide HF _ (unhide HB5)).1 rfl rfl rfl
end Af
namespace Af
theorem eq5 (s0 s1 s2 s3 s4:Int) (w:World):Sem.run Tryz.prog (Op.equalIn 10000 35 (.agg #[.int .u16 s0,.int .u16 s1,.int .u16 s2,.int .u16 s3,.int .u16 s4]) (.agg #[.int .u16 0,.int .u16 0,.int .u16 0,.int .u16 0,.int .u16 0])) w=.ok (decide (s0=0∧s1=0∧s2=0∧s3=0∧s4=0)) w:=by
 obtain ⟨i,hi,hz⟩:=Option.map_eq_some_iff.1 So.infoF
 rw [show (10000:Nat)=9999 + 1 from rfl,run_equalIn_array w 9999 _ _ Tryz.underlying35 hi]
 have hc:Tryz.prog.cellsOf 34=1:=by kernel_rfl
 rw [hc,show List.range 5=[0,1,2,3,4] from rfl]
 have p0:∀ (a b c d e:Value) (W:World),(part 34 #[a,b,c,d,e] 0).run Tryz.prog W=.ok a W:=fun a b c d e W => by kernel_rfl
 have p1:∀ (a b c d e:Value) (W:World),(part 34 #[a,b,c,d,e] 1).run Tryz.prog W=.ok b W:=fun a b c d e W => by kernel_rfl
 have p2:∀ (a b c d e:Value) (W:World),(part 34 #[a,b,c,d,e] 2).run Tryz.prog W=.ok c W:=fun a b c d e W => by kernel_rfl
 have p3:∀ (a b c d e:Value) (W:World),(part 34 #[a,b,c,d,e] 3).run Tryz.prog W=.ok d W:=fun a b c d e W => by kernel_rfl
 have p4:∀ (a b c d e:Value) (W:World),(part 34 #[a,b,c,d,e] 4).run Tryz.prog W=.ok e W:=fun a b c d e W => by kernel_rfl
 have he:∀ (x y:Int) (W:World),(Op.equalIn 9999 34 (.int .u16 x) (.int .u16 y)).run Tryz.prog W=.ok (x == y) W:=fun x y W => by kernel_rfl
 simp only [Op.eqItems,Sem.run_bind,Nat.mul_one,p0,Result.andThen_ok,he]
 by_cases a0:s0=0
 ·by_cases a1:s1=0
  ·by_cases a2:s2=0
   ·by_cases a3:s3=0
    ·by_cases a4:s4=0 <;> simp [a0,a1,a2,a3,a4,p1,p2,p3,p4,he]
    ·simp [a0,a1,a2,a3,p1,p2,p3,p4,he]
   ·simp [a0,a1,a2,p1,p2,p3,p4,he]
  ·simp [a0,a1,p1,p2,p3,p4,he]
 ·simp [a0]
open RowB
theorem doKind_o {R:Rdr} {f:Bs} (h:(∃ x ∈ R.file.specials,x≠0)∨[65,70] ∈ R.heads∨R.file.classes≠[]):doKind R f=.error (R.line,113):=by unfold doKind;rw [if_pos h]
theorem doKind_k {R:Rdr} {f:Bs} (h:¬ ((∃ x ∈ R.file.specials,x≠0)∨[65,70] ∈ R.heads∨R.file.classes≠[])):doKind R f=if f=[115,104,111,114,116] then .ok { R with file:={ R.file with kind:=1 } } else if f=[108,111,110,103] then .ok { R with file:={ R.file with kind:=2 } } else if f=[110,117,109] then .ok { R with file:={ R.file with kind:=3 } } else .error (R.line,114):=by unfold doKind;rw [if_neg h]
theorem readKind_any {B rb:Nat} {R:Rdr} {P:Pts} {w:World} (h:RAt B w rb R P) (k:Value) (hd:List Bs) (hv:Value) (hrow:StrRow B w hv (hd.map Fld.str)) (hlen:hd.length=2) :
  Calls Tryz.prog 82 #[ptr rb,hv,k] w (Res B rb P w (doKind R (fld hd 1))):=by
 obtain ⟨d0,-,hl,-,-,-,-⟩:=h.cells
 have hb:=h.lt
 have hfb:=h.file.lt
 obtain ⟨g,cap,rfl,hg,h1,h2,-,hcl⟩:=str_cells hrow
 unfold maxLen at h2
 have q1:=hcl 1 _ (fld_get (by omega))
 obtain ⟨s0,s1,s2,s3,s4,hsp⟩:=five h.file.ok.spec
 obtain ⟨k3,k4,k5,k6,k7,k0,k11,kz⟩:w.cell? ⟨P.fb,3,none⟩=some (.int .u16 s0)∧w.cell? ⟨P.fb,4,none⟩=some (.int .u16 s1)∧w.cell? ⟨P.fb,5,none⟩=some (.int .u16 s2)∧w.cell? ⟨P.fb,6,none⟩=some (.int .u16 s3)∧w.cell? ⟨P.fb,7,none⟩=some (.int .u16 s4)∧w.cell? ⟨P.fb,0,none⟩=some (.int .i64 R.file.kind)∧w.cell? ⟨P.fb,11,none⟩=some P.vc∧∀ j,w.frozen? ⟨P.fb,j,none⟩=false:=by
  have:=h.file.fil
  refine ⟨?_,?_,?_,?_,?_,?_,?_,fun j => ?_⟩ <;> simp [World.cell?,World.frozen?,this,filC,hsp]
 obtain ⟨ac,cc,ec,-,-⟩:=own_len h.file.clss
 rw [ec] at k11
 have HST:=hide (stood_any h (⟨#[65,70]⟩:ByteArray) (by decide))
 have HKT:Hid (∀ w,Kt B P.pm P.hm w w):=fun w => Kt.refl _ _ _ _
 have HVO:=hide (leaveIf_no rb R.line 113 w (by decide) (by decide) hl)
 have HVV:=hide (leave_no rb R.line 114 w (by decide) (by decide) hl)
 have h5:=eq5 s0 s1 s2 s3 s4
 have e1:(Fld.str (fld hd 1)).toList=fld hd 1:=by rw [Lib.toList_data];simp [Fld.str]
 rw [hlen] at h1 ⊢
 clear hcl hrow hlen ec hl
 have hz:(∃ x ∈ R.file.specials,x≠0)↔¬ (s0=0∧s1=0∧s2=0∧s3=0∧s4=0):=by
  rw [hsp]
  simp only [List.mem_cons,List.not_mem_nil,or_false]
  constructor
  ·rintro ⟨x,hx,hn⟩ ⟨a,b,c,d,e⟩
   rcases hx with rfl | rfl | rfl | rfl | rfl
   ·exact hn a
   ·exact hn b
   ·exact hn c
   ·exact hn d
   ·exact hn e
  ·intro hn
   by_cases a:s0=0
   ·by_cases b:s1=0
    ·by_cases c:s2=0
     ·by_cases d:s3=0
      ·exact ⟨s4,by simp,fun e => hn ⟨a,b,c,d,e⟩⟩
      ·exact ⟨s3,by simp,d⟩
     ·exact ⟨s2,by simp,c⟩
    ·exact ⟨s1,by simp,b⟩
   ·exact ⟨s0,by simp,a⟩
 by_cases hall:s0=0∧s1=0∧s2=0∧s3=0∧s4=0
 ·simp only [decide_eq_true hall] at h5
  by_cases hst:[65,70] ∈ R.heads
  ·have HX:=hide (doKind_o (f:=fld hd 1) (.inr (.inl hst)))
   rw [decide_eq_true hst] at HST
   clear hz hall hst h e1 hsp
   generalize Fld.str (fld hd 1)=r1 at *
   go_enter Tryz.func82,Tryz.ntmps82
   go_wp2_with (first | (go_at_call 92;refine (unhide HST).mono ?_;rintro e w2 ⟨rfl,rfl⟩) | (go_at_call 91;refine (unhide HVO).mono ?_;rintro e w3 ⟨rfl,rfl⟩))
   exact ⟨rfl,Res.no (unhide HX) (unhide HKT _)⟩
  ·rw [decide_eq_false hst] at HST
   by_cases hc:R.file.classes=[]
   ·have HKK:=doKind_k (R:=R) (f:=fld hd 1) (by rw [hz];simp [hall,hst,hc])
    have hc0:R.file.classes.length=0:=by rw [hc];rfl
    rw [hc0] at k11
    have HL:=hide (fun W => leaveIf_ok (ptr rb) 113 W)
    have ok:=h.file.ok
    clear hz hall hst hc hc0 hsp
    by_cases t0:fld hd 1=[115,104,111,114,116]
    ·rw [if_pos t0] at HKK
     have b0:((Fld.str (fld hd 1)).toList == [115,104,111,114,116])=true:=by rw [e1];simpa using t0
     have HX:=hide HKK
     have HF:=hide (h.fset (Below.refl _ w) (F':={ R.file with kind:=1 }) 0 (.int .i64 1) rfl rfl rfl rfl rfl ⟨.inl rfl,ok.spec,ok.specB,ok.cls,ok.reps,ok.ali,ok.aliS,ok.rul,ok.len⟩)
     clear HKK t0 e1 h ok
     generalize Fld.str (fld hd 1)=r1 at *
     go_enter Tryz.func82,Tryz.ntmps82
     go_wp2_with (first | (go_at_call 92;refine (unhide HST).mono ?_;rintro e w2 ⟨rfl,rfl⟩) | (go_at_call 91;with_reducible (show Calls _ _ #[_,.bool false,_] _ _);refine (unhide HL _).mono ?_;rintro e w3 ⟨rfl,rfl⟩))
     first | go_end0 | refine bodyPost_ret (results_none rfl _ _ _) rfl ?_
     exact Res.yes (unhide HX) (unhide HF).2 (unhide HF).1 rfl rfl rfl
    ·by_cases t1:fld hd 1=[108,111,110,103]
     ·rw [if_neg t0,if_pos t1] at HKK
      have b0:((Fld.str (fld hd 1)).toList == [115,104,111,114,116])=false:=by rw [e1];simpa using t0
      have b1:((Fld.str (fld hd 1)).toList == [108,111,110,103])=true:=by rw [e1];simpa using t1
      have HX:=hide HKK
      have HF:=hide (h.fset (Below.refl _ w) (F':={ R.file with kind:=2 }) 0 (.int .i64 2) rfl rfl rfl rfl rfl ⟨.inr (.inl rfl),ok.spec,ok.specB,ok.cls,ok.reps,ok.ali,ok.aliS,ok.rul,ok.len⟩)
      clear HKK t0 t1 e1 h ok
      generalize Fld.str (fld hd 1)=r1 at *
      go_enter Tryz.func82,Tryz.ntmps82
      go_wp2_with (first | (go_at_call 92;refine (unhide HST).mono ?_;rintro e w2 ⟨rfl,rfl⟩) | (go_at_call 91;with_reducible (show Calls _ _ #[_,.bool false,_] _ _);refine (unhide HL _).mono ?_;rintro e w3 ⟨rfl,rfl⟩))
      first | go_end0 | refine bodyPost_ret (results_none rfl _ _ _) rfl ?_
      exact Res.yes (unhide HX) (unhide HF).2 (unhide HF).1 rfl rfl rfl
     ·by_cases t2:fld hd 1=[110,117,109]
      ·rw [if_neg t0,if_neg t1,if_pos t2] at HKK
       have b0:((Fld.str (fld hd 1)).toList == [115,104,111,114,116])=false:=by rw [e1];simpa using t0
       have b1:((Fld.str (fld hd 1)).toList == [108,111,110,103])=false:=by rw [e1];simpa using t1
       have b2:((Fld.str (fld hd 1)).toList == [110,117,109])=true:=by rw [e1];simpa using t2
       have HX:=hide HKK
       have HF:=hide (h.fset (Below.refl _ w) (F':={ R.file with kind:=3 }) 0 (.int .i64 3) rfl rfl rfl rfl rfl ⟨.inr (.inr rfl),ok.spec,ok.specB,ok.cls,ok.reps,ok.ali,ok.aliS,ok.rul,ok.len⟩)
       clear HKK t0 t1 t2 e1 h ok
       generalize Fld.str (fld hd 1)=r1 at *
       go_enter Tryz.func82,Tryz.ntmps82
       go_wp2_with (first | (go_at_call 92;refine (unhide HST).mono ?_;rintro e w2 ⟨rfl,rfl⟩) | (go_at_call 91;with_reducible (show Calls _ _ #[_,.bool false,_] _ _);refine (unhide HL _).mono ?_;rintro e w3 ⟨rfl,rfl⟩))
       first | go_end0 | refine bodyPost_ret (results_none rfl _ _ _) rfl ?_
       exact Res.yes (unhide HX) (unhide HF).2 (unhide HF).1 rfl rfl rfl
      ·rw [if_neg t0,if_neg t1,if_neg t2] at HKK
       have b0:((Fld.str (fld hd 1)).toList == [115,104,111,114,116])=false:=by rw [e1];simpa using t0
       have b1:((Fld.str (fld hd 1)).toList == [108,111,110,103])=false:=by rw [e1];simpa using t1
       have b2:((Fld.str (fld hd 1)).toList == [110,117,109])=false:=by rw [e1];simpa using t2
       have HX:=hide HKK
       clear HKK t0 t1 t2 e1 h ok
       generalize Fld.str (fld hd 1)=r1 at *
       go_enter Tryz.func82,Tryz.ntmps82
       go_wp2_with (first | (go_at_call 92;refine (unhide HST).mono ?_;rintro e w2 ⟨rfl,rfl⟩) | (go_at_call 91;with_reducible (show Calls _ _ #[_,.bool false,_] _ _);refine (unhide HL _).mono ?_;rintro e w3 ⟨rfl,rfl⟩) | (go_at_call 80;refine (unhide HVV).mono ?_;rintro e w4 ⟨rfl,rfl⟩))
       exact ⟨rfl,Res.no (unhide HX) (unhide HKT _)⟩
   ·have HX:=hide (doKind_o (f:=fld hd 1) (.inr (.inr hc)))
    have hcp:0 < R.file.classes.length:=List.length_pos_iff.2 hc
    have hci:(0:Int) < (R.file.classes.length:Int):=by omega
    clear hz hall hst h e1 hsp hc
    generalize Fld.str (fld hd 1)=r1 at *
    go_enter Tryz.func82,Tryz.ntmps82
    go_wp2_with (first | (go_at_call 92;refine (unhide HST).mono ?_;rintro e w2 ⟨rfl,rfl⟩) | (go_at_call 91;with_reducible (show Calls _ _ #[_,.bool true,_] _ _);refine (unhide HVO).mono ?_;rintro e w3 ⟨rfl,rfl⟩))
    exact ⟨rfl,Res.no (unhide HX) (unhide HKT _)⟩
 ·have HX:=hide (doKind_o (f:=fld hd 1) (.inl (hz.2 hall)))
  simp only [decide_eq_false hall] at h5
  clear hz hall h e1 hsp
  generalize Fld.str (fld hd 1)=r1 at *
  go_enter Tryz.func82,Tryz.ntmps82
  go_wp2_with (go_at_call 91;refine (unhide HVO).mono ?_;rintro e w3 ⟨rfl,rfl⟩)
  exact ⟨rfl,Res.no (unhide HX) (unhide HKT _)⟩
theorem goesOn_none {F:Fil} {x s:Int} (h:findC F.classes x=none) (hs:F.specials[0]?=some s):goesOn F x=decide (x=s):=by
 unfold goesOn
 rw [h,hs]
 by_cases e:x=s <;> simp [e]
theorem goesOn_suf {F:Fil} {x:Int} {i:Nat} {c:Cls} (h:findC F.classes x=some i) (hc:F.classes[i]?=some c) (hk:c.kind=2):goesOn F x=true:=by
 unfold goesOn
 rw [h]
 simp [hc,hk]
theorem goesOn_pre {F:Fil} {x s:Int} {i:Nat} {c:Cls} (h:findC F.classes x=some i) (hc:F.classes[i]?=some c) (hk:c.kind≠2) (hs:F.specials[0]?=some s):goesOn F x=decide (x=s):=by
 unfold goesOn
 rw [h,hs]
 by_cases e:x=s <;> simp [hc,hk,e]
theorem cannot_any {B rb:Nat} {R:Rdr} {P:Pts} {w:World} (h:RAt B w rb R P) (x:Int) (h0:0≤x) (h1:x≤65535) :
  Calls Tryz.prog 94 #[ptr rb,.int .u16 x] w fun e w' => e=.returned (.bool (!goesOn R.file x))∧Below w.heap.size w w':=by
 obtain ⟨d0,-,-,-,-,-,-⟩:=h.cells
 have hb:=h.lt
 obtain ⟨s0,s1,s2,s3,s4,hsp⟩:=five h.file.ok.spec
 have hs0:R.file.specials[0]?=some s0:=by rw [hsp];rfl
 have HC:Hid (∀ w0,Below w.heap.size w w0→w0.cell? ⟨rb,0,none⟩=some (.pointer (some ⟨P.fb,0,none⟩))∧w0.cell? ⟨P.fb,3,none⟩=some (.int .u16 s0)∧rb < w0.heap.size∧P.fb < w0.heap.size):=fun w0 b => by
  have hh:=h.below b
  have:=hh.file.fil
  exact ⟨hh.cells.1,by simp [World.cell?,this,filC,hsp],hh.lt,hh.file.lt⟩
 cases hf:findC R.file.classes x with
 | none =>
  rw [goesOn_none hf hs0]
  have HCL:=hide (class_none h.file x h0 h1 hf)
  unfold noC at HCL
  clear h hf hsp hs0
  go_enter Tryz.func94,Tryz.ntmps94
  go_wp2_with (go_at_call 15;refine (unhide HCL).mono ?_;rintro e w2 ⟨rfl,b2⟩;obtain ⟨f1,f2,f3,f4⟩:=unhide HC _ b2;have HB2:=hide b2;have hsz:=b2.size;clear b2)
  go_ret
  refine ⟨?_,(unhide HB2).alloc hsz _⟩
  by_cases e:x=s0 <;> simp [e]
 | some i =>
  obtain ⟨c,hc,-⟩:=findC_get hf
  have HCL:=hide (class_some h.file x h0 h1 hf hc)
  unfold clsV at HCL
  by_cases hk:c.kind=2
  ·rw [goesOn_suf hf hc hk]
   have hkb:(c.kind == 2)=true:=by simpa using hk
   clear h hf hsp hs0 hc hk
   go_enter Tryz.func94,Tryz.ntmps94
   go_wp2_with (go_at_call 15;refine (unhide HCL).mono ?_;rintro e w2 ⟨rfl,b2⟩;obtain ⟨f1,f2,f3,f4⟩:=unhide HC _ b2;have HB2:=hide b2;have hsz:=b2.size;clear b2)
   go_ret
   exact ⟨rfl,(unhide HB2).alloc hsz _⟩
  ·rw [goesOn_pre hf hc hk hs0]
   have hkb:(c.kind == 2)=false:=by simpa using hk
   clear h hf hsp hs0 hc hk
   go_enter Tryz.func94,Tryz.ntmps94
   go_wp2_with (go_at_call 15;refine (unhide HCL).mono ?_;rintro e w2 ⟨rfl,b2⟩;obtain ⟨f1,f2,f3,f4⟩:=unhide HC _ b2;have HB2:=hide b2;have hsz:=b2.size;clear b2)
   go_ret
   refine ⟨?_,(unhide HB2).alloc hsz _⟩
   by_cases e:x=s0 <;> simp [e]
theorem indexFunc_any {B rb:Nat} {R:Rdr} {P:Pts} {w:World} (h:RAt B w rb R P) (v:Value) (l:List Int) (hA:So.FArg w v l) (hbd:∀ x ∈ l,0≤x∧x≤65535) :
  Calls Tryz.prog 119 #[v,.func (.func 94) #[ptr rb] #[]] w fun e w' => (∃ q:Int,e=.returned (.int .i64 q)∧(decide (0≤q))=!(l.all (goesOn R.file)))∧Below w.heap.size w w':=by
 have HA:=hide hA
 obtain ⟨ao,cap,rfl,hl1,hl2,-,hat⟩:=hA
 unfold maxLen at hl2
 rcases Nat.eq_zero_or_pos l.length with hz | hpos
 ·have hl0:l=[]:=List.length_eq_zero_iff.1 hz
  rw [hz]
  subst hl0
  clear hbd HA hat hl1
  have hltz:¬ (0:Int) < 0:=by omega
  go_enter Tryz.func119,Tryz.ntmps119
  go_wp2
  go_loopw [8] (fun s8 wr => s8=.int .i64 0∧wr=w) (fun _ _ => 0)
  case atStart => exact ⟨rfl,rfl⟩
  case round =>
   obtain ⟨rfl,rfl⟩:=hrel
   go_wp2
   go_ret
   exact ⟨⟨_,rfl,by simp⟩,Below.refl _ _⟩
 obtain ⟨g,off,rfl,hg0,-⟩:=hat hpos
 obtain ⟨n,hn⟩:∃ n,l.length=n:=⟨_,rfl⟩
 have HN:=hide hn
 have HBD:=hide hbd
 have HG:=hide (fun W (b:Below w.heap.size w W) x h0 h1 => cannot_any (h.below b) x h0 h1)
 rw [hn] at hl1 ⊢
 clear hn hbd h
 go_enter Tryz.func119,Tryz.ntmps119
 go_wp2
 go_loopw [8] (fun s8 wr => ∃ j:Nat,s8=.int .i64 j∧j≤n∧Hid (Below w.heap.size w wr∧(l.take j).all (goesOn R.file)=true)) (fun s8 _ => n - (intOf s8).toNat)
 case atStart => exact ⟨0,rfl,Nat.zero_le _,⟨Below.refl _ _,by simp⟩⟩
 case round =>
  obtain ⟨j,rfl,hj,HR⟩:=hrel
  by_cases hlt:j < n
  ·have hltz:(j:Int) < (n:Int):=by omega
   have hj0:0≤(j:Int):=by omega
   obtain ⟨y,hy⟩:∃ y,l[j]?=some y:=⟨_,List.getElem?_eq_getElem (by rw [unhide HN];exact hlt)⟩
   obtain ⟨ao',cap',e1,-,-,-,hc⟩:=(unhide HA).below (unhide HR).1
   obtain ⟨g',off',e2,hg,hcc⟩:=hc (by rw [unhide HN];omega)
   have hcy:wr.cell? ⟨g,off + j,none⟩=some (So.encF y):=by
    have:=hcc j y hy
    rw [e2] at e1
    injection e1 with e1 _ _
    injection e1 with e1
    injection e1 with e3 e4 _
    rw [← e3,← e4] at this
    exact this
   clear e1 e2 hg
   obtain ⟨y0,y1⟩:=unhide HBD y (List.mem_of_getElem? hy)
   have HC:=hide (unhide HG _ (unhide HR).1 y y0 y1)
   have HT:Hid ((l.take (j + 1)).all (goesOn R.file)=((l.take j).all (goesOn R.file) && goesOn R.file y)):=by
    rw [Hid,List.take_succ_eq_append_getElem (by rw [unhide HN];exact hlt),(List.getElem?_eq_some_iff.1 hy).2,List.all_append]
    simp
   unfold So.encF at hcy
   have HY:=hide hy
   clear hc hcc hy y0 y1
   cases hgo:goesOn R.file y with
   | true =>
    rw [hgo] at HC HT
    clear hgo
    go_wp2_with (go_at_call 94;refine (unhide HC).mono ?_;rintro e w2 ⟨rfl,b2⟩;have HB2:=hide (btr (unhide HR).1 b2);clear b2)
    go_roundw
    case rel => exact ⟨j + 1,by go_num,by omega,⟨unhide HB2,by rw [unhide HT,(unhide HR).2];rfl⟩⟩
    case measure => simp [intOf];omega
   | false =>
    rw [hgo] at HC
    have HAL:Hid (l.all (goesOn R.file)=false):=by
     rw [Hid,List.all_eq_false]
     exact ⟨y,List.mem_of_getElem? (unhide HY),by rw [hgo];decide⟩
    clear hgo
    go_wp2_with (go_at_call 94;refine (unhide HC).mono ?_;rintro e w2 ⟨rfl,b2⟩;have HB2:=hide (btr (unhide HR).1 b2);clear b2)
    go_ret
    exact ⟨⟨_,rfl,by rw [unhide HAL];simp⟩,unhide HB2⟩
  ·obtain rfl:j=n:=by omega
   have hltz:¬ (j:Int) < (j:Int):=by omega
   have HAL:Hid (l.all (goesOn R.file)=true):=by
    have:=(unhide HR).2
    rwa [List.take_of_length_le (Nat.le_of_eq (unhide HN))] at this
   go_wp2
   go_ret
   exact ⟨⟨_,rfl,by rw [unhide HAL];decide⟩,(unhide HR).1⟩
theorem containsFunc_any {B rb:Nat} {R:Rdr} {P:Pts} {w:World} (h:RAt B w rb R P) (v:Value) (l:List Int) (hA:So.FArg w v l) (hbd:∀ x ∈ l,0≤x∧x≤65535) :
  Calls Tryz.prog 93 #[v,.func (.func 94) #[ptr rb] #[]] w fun e w' => e=.returned (.bool (!(l.all (goesOn R.file))))∧Below w.heap.size w w':=by
 have HI:=hide (indexFunc_any h v l hA hbd)
 clear h hA hbd
 generalize (!(l.all (goesOn R.file)))=b at *
 go_enter Tryz.func93,Tryz.ntmps93
 go_wp2_with (go_at_call 119;refine (unhide HI).mono ?_;rintro e w2 ⟨⟨q,rfl,hq⟩,b2⟩;have HQ:=hide hq;have HB:=hide b2;clear hq b2)
 go_ret
 exact ⟨by rw [← unhide HQ];first | rfl | (simp;done) | (congr),unhide HB⟩
end Af
end Go.Proofs.YtmhegbeemgagkaaGreatDoor
