import Derived.Test.YtmhegbeemgagkaaGreatDoorGn20
set_option maxHeartbeats 8000000
set_option maxRecDepth 100000
namespace Go.Proofs.YtmhegbeemgagkaaGreatDoor
open Go.RowKit
namespace Af
open RowB
def nilP (fb pm hm:Nat):Pts:=⟨fb,pm,hm,.slice none 0 0,.slice none 0 0,.slice none 0 0,.slice none 0 0,.slice none 0 0,.slice none 0 0,[],[]⟩
def Fil0:Fil:=⟨1,[],[],[0,0,0,0,0],3,[],[],[],[]⟩
def Rdr0:Rdr:=⟨Fil0,[],0,0,[]⟩
theorem ok0:FilOk Fil0:=⟨.inl rfl,rfl,by decide,by simp [Fil0],by simp [Fil0],by simp [Fil0],by simp [Fil0],by simp [Fil0],by simp [Fil0]⟩
def filA (pm:Nat):Array Value:=#[.int .i64 1,.string ⟨#[]⟩,.string ⟨#[]⟩,.int .u16 0,.int .u16 0,.int .u16 0,.int .u16 0,.int .u16 0,.int .i64 3,.slice none 0 0,.slice none 0 0,.slice none 0 0,.slice none 0 0,.map (some pm)]
def rdrA (fb hm:Nat):Array Value:=#[.pointer (some ⟨fb,0,none⟩),.slice none 0 0,.int .i64 0,.int .i64 0,.map (some hm),.slice none 0 0]
theorem new_at (w:World):RAt w.heap.size ((((w.alloc (.map #[] 0)).alloc (.cells (filA w.heap.size) 111)).alloc (.map #[] 0)).alloc (.cells (rdrA (w.heap.size + 1) (w.heap.size + 2)) 84)) (w.heap.size + 3) Rdr0 (nilP (w.heap.size + 1) w.heap.size (w.heap.size + 2)):=by
 have n0:=alloc_new w (.map #[] 0)
 have n1:=alloc_new (w.alloc (.map #[] 0)) (.cells (filA w.heap.size) 111)
 have n2:=alloc_new ((w.alloc (.map #[] 0)).alloc (.cells (filA w.heap.size) 111)) (.map #[] 0)
 have n3:=alloc_new (((w.alloc (.map #[] 0)).alloc (.cells (filA w.heap.size) 111)).alloc (.map #[] 0)) (.cells (rdrA (w.heap.size + 1) (w.heap.size + 2)) 84)
 simp only [World.size_alloc] at n1 n2 n3
 have m0:=MapF.made w 34
 have m2:=MapF.made ((w.alloc (.map #[] 0)).alloc (.cells (filA w.heap.size) 111)) 9
 simp only [World.size_alloc] at m2
 have e1:=alloc_heap1 (alloc_heap1 n1 (.map #[] 0)) (.cells (rdrA (w.heap.size + 1) (w.heap.size + 2)) 84)
 have hf:FAt w.heap.size ((((w.alloc (.map #[] 0)).alloc (.cells (filA w.heap.size) 111)).alloc (.map #[] 0)).alloc (.cells (rdrA (w.heap.size + 1) (w.heap.size + 2)) 84)) Fil0 (nilP (w.heap.size + 1) w.heap.size (w.heap.size + 2)):=by
  refine ⟨by simp [nilP],by simp [nilP],e1,⟨0,Nat.zero_le _,?_⟩,World.ownsRow_nil _ _ _ _,World.ownsRow_nil _ _ _ _,⟨rfl,fun i v a h => by simp [nilP] at h⟩,World.ownsRow_nil _ _ _ _,World.ownsRow_nil _ _ _ _,⟨rfl,fun i v a h => by simp [nilP] at h⟩,ok0⟩
  have:=m0.kept (w':=(((w.alloc (.map #[] 0)).alloc (.cells (filA w.heap.size) 111)).alloc (.map #[] 0)).alloc (.cells (rdrA (w.heap.size + 1) (w.heap.size + 2)) 84)) ((alloc_heap1 (alloc_heap1 (alloc_heap1 n0 _) _) _).trans n0.symm)
  have e:(fun _:Lit => (none:Option Value))=plc Fil0.classes:=by
   funext y
   unfold plc
   split <;> rfl
  rw [e] at this
  exact this
 refine ⟨by simp,by simp [nilP],n3,⟨none,0,rfl,Nat.le_refl _,Nat.zero_le _,fun _ => rfl,fun h => absurd rfl h⟩,⟨0,Nat.zero_le _,?_⟩,by simp [nilP],World.ownsRow_nil _ _ _ _,hf,⟨by simp [Rdr0],by simp [Rdr0],by simp [Rdr0]⟩,fun p hp => by simp [Rdr0] at hp⟩
 have:=m2.kept (w':=(((w.alloc (.map #[] 0)).alloc (.cells (filA w.heap.size) 111)).alloc (.map #[] 0)).alloc (.cells (rdrA (w.heap.size + 1) (w.heap.size + 2)) 84)) ((alloc_heap1 n2 _).trans n2.symm)
 have e:(fun _:Lit => (none:Option Value))=cnt Rdr0.heads:=by
  funext y
  unfold cnt
  split
  ·simp [Rdr0]
  ·rfl
 rw [e] at this
 exact this
theorem newReader_any (w:World):Calls Tryz.prog 27 #[] w fun e w' => e=.returned (ptr (w.heap.size + 3))∧RAt w.heap.size w' (w.heap.size + 3) Rdr0 (nilP (w.heap.size + 1) w.heap.size (w.heap.size + 2))∧Below w.heap.size w w':=by
 have hmm:=@run_makeMap Tryz.prog
 go_enter Tryz.func27,Tryz.ntmps27
 go_wp2
 go_ret
 exact ⟨rfl,new_at w,((((Below.refl _ w).alloc (Nat.le_refl _) _).alloc (by simp) _).alloc (by simp;omega) _).alloc (by simp;omega) _⟩
theorem field_len (l:Bs):(∀ f ∈ (Fld.st l).1,f.length≤l.length)∧(Fld.st l).2.length≤l.length:=by
 refine Fld.snoc_ind (P:=fun l => (∀ f ∈ (Fld.st l).1,f.length≤l.length)∧(Fld.st l).2.length≤l.length) ?_ ?_ l
 ·simp [Fld.st_nil]
 ·rintro l c ⟨h1,h2⟩
  rw [Fld.st_snoc]
  unfold Fld.stp
  by_cases hb:Fld.blank c=true
  ·rw [if_pos hb]
   refine ⟨fun f hf => ?_,by simp⟩
   simp only at hf
   split at hf
   ·have:=h1 f hf;simp;omega
   ·rcases List.mem_append.1 hf with q | q
    ·have:=h1 f q;simp;omega
    ·simp at q;subst q;simp;omega
  ·rw [if_neg hb]
   exact ⟨fun f hf => by have:=h1 f hf;simp;omega,by simp;omega⟩
theorem fieldsOf_each (l:Bs):∀ f ∈ Fld.fieldsOf l,f.length≤l.length:=by
 intro f hf
 obtain ⟨h1,h2⟩:=field_len l
 unfold Fld.fieldsOf Fld.fin at hf
 split at hf
 ·exact h1 f hf
 ·rcases List.mem_append.1 hf with q | q
  ·exact h1 f q
  ·simp at q;subst q;exact h2
theorem rows_ok (l:Bs) (h:l.length≤65536):RowsOk (Rw.rowsOf l):=by
 intro p hp
 unfold Rw.rowsOf Rw.rowsP at hp
 obtain ⟨x,hx,hp⟩:=List.mem_flatMap.1 hp
 obtain ⟨j,hj⟩:=List.getElem?_of_mem hx
 obtain ⟨q1,li,q2,q3⟩:=Ln.num_get _ _ _ _ hj
 have hjl:=(List.getElem?_eq_some_iff.1 hj).1
 have hlen:=Ln.items_length l
 have hl2:=Ln.linesOf_len l
 unfold Rw.rowOf at hp
 split at hp
 ·cases hp
 ·rename_i hne
  simp only [List.mem_singleton] at hp
  subst hp
  refine ⟨by show x.1≤65536;omega,fun e => hne (by show (Rw.keep _).isEmpty=true;rw [show Rw.keep (Fld.fieldsOf x.2.data.toList)=[] from e];rfl),fun f hf => ?_⟩
  have hf2:f ∈ Fld.fieldsOf x.2.data.toList:=by
   have hf:f ∈ Rw.keep (Fld.fieldsOf x.2.data.toList):=hf
   rw [Rw.keep_take] at hf
   exact List.mem_of_mem_take hf
  have:=fieldsOf_each _ f hf2
  rw [q3] at this
  have e:(Fld.str li).data.toList=li:=by simp [Fld.str]
  rw [e] at this
  have:=Ln.linesOf_each l h li (List.mem_of_getElem? q2)
  omega
theorem rows_few (l:Bs):(Rw.rowsOf l).length≤l.length:=by
 have:=Rw.rowsP_len (Ln.items l)
 rw [Ln.items_length] at this
 exact Nat.le_trans this (Ln.linesOf_len l)
theorem fits_get {n:Nat} {W:World}:∀ {E:List (Nat × Value)} {R:List (Nat × List Bs)},Fits n W E R→∀ (j:Nat) r,R[j]?=some r→∃ e,E[j]?=some e∧e.1=r.1∧StrRow n W e.2 (r.2.map Fld.str)
 | [],[],_,j,r,h => by simp at h
 | [],_ :: _,h,_,_,_ => h.elim
 | _ :: _,[],h,_,_,_ => h.elim
 | e :: E,s :: R,h,0,r,hj => by
  simp only [List.getElem?_cons_zero,Option.some.injEq] at hj
  subst hj
  exact ⟨e,rfl,h.1.1,h.1.2⟩
 | e :: E,s :: R,h,j + 1,r,hj => by
  rw [List.getElem?_cons_succ] at hj
  obtain ⟨e',h1,h2⟩:=fits_get h.2 j r hj
  exact ⟨e',by rw [List.getElem?_cons_succ];exact h1,h2⟩
theorem rowsAt_of {B n:Nat} {W:World} {v:Value} {R:List (Nat × List Bs)} (h:RowsAre n 184 W v R) (hB:B≤n) (hne:∀ p ∈ R,p.2≠[]):RowsAt B W v R:=by
 obtain ⟨E,hf,ho,-,-⟩:=h
 have hl:=hf.length
 obtain ⟨hx,⟨e1,e2⟩ | ⟨g,cap,cur,e1,h1,hg,h2,h3,h4,h5⟩⟩:=id ho
 ·have:R=[]:=by cases R with | nil => rfl | cons _ _ => simp at hl;omega
  subst this
  exact ⟨none,0,e1,Nat.le_refl _,Nat.zero_le _,fun _ => rfl,fun h => absurd rfl h⟩
 ·refine ⟨some ⟨g,0,none⟩,cap,by rw [e1,hl],by omega,h3,(fun e => by cases e),fun _ => ⟨g,0,cur,rfl,by omega,hg,fun j l fs hj => ?_⟩⟩
  obtain ⟨e,a1,a2,a3⟩:=fits_get hf j _ hj
  obtain ⟨b1,b2⟩:=cellsE_get E j e a1
  have hjl:=(List.getElem?_eq_some_iff.1 a1).1
  have key:∀ i,i < E.length * 2→cur[i]?=(cellsE E)[i]?:=fun i hi => by
   rw [← h5,List.getElem?_take_of_lt hi]
   simp
  refine ⟨e.2,?_,?_,a3.mono hB,hne _ (List.mem_of_getElem? hj)⟩
  ·rw [Nat.zero_add,key _ (by omega),b1,a2]
  ·rw [Nat.zero_add,key _ (by omega),b2]
theorem rows_slice {n:Nat} {t:TypeId} {W:World} {v:Value} {R:List (Nat × List Bs)} (h:RowsAre n t W v R):∃ a c m,v=.slice a m c:=by
 obtain ⟨E,hf,ho,-,-⟩:=h
 obtain ⟨a,c,e,-,-⟩:=own_len ho
 exact ⟨a,c,_,e⟩
def cutR (R:Rdr) (l:Bs):Rdr:={ R with rows:=Rw.rowsOf l,behind:=(Ln.linesOf l).length + 1 }
theorem RAt.cut {B rb:Nat} {R:Rdr} {P:Pts} {w w1:World} {v:Value} (h:RAt B w rb R P) (k:Below w.heap.size w w1) (l:Bs) (hl:l.length≤65536) (hr:RowsAre w.heap.size 184 w1 v (Rw.rowsOf l)) :
  RAt B ((w1.setCell ⟨rb,1,none⟩ v).setCell ⟨rb,3,none⟩ (.int .i64 (((Ln.linesOf l).length + 1:Nat)))) rb (cutR R l) { P with rv:=v }∧Kt B P.pm P.hm w ((w1.setCell ⟨rb,1,none⟩ v).setCell ⟨rb,3,none⟩ (.int .i64 (((Ln.linesOf l).length + 1:Nat)))):=by
 have h1:=h.below k
 have kp:Kp rb w1 ((w1.setCell ⟨rb,1,none⟩ v).setCell ⟨rb,3,none⟩ (.int .i64 (((Ln.linesOf l).length + 1:Nat)))):=kp_trans (kp_set w1 rb 1 _) (kp_set _ rb 3 _)
 have hlen:=Ln.linesOf_len l
 refine ⟨h1.turn kp (set_heap1 (set_heap1 h1.rdr _) _) ?_ (own_kept h1.lns (kp.kept h1.rdr (ne_cells (by decide)))) rfl rfl rfl ⟨by show (Ln.linesOf l).length + 1≤65537;omega,h.few.2.2⟩ (rows_ok l hl),?_⟩
 ·exact rows_kept (rowsAt_of hr h.base (fun p hp => (rows_ok l hl p hp).2.1)) (kp.kept h1.rdr (ne_cells (by decide))) (kp.kept h1.rdr (ne_cells (by decide)))
 ·exact (Kt.of_below k h.base).trans (Kt.of_kp kp (((Below.refl B w1).setCell (p:=⟨rb,1,none⟩) h.rbB _).setCell (p:=⟨rb,3,none⟩) h.rbB _) h1.rdr (by decide))
theorem cut_any {B rb:Nat} {R:Rdr} {P:Pts} {w:World} (h:RAt B w rb R P) (hM:Mx B w) (s:ByteArray) :
  Calls Tryz.prog 53 #[ptr rb,.string s] w (Res B rb P w (if 65536 < s.data.toList.length then .error (R.line,10) else .ok (cutR R s.data.toList))):=by
 obtain ⟨d0,d1,hl,d3,-,-,dz⟩:=h.cells
 have hb:=h.lt
 have hz:s.data.toList.length=s.size:=by simp
 by_cases hq:65536 < s.size
 ·have HS:=hide (fun W => SplW.split_long s W (by omega))
  have HV:=hide (leave_no rb R.line 10 w (by decide) (by decide) hl)
  rw [if_pos (by omega)]
  have HB:=hide h.base
  clear h hM d0 d1 hl d3 hz hq
  go_enter Tryz.func53,Tryz.ntmps53
  go_wp2_with (first | (go_at_call 79;refine (unhide HS _).mono ?_;rintro e w2 ⟨rfl,rfl⟩) | (go_at_call 80;refine (unhide HV).mono ?_;rintro e w3 ⟨rfl,rfl⟩))
  exact ⟨rfl,Res.no rfl (Kt.refl _ _ _ _)⟩
 ·rw [if_neg (by omega)]
  have HS:=hide (SplW.split_short s w (by omega) hM.ea)
  have HRW:=hide (fun W (b:Below w.heap.size w W) => RowW.rows_short s W (by omega) (hM.low (b.mono h.base)).ea)
  have HL:=hide (fun W => leave_ok (ptr rb) W)
  have HC:Hid (∀ w0,Below w.heap.size w w0→w0.cell? ⟨rb,1,none⟩=some P.rv∧w0.cell? ⟨rb,3,none⟩=some (.int .i64 (R.behind:Nat))∧rb < w0.heap.size∧∀ j,w0.frozen? ⟨rb,j,none⟩=false):=fun w0 b => by
   have h0:=h.below b
   exact ⟨h0.cells.2.1,h0.cells.2.2.2.1,h0.lt,h0.cells.2.2.2.2.2.2⟩
  have HK:=hide (fun w0 w1 (b:Below w.heap.size w w0) (c:Below w0.heap.size w0 w1) v hr => (h.below b).cut c s.data.toList (by omega) (v:=v) hr)
  have HB:=hide h.base
  have hsm:=Ln.linesOf_len s.data.toList
  obtain ⟨N,hN⟩:∃ N,(Ln.linesOf s.data.toList).length=N:=⟨_,rfl⟩
  have HNN:=hide hN
  rw [hN] at hsm HS HK
  have hsm2:N≤65536:=by omega
  clear h hM d0 d1 hl d3 hz hq dz hN hsm
  go_enter Tryz.func53,Tryz.ntmps53
  go_wp2_with (first | (go_at_call 79;refine (unhide HS).mono ?_;rintro e w2 ⟨v,rfl,o2,b2⟩;obtain ⟨av,cv,rfl,-,-⟩:=own_len o2;have HB2:=hide b2;clear o2 b2) | (go_at_call 80;refine (unhide HL _).mono ?_;rintro e w3 ⟨rfl,rfl⟩) | (go_at_call 81;refine (unhide HRW _ (unhide HB2)).mono ?_;rintro e w4 ⟨v4,rfl,o4,b4⟩;obtain ⟨av4,cv4,n4,rfl⟩:=rows_slice o4;obtain ⟨f1,f2,f3,f4⟩:=unhide HC _ (btr (unhide HB2) b4);have HB4:=hide b4;have HO4:=hide o4;clear o4 b4))
  go_end0
  obtain ⟨hr,kt⟩:=unhide HK _ _ (unhide HB2) (unhide HB4) _ (unhide HO4)
  rw [show ((N + 1:Nat):Int)=(N:Int) + 1 by omega] at hr kt
  exact Res.yes rfl ((Kt.of_below (unhide HB2) (unhide HB)).trans kt) hr rfl rfl rfl
def kwV (n:Int) (a:Bool) (f:FuncId) (i:Int):Value:=.agg #[.int .i64 n,.bool a,.func (.func f) #[] #[],.int .i64 i]
def kwF (L:List (Bs × Value)):Lit→Option Value
 | .string s => (L.find? fun p => p.1 == s).map (·.2)
 | _ => none
theorem kwF_snoc (L:List (Bs × Value)) (k:Bs) (v:Value) (h:(L.any fun p => p.1 == k)=false):kwF (L ++ [(k,v)]) (.string k)=some v∧∀ y,y≠.string k→kwF (L ++ [(k,v)]) y=kwF L y:=by
 refine ⟨?_,fun y hy => ?_⟩
 ·show ((L ++ [(k,v)]).find? fun p => p.1 == k).map (·.2)=some v
  rw [List.find?_append]
  have:L.find? (fun p => p.1 == k)=none:=by
   rw [List.find?_eq_none]
   intro p hp
   have:=List.any_eq_false.1 h p hp
   simpa using this
  simp [this]
 ·cases y with
  | string s =>
   have hne:(k == s)=false:=by
    rw [beq_eq_false_iff_ne]
    rintro rfl
    exact hy rfl
   show ((L ++ [(k,v)]).find? fun p => p.1 == s).map (·.2)=(L.find? fun p => p.1 == s).map (·.2)
   rw [List.find?_append]
   cases hq:L.find? (fun p => p.1 == s) with
   | none => simp [hne]
   | some q => simp
  | _ => rfl
def kwL0:List (Bs × Value):=[]
def kwL1:List (Bs × Value):=kwL0 ++ [([70,76,65,71],kwV 2 false 82 0)]
def kwL2:List (Bs × Value):=kwL1 ++ [([83,69,84],kwV 2 false 83 0)]
def kwL3:List (Bs × Value):=kwL2 ++ [([84,82,89],kwV 2 false 84 0)]
def kwL4:List (Bs × Value):=kwL3 ++ [([78,69,69,68,65,70,70,73,88],kwV 2 false 85 0)]
def kwL5:List (Bs × Value):=kwL4 ++ [([70,79,82,66,73,68,68,69,78,87,79,82,68],kwV 2 false 85 1)]
def kwL6:List (Bs × Value):=kwL5 ++ [([75,69,69,80,67,65,83,69],kwV 2 false 85 2)]
def kwL7:List (Bs × Value):=kwL6 ++ [([67,79,77,80,79,85,78,68,70,76,65,71],kwV 2 false 85 3)]
def kwL8:List (Bs × Value):=kwL7 ++ [([78,79,83,85,71,71,69,83,84],kwV 2 false 85 4)]
def kwL9:List (Bs × Value):=kwL8 ++ [([67,79,77,80,79,85,78,68,77,73,78],kwV 2 false 86 0)]
def kwL10:List (Bs × Value):=kwL9 ++ [([82,69,80],kwV 2 false 87 0)]
def kwL11:List (Bs × Value):=kwL10 ++ [([65,70],kwV 2 false 88 0)]
def kwL12:List (Bs × Value):=kwL11 ++ [([80,70,88],kwV 4 true 89 1)]
def kwL13:List (Bs × Value):=kwL12 ++ [([83,70,88],kwV 4 true 89 2)]
theorem keywords_any (w:World):Calls Tryz.prog 54 #[] w fun e w' => e=.returned (.map (some w.heap.size))∧(∃ n,MapF w' 9 w.heap.size n (kwF kwL13))∧Below w.heap.size w w':=by
 have hmm:=@run_makeMap Tryz.prog
 have m0:MapF (w.alloc (.map #[] 0)) 9 w.heap.size 0 (kwF kwL0):=by
  have:=MapF.made w 9
  have e:(fun _:Lit => (none:Option Value))=kwF kwL0:=by
   funext y
   cases y <;> rfl
  rw [e] at this
  exact this
 have b0:Below w.heap.size w (w.alloc (.map #[] 0)):=(Below.refl _ w).alloc (Nat.le_refl _) _
 obtain ⟨w1,r1,p1,g1⟩:=m0.put (t:=131) (key:=.string ⟨#[70,76,65,71]⟩) (kl:=.string [70,76,65,71]) law9 Tryz.underlying131 (by unfold maxLen;omega) (key9 (s:=⟨#[70,76,65,71]⟩) (by decide)) trivial (kwV 2 false 82 0)
 have m1:=p1 (kwF kwL1) (kwF_snoc kwL0 [70,76,65,71] _ (by decide)).1 (kwF_snoc kwL0 [70,76,65,71] _ (by decide)).2
 have b1:Below w.heap.size w w1:=b0.grown g1 b0.size (fun k hk => by injection hk with hk;omega)
 obtain ⟨w2,r2,p2,g2⟩:=m1.put (t:=131) (key:=.string ⟨#[83,69,84]⟩) (kl:=.string [83,69,84]) law9 Tryz.underlying131 (by unfold maxLen;omega) (key9 (s:=⟨#[83,69,84]⟩) (by decide)) trivial (kwV 2 false 83 0)
 have m2:=p2 (kwF kwL2) (kwF_snoc kwL1 [83,69,84] _ (by decide)).1 (kwF_snoc kwL1 [83,69,84] _ (by decide)).2
 have b2:Below w.heap.size w w2:=b1.grown g2 b1.size (fun k hk => by injection hk with hk;omega)
 obtain ⟨w3,r3,p3,g3⟩:=m2.put (t:=131) (key:=.string ⟨#[84,82,89]⟩) (kl:=.string [84,82,89]) law9 Tryz.underlying131 (by unfold maxLen;omega) (key9 (s:=⟨#[84,82,89]⟩) (by decide)) trivial (kwV 2 false 84 0)
 have m3:=p3 (kwF kwL3) (kwF_snoc kwL2 [84,82,89] _ (by decide)).1 (kwF_snoc kwL2 [84,82,89] _ (by decide)).2
 have b3:Below w.heap.size w w3:=b2.grown g3 b2.size (fun k hk => by injection hk with hk;omega)
 obtain ⟨w4,r4,p4,g4⟩:=m3.put (t:=131) (key:=.string ⟨#[78,69,69,68,65,70,70,73,88]⟩) (kl:=.string [78,69,69,68,65,70,70,73,88]) law9 Tryz.underlying131 (by unfold maxLen;omega) (key9 (s:=⟨#[78,69,69,68,65,70,70,73,88]⟩) (by decide)) trivial (kwV 2 false 85 0)
 have m4:=p4 (kwF kwL4) (kwF_snoc kwL3 [78,69,69,68,65,70,70,73,88] _ (by decide)).1 (kwF_snoc kwL3 [78,69,69,68,65,70,70,73,88] _ (by decide)).2
 have b4:Below w.heap.size w w4:=b3.grown g4 b3.size (fun k hk => by injection hk with hk;omega)
 obtain ⟨w5,r5,p5,g5⟩:=m4.put (t:=131) (key:=.string ⟨#[70,79,82,66,73,68,68,69,78,87,79,82,68]⟩) (kl:=.string [70,79,82,66,73,68,68,69,78,87,79,82,68]) law9 Tryz.underlying131 (by unfold maxLen;omega) (key9 (s:=⟨#[70,79,82,66,73,68,68,69,78,87,79,82,68]⟩) (by decide)) trivial (kwV 2 false 85 1)
 have m5:=p5 (kwF kwL5) (kwF_snoc kwL4 [70,79,82,66,73,68,68,69,78,87,79,82,68] _ (by decide)).1 (kwF_snoc kwL4 [70,79,82,66,73,68,68,69,78,87,79,82,68] _ (by decide)).2
 have b5:Below w.heap.size w w5:=b4.grown g5 b4.size (fun k hk => by injection hk with hk;omega)
 obtain ⟨w6,r6,p6,g6⟩:=m5.put (t:=131) (key:=.string ⟨#[75,69,69,80,67,65,83,69]⟩) (kl:=.string [75,69,69,80,67,65,83,69]) law9 Tryz.underlying131 (by unfold maxLen;omega) (key9 (s:=⟨#[75,69,69,80,67,65,83,69]⟩) (by decide)) trivial (kwV 2 false 85 2)
 have m6:=p6 (kwF kwL6) (kwF_snoc kwL5 [75,69,69,80,67,65,83,69] _ (by decide)).1 (kwF_snoc kwL5 [75,69,69,80,67,65,83,69] _ (by decide)).2
 have b6:Below w.heap.size w w6:=b5.grown g6 b5.size (fun k hk => by injection hk with hk;omega)
 obtain ⟨w7,r7,p7,g7⟩:=m6.put (t:=131) (key:=.string ⟨#[67,79,77,80,79,85,78,68,70,76,65,71]⟩) (kl:=.string [67,79,77,80,79,85,78,68,70,76,65,71]) law9 Tryz.underlying131 (by unfold maxLen;omega) (key9 (s:=⟨#[67,79,77,80,79,85,78,68,70,76,65,71]⟩) (by decide)) trivial (kwV 2 false 85 3)
 have m7:=p7 (kwF kwL7) (kwF_snoc kwL6 [67,79,77,80,79,85,78,68,70,76,65,71] _ (by decide)).1 (kwF_snoc kwL6 [67,79,77,80,79,85,78,68,70,76,65,71] _ (by decide)).2
 have b7:Below w.heap.size w w7:=b6.grown g7 b6.size (fun k hk => by injection hk with hk;omega)
 obtain ⟨w8,r8,p8,g8⟩:=m7.put (t:=131) (key:=.string ⟨#[78,79,83,85,71,71,69,83,84]⟩) (kl:=.string [78,79,83,85,71,71,69,83,84]) law9 Tryz.underlying131 (by unfold maxLen;omega) (key9 (s:=⟨#[78,79,83,85,71,71,69,83,84]⟩) (by decide)) trivial (kwV 2 false 85 4)
 have m8:=p8 (kwF kwL8) (kwF_snoc kwL7 [78,79,83,85,71,71,69,83,84] _ (by decide)).1 (kwF_snoc kwL7 [78,79,83,85,71,71,69,83,84] _ (by decide)).2
 have b8:Below w.heap.size w w8:=b7.grown g8 b7.size (fun k hk => by injection hk with hk;omega)
 obtain ⟨w9,r9,p9,g9⟩:=m8.put (t:=131) (key:=.string ⟨#[67,79,77,80,79,85,78,68,77,73,78]⟩) (kl:=.string [67,79,77,80,79,85,78,68,77,73,78]) law9 Tryz.underlying131 (by unfold maxLen;omega) (key9 (s:=⟨#[67,79,77,80,79,85,78,68,77,73,78]⟩) (by decide)) trivial (kwV 2 false 86 0)
 have m9:=p9 (kwF kwL9) (kwF_snoc kwL8 [67,79,77,80,79,85,78,68,77,73,78] _ (by decide)).1 (kwF_snoc kwL8 [67,79,77,80,79,85,78,68,77,73,78] _ (by decide)).2
 have b9:Below w.heap.size w w9:=b8.grown g9 b8.size (fun k hk => by injection hk with hk;omega)
 obtain ⟨w10,r10,p10,g10⟩:=m9.put (t:=131) (key:=.string ⟨#[82,69,80]⟩) (kl:=.string [82,69,80]) law9 Tryz.underlying131 (by unfold maxLen;omega) (key9 (s:=⟨#[82,69,80]⟩) (by decide)) trivial (kwV 2 false 87 0)
 have m10:=p10 (kwF kwL10) (kwF_snoc kwL9 [82,69,80] _ (by decide)).1 (kwF_snoc kwL9 [82,69,80] _ (by decide)).2
 have b10:Below w.heap.size w w10:=b9.grown g10 b9.size (fun k hk => by injection hk with hk;omega)
 obtain ⟨w11,r11,p11,g11⟩:=m10.put (t:=131) (key:=.string ⟨#[65,70]⟩) (kl:=.string [65,70]) law9 Tryz.underlying131 (by unfold maxLen;omega) (key9 (s:=⟨#[65,70]⟩) (by decide)) trivial (kwV 2 false 88 0)
 have m11:=p11 (kwF kwL11) (kwF_snoc kwL10 [65,70] _ (by decide)).1 (kwF_snoc kwL10 [65,70] _ (by decide)).2
 have b11:Below w.heap.size w w11:=b10.grown g11 b10.size (fun k hk => by injection hk with hk;omega)
 obtain ⟨w12,r12,p12,g12⟩:=m11.put (t:=131) (key:=.string ⟨#[80,70,88]⟩) (kl:=.string [80,70,88]) law9 Tryz.underlying131 (by unfold maxLen;omega) (key9 (s:=⟨#[80,70,88]⟩) (by decide)) trivial (kwV 4 true 89 1)
 have m12:=p12 (kwF kwL12) (kwF_snoc kwL11 [80,70,88] _ (by decide)).1 (kwF_snoc kwL11 [80,70,88] _ (by decide)).2
 have b12:Below w.heap.size w w12:=b11.grown g12 b11.size (fun k hk => by injection hk with hk;omega)
 obtain ⟨w13,r13,p13,g13⟩:=m12.put (t:=131) (key:=.string ⟨#[83,70,88]⟩) (kl:=.string [83,70,88]) law9 Tryz.underlying131 (by unfold maxLen;omega) (key9 (s:=⟨#[83,70,88]⟩) (by decide)) trivial (kwV 4 true 89 2)
 have m13:=p13 (kwF kwL13) (kwF_snoc kwL12 [83,70,88] _ (by decide)).1 (kwF_snoc kwL12 [83,70,88] _ (by decide)).2
 have b13:Below w.heap.size w w13:=b12.grown g13 b12.size (fun k hk => by injection hk with hk;omega)
 have HM:=hide m13
 have HB:=hide b13
 unfold kwV at r1 r2 r3 r4 r5 r6 r7 r8 r9 r10 r11 r12 r13
 clear m1 p1 g1 b1 m2 p2 g2 b2 m3 p3 g3 b3 m4 p4 g4 b4 m5 p5 g5 b5 m6 p6 g6 b6 m7 p7 g7 b7 m8 p8 g8 b8 m9 p9 g9 b9 m10 p10 g10 b10 m11 p11 g11 b11 m12 p12 g12 b12 m13 p13 g13 b13 m0 b0
 go_enter Tryz.func54,Tryz.ntmps54
 go_wp2
 go_ret
 exact ⟨rfl,⟨_,unhide HM⟩,unhide HB⟩
end Af
end Go.Proofs.YtmhegbeemgagkaaGreatDoor
