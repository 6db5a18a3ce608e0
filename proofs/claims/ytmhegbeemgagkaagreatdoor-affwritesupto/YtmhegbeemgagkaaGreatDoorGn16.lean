import Derived.Test.YtmhegbeemgagkaaGreatDoorGn15
import Derived.Deep.LoopGhost
set_option maxHeartbeats 8000000
set_option maxRecDepth 100000
namespace Go.Proofs.YtmhegbeemgagkaaGreatDoor
open Go.RowKit
namespace Pt
open Cd

theorem owns_below {W W':World} {n e size:Nat} {v:Value} {k:Nat} {xs:List Value} (h:W.ownsRow n e size v k xs) (hb:Below W.heap.size W W'):W'.ownsRow n e size v k xs:=by
 obtain ⟨h0,h | ⟨g,cap,cur,h1,h2,h3,h4⟩⟩:=h
 ·exact ⟨h0,.inl h⟩
 ·exact ⟨h0,.inr ⟨g,cap,cur,h1,h2,(hb.block g (Array.getElem?_eq_some_iff.1 h3).1).trans h3,h4⟩⟩
theorem items_of {W:World} {n:Nat} {v:Value} {fs:List (UInt8→Bool)} (h:W.ownsRow n 245 4 v fs.length (flatC fs)):ItemsAt W v fs:=by
 obtain ⟨h0,⟨h1,h2⟩ | ⟨g,cap,cur,h1,h2,h3,h4,h5,h6,h7⟩⟩:=h
 ·left
  have:fs=[]:=List.eq_nil_of_length_eq_zero h2
  subst this
  exact ⟨h1,rfl⟩
 ·right
  refine ⟨g,cap,h1,(Array.getElem?_eq_some_iff.1 h3).1,fun j u hu => ?_⟩
  have hj:j < fs.length * 4:=by have:=(List.getElem?_eq_some_iff.1 hu).1;rw [flatC_len] at this;exact this
  rw [← h7,List.getElem?_take,if_pos hj] at hu
  rw [cell_of_row W g j cur _ _ h3]
  simpa using hu
theorem new_cells (W:World) (C:Array Value) (t:TypeId):∀ j u,C.toList[j]?=some u→(W.alloc (.cells C t)).cell? ((⟨W.heap.size,0,none⟩:Addr).add j)=some u:=by
 intro j u hu
 rw [add_off,cell_of_row _ _ j C t (0,0) (heap_alloc_last W _)]
 simpa using hu
theorem infoIt:(Tryz.prog.info? 245).map (fun i => (i.zero,i.size,i.bytes))=some (some (.agg #[.int .u64 0,.int .u64 0,.int .u64 0,.int .u64 0]),4,32):=by kernel_rfl
theorem flat_snoc (fs:List (UInt8→Bool)) (f:UInt8→Bool):flatC fs ++ (itC f).toList=flatC (fs ++ [f]):=by simp [flatC]

theorem read_none (s:ByteArray) (w:World) (h:s.data.toList=[]∨512 < s.size) :
  Calls Tryz.prog 177 #[.string s] w fun e w' => e=.returned (.tuple #[.agg (patC []),.int .i64 40])∧Below w.heap.size w w':=by
 have hz:=zero_pat
 have hs:=patC_size [] (by decide)
 have h1:=patC_one []
 generalize patC []=Z at *
 have hg:=heap_alloc_last w (.cells Z 248)
 have hst:=store_pat _ _ _ _ _ hg hs hs h1
 rw [setRow_last] at hst
 clear h1 hg
 by_cases he:s.data.toList=[]
 ·have he2:s.toList.isEmpty=true:=by rw [ByteArray.toList_eq,he];rfl
  clear h he
  go_enter Tryz.func177,Tryz.ntmps177
  go_wp2
  refine bodyPost_ret (ret_pat rfl _ _ w.heap.size Z _ rfl (heap_alloc_last w _) hs) rfl ⟨rfl,?_⟩
  exact (Below.refl _ w).alloc (Nat.le_refl _) _
 ·have h5:(512:Int) < (s.size:Int):=by have:=h.resolve_left he;omega
  have he2:s.toList.isEmpty=false:=by
   rw [ByteArray.toList_eq]
   cases hh:s.data.toList with
   | nil => exact absurd hh he
   | cons a t => rfl
  clear h he
  go_enter Tryz.func177,Tryz.ntmps177
  go_wp2
  refine bodyPost_ret (ret_pat rfl _ _ w.heap.size Z _ rfl (heap_alloc_last w _) hs) rfl ⟨rfl,?_⟩
  exact (Below.refl _ w).alloc (Nat.le_refl _) _
theorem read_dot (w:World) :
  Calls Tryz.prog 177 #[.string ⟨#[46]⟩] w fun e w' => e=.returned (.tuple #[.agg (patC []),.int .i64 0])∧Below w.heap.size w w':=by
 have hz:=zero_pat
 have hs:=patC_size [] (by decide)
 have h1:=patC_one []
 generalize patC []=Z at *
 have hg:=heap_alloc_last w (.cells Z 248)
 have hst:=store_pat _ _ _ _ _ hg hs hs h1
 rw [setRow_last] at hst
 clear h1 hg
 go_enter Tryz.func177,Tryz.ntmps177
 go_wp2
 refine bodyPost_ret (ret_pat rfl _ _ w.heap.size Z _ rfl (heap_alloc_last w _) hs) rfl ⟨rfl,?_⟩
 exact (Below.refl _ w).alloc (Nat.le_refl _) _

def rdV (l:List UInt8):Value:=.tuple #[.agg (patC ((rd l).1.map adm)),.int .i64 ((rd l).2:Nat)]
theorem rdV_bad {l:List UInt8} (h0:l≠[]) (h1:l.length≤512) (h2:l≠[46]) (h:pcs l=none):rdV l=.tuple #[.agg (patC []),.int .i64 41]:=by
 have:rd l=([],41):=by unfold rd;rw [if_neg (fun e => e.elim h0 (fun e => by omega)),if_neg h2,h]
 rw [rdV,this];rfl
theorem rdV_many {l:List UInt8} {P:List (List UInt8)} (h0:l≠[]) (h1:l.length≤512) (h2:l≠[46]) (h:pcs l=some P) (h3:16 < P.length):rdV l=.tuple #[.agg (patC []),.int .i64 42]:=by
 have:rd l=([],42):=by unfold rd;rw [if_neg (fun e => e.elim h0 (fun e => by omega)),if_neg h2,h];simp only;rw [if_pos h3]
 rw [rdV,this];rfl
theorem rdV_few {l:List UInt8} {P:List (List UInt8)} (h0:l≠[]) (h1:l.length≤512) (h2:l≠[46]) (h:pcs l=some P) (h3:P.length≤16):rdV l=.tuple #[.agg (patC (P.map adm)),.int .i64 0]:=by
 have:rd l=(P,0):=by unfold rd;rw [if_neg (fun e => e.elim h0 (fun e => by omega)),if_neg h2,h];simp only;rw [if_neg (by omega)]
 rw [rdV,this];rfl
theorem heap_two {W:World} {o:Obj} {g:Nat} {x:Obj} (h:W.heap[g]?=some x):(W.alloc o).heap[g]?=some x:=(Go.heap_alloc_old W o (Array.getElem?_eq_some_iff.1 h).1).trans h
theorem new_cells2 (W:World) (A:Obj) (C:Array Value) (t:TypeId):∀ j u,C.toList[j]?=some u→((W.alloc A).alloc (.cells C t)).cell? ((⟨W.heap.size + 1,0,none⟩:Addr).add j)=some u:=by
 intro j u hu
 rw [add_off,cell_of_row _ _ j C t (0,0) (heap_alloc2_new W _ _)]
 simpa using hu
theorem push_below {B:Nat} {wr w1 w2:World} {A A2:Obj} {v:Value} {e size n:Nat} {xs:List Value} (hB:B≤wr.heap.size) (hb:Below wr.heap.size wr w1) (ho:w1.ownsRow B e size v n xs) (hg:((w1.alloc A).alloc A2).grownBy w2 v.ownBlock):Below B wr w2:=by
 have h1:=hb.size
 exact (((hb.mono hB).alloc (by omega) A).alloc (by simp;omega) A2).grown hg (by simp;omega) (fun k e => (ho.lt k e).1)
theorem pattern_any (v:Value) (P:List (List UInt8)) (l:List UInt8) (w:World) (h0:l≠[]) (h1:l.length≤512) (h2:l≠[46]) (h:pcs l=some P) (hv:ItemsAt w v (P.map adm)) :
  Calls Tryz.prog 193 #[v] w fun e w' => ∃ C n,e=.returned (.tuple #[.agg C,.int .i64 n])∧.tuple #[.agg C,.int .i64 n]=rdV l∧C.size=65∧C.all (·.oneCell')=true∧Below w.heap.size w w':=by
 by_cases h3:P.length≤16
 ·refine (patternOf_few v (P.map adm) w (by simpa using h3) hv).mono ?_
  rintro e w' ⟨rfl,hb⟩
  exact ⟨_,_,rfl,(rdV_few h0 h1 h2 h h3).symm,patC_size _ (by simpa using h3),patC_one _,hb⟩
 ·have hsl:∃ a cap,v=.slice a P.length cap:=by
   rcases hv with ⟨rfl,e⟩ | ⟨g,cap,rfl,_⟩
   ·have:=congrArg List.length e
    simp at this
    subst this
    exact ⟨none,0,rfl⟩
   ·exact ⟨_,cap,by rw [List.length_map]⟩
  obtain ⟨a,cap,e⟩:=hsl
  refine (patternOf_many v P.length cap a w (by omega) e).mono ?_
  rintro e w' ⟨rfl,hb⟩
  exact ⟨_,_,rfl,(rdV_many h0 h1 h2 h (by omega)).symm,patC_size [] (by decide),patC_one _,hb⟩

theorem read_loop (s:ByteArray) (w:World) (h0:s.data.toList≠[]) (hl:s.size≤512) (h2:s.data.toList≠[46]) :
  Calls Tryz.prog 177 #[.string s] w fun e w' => e=.returned (rdV s.data.toList)∧Below w.heap.size w w':=by
 obtain ⟨i0,hi,hz0,hz1,hz2⟩:=info_parts infoIt
 have hsl:s.data.toList.length=s.size:=by simp
 have HBAD:Hid (pcs s.data.toList=none→rdV s.data.toList=.tuple #[.agg (patC []),.int .i64 41]):=fun h => rdV_bad h0 (by omega) h2 h
 have HPAT:Hid (∀ v P W,pcs s.data.toList=some P→ItemsAt W v (P.map adm)→Calls Tryz.prog 193 #[v] W fun e w' => ∃ C n,e=.returned (.tuple #[.agg C,.int .i64 n])∧.tuple #[.agg C,.int .i64 n]=rdV s.data.toList∧C.size=65∧C.all (·.oneCell')=true∧Below W.heap.size W w'):=fun v P W h hv => pattern_any v P s.data.toList W h0 (by omega) h2 h hv
 have HCUT:Hid (∀ (r:ByteArray) W,r.data.toList≠[]→r.size≤512→Calls Tryz.prog 192 #[.string r] W fun e w' => e=.returned (cutV (cut1 r.data.toList))∧Below W.heap.size W w'):=fun r W h hr => cut_any r W (by unfold maxLen;omega) h
 have hz:=zero_pat
 have hs:=patC_size [] (by decide)
 have h1:=patC_one []
 have hse:s.toList.isEmpty=false:=by
  rw [ByteArray.toList_eq]
  cases hh:s.data.toList with
  | nil => exact absurd hh h0
  | cons a t => rfl
 have hsd:(s.toList == [46])=false:=by rw [ByteArray.toList_eq,beq_eq_false_iff_ne];exact h2
 have hlz:¬ (512:Int) < (s.size:Int):=by omega
 have HST:Hid (∀ W:World,W.heap[w.heap.size]?=some (.cells (patC []) 248 (0,0))→∀ C:Array Value,C.size=65→C.all (·.oneCell')=true→(storeCells ⟨w.heap.size,0,none⟩ C.toList 0).run Tryz.prog W=.ok () (W.setRow w.heap.size C)):=fun W hg C hc h1 => store_pat _ _ _ _ _ hg hs hc h1
 generalize rdV s.data.toList=RV at *
 generalize patC []=Z at *
 have HZ1:=hide h1
 have HSN:Hid (∀ (W:World) u (P:List (List UInt8)) p,W.ownsRow (w.heap.size + 1) 245 4 u (P.length + 1) (flatC (P.map adm) ++ (itC (adm p)).toList)→W.ownsRow (w.heap.size + 1) 245 4 u (P ++ [p]).length (flatC ((P ++ [p]).map adm))):=fun W u P p h => by
  rw [flat_snoc] at h
  simpa using h
 clear h0 h2 h1 hsl
 go_enter Tryz.func177,Tryz.ntmps177
 go_wp2
 go_loopg [0,4] s.size (fun kk s0 s4 wr => ∃ (r:ByteArray) (P:List (List UInt8)) (v:Value),s0=.string r∧v=s4∧r.size≤kk∧P.length + r.size≤512∧Hid (wr.ownsRow (w.heap.size + 1) 245 4 v P.length (flatC (P.map adm)))∧Hid ((pcs r.data.toList).map (P ++ ·)=pcs s.data.toList)∧Hid (Below w.heap.size w wr)∧Hid (wr.heap[w.heap.size]?=some (.cells Z 248 (0,0))))
 case atStart => exact ⟨s,[],_,rfl,rfl,Nat.le_refl _,by simpa using hl,World.ownsRow_nil _ _ _ _,by rw [Hid];simp,(Below.refl _ w).alloc (Nat.le_refl _) _,heap_alloc_last w _⟩
 case round =>
  obtain ⟨r,P,v,rfl,rfl,hk,hP,HR,HE,HB,HG⟩:=hrel
  by_cases hr0:r.data.toList=[]
  ·have hre:r.toList.isEmpty=true:=by rw [ByteArray.toList_eq,hr0];rfl
   have HE2:Hid (pcs s.data.toList=some P):=hide (by have h:=unhide HE;rw [hr0,pcs_nil] at h;simpa using h.symm)
   have HX:=hide (unhide HPAT v P wr (unhide HE2) (items_of (by rw [List.length_map];exact unhide HR)))
   clear hr0
   go_wp2_with (go_at_call 193;refine (unhide HX).mono ?_;rintro e w1 ⟨C,n,rfl,hCV,hC65,hC1,hb1⟩;have HCV:=hide hCV;have hg1:=(hb1.block w.heap.size (Array.getElem?_eq_some_iff.1 (unhide HG)).1).trans (unhide HG);have hst:=unhide HST w1 hg1 C hC65 hC1;have HGX:=hide (setRow_heap _ _ _ C _ _ hg1);have HBX:=hide (below_setRow ((unhide HB).trans (hb1.mono (unhide HB).size)) (Nat.le_refl _) C);clear hCV hb1 hC1 hg1)
   exact bodyPost_ret (ret_pat rfl _ _ w.heap.size C _ rfl (unhide HGX) hC65) rfl ⟨by rw [← unhide HCV];rfl,unhide HBX⟩
  ·have hre:r.toList.isEmpty=false:=by
    rw [ByteArray.toList_eq]
    cases hh:r.data.toList with
    | nil => exact absurd hh hr0
    | cons a t => rfl
   have HC:=hide (unhide HCUT r wr hr0 (by omega))
   cases hc1:cut1 r.data.toList with
   | none =>
    have HE2:Hid (pcs s.data.toList=none):=hide (by have h:=unhide HE;rw [pcs_bad hr0 hc1] at h;simpa using h.symm)
    have HRV:=hide (unhide HBAD (unhide HE2))
    rw [hc1] at HC
    have HC2:Hid (Calls Tryz.prog 192 #[.string r] wr fun e w' => e=.returned (.tuple #[.agg #[.int .u64 0,.int .u64 0,.int .u64 0,.int .u64 0],.string ⟨#[]⟩,.bool false])∧Below wr.heap.size wr w'):=HC
    clear hr0 hc1 HE HE2 HC
    go_wp2_with (go_at_call 192;refine (unhide HC2).mono ?_;rintro e w1 ⟨rfl,hb1⟩;have hg1:=heap_two (o:=.cells #[.int .u64 0,.int .u64 0,.int .u64 0,.int .u64 0] 245) ((hb1.block w.heap.size (Array.getElem?_eq_some_iff.1 (unhide HG)).1).trans (unhide HG));have hst:=unhide HST _ hg1 Z hs (unhide HZ1);have HGX:=hide (setRow_heap _ _ _ Z _ _ hg1);have HBX:=hide (below_setRow (((unhide HB).trans (hb1.mono (unhide HB).size)).alloc (Nat.le_trans (unhide HB).size hb1.size) (.cells #[.int .u64 0,.int .u64 0,.int .u64 0,.int .u64 0] 245)) (Nat.le_refl _) Z);clear hb1 hg1)
    exact bodyPost_ret (ret_pat rfl _ _ w.heap.size Z _ rfl (unhide HGX) hs) rfl ⟨by rw [unhide HRV];rfl,unhide HBX⟩
   | some q =>
    obtain ⟨p,t⟩:=q
    obtain ⟨e1,e2⟩:=cut1_len hc1
    have e3:=congrArg List.length e1
    rw [List.length_append] at e3
    have hrl:r.data.toList.length=r.size:=by simp
    have hts:(str t).size=t.length:=str_size t
    have HE2:Hid ((pcs (str t).data.toList).map ((P ++ [p]) ++ ·)=pcs s.data.toList):=hide (by
     have h:=unhide HE
     rw [pcs_cut hc1] at h
     rw [str_list,← h,Option.map_map]
     congr 1
     funext x
     simp)
    rw [hc1] at HC
    have HC2:Hid (Calls Tryz.prog 192 #[.string r] wr fun e w' => e=.returned (.tuple #[.agg (itC (adm p)),.string (str t),.bool true])∧Below wr.heap.size wr w'):=HC
    have HSN2:=hide (fun W u h => unhide HSN W u P p h)
    have HLT:Hid (w.heap.size + 1≤wr.heap.size):=(Array.getElem?_eq_some_iff.1 (unhide HG)).1
    have hN1:t.length < r.size:=by omega
    have hN2:P.length + 1 + t.length≤512:=by omega
    clear hr0 hc1 HE HC e1 e2 e3 hrl HSN HBAD HPAT HCUT HST
    have HD:=hide (cells_four (adm p))
    generalize itC (adm p)=C at *
    generalize str t=T at *
    obtain ⟨x0,x1,x2,x3,rfl⟩:=unhide HD
    clear HD
    go_wp2_with (first
     | (go_at_call 192;refine (unhide HC2).mono ?_;rintro e w1 ⟨rfl,hb1⟩;have HB1:=hide hb1;have HO1:=hide (owns_below (unhide HR) hb1);clear hb1)
     | (at_builtin;refine wpList_append_own _ rfl _ _ 263 rfl (w.heap.size + 1) 245 i0 (.agg #[.int .u64 0,.int .u64 0,.int .u64 0,.int .u64 0]) 4 32 Tryz.underlying263 hi hz0 hz1 hz2 rfl (by decide) _ _ _ rfl (((unhide HO1).alloc _).alloc _) ⟨w1.heap.size + 1,0,none⟩ 1 1 [.int .u64 x0,.int .u64 x1,.int .u64 x2,.int .u64 x3] rfl rfl (new_cells2 _ _ #[.int .u64 x0,.int .u64 x1,.int .u64 x2,.int .u64 x3] _) (by simp [Value.oneCell']) (by unfold maxLen;omega) (by omega) (by have h1:=(unhide HB1).size;have h2:=(unhide HB).size;simp;omega) ?_;intro v' w2 hown' hgrow hnil;clear hnil;have HO2:=hide (unhide HSN2 _ _ hown');have HB2:=hide (push_below (unhide HLT) (unhide HB1) (unhide HO1) hgrow);clear hown' hgrow))
    go_roundg (r.size - 1)
    case rel => exact ⟨T,P ++ [p],v',rfl,rfl,by omega,by simp;omega,HO2,HE2,(unhide HB).trans ((unhide HB2).mono (by omega)),((unhide HB2).block w.heap.size (by omega)).trans (unhide HG)⟩
    case measure => omega

theorem read_any (s:ByteArray) (w:World):Calls Tryz.prog 177 #[.string s] w fun e w' => e=.returned (rdV s.data.toList)∧Below w.heap.size w w':=by
 have hsl:s.data.toList.length=s.size:=by simp
 by_cases h1:s.data.toList=[]∨512 < s.size
 ·have e:rdV s.data.toList=.tuple #[.agg (patC []),.int .i64 40]:=by
   have:rd s.data.toList=([],40):=by unfold rd;rw [if_pos (by rw [hsl];exact h1)]
   rw [rdV,this];rfl
  rw [e]
  exact read_none s w h1
 ·by_cases h2:s.data.toList=[46]
  ·have e:s=⟨#[46]⟩:=by rw [← str_self s,h2];rfl
   subst e
   exact read_dot w
  ·exact read_loop s w (fun e => h1 (.inl e)) (by have:¬ 512 < s.size:=fun e => h1 (.inr e);omega) h2
theorem flatC_get (fs:List (UInt8→Bool)) {k:Nat} (hk:k < fs.length) {j:Nat} (hj:j < 4):(flatC fs)[k * 4 + j]?=some (.int .u64 (wd fs[k] j)):=by
 induction fs generalizing k with
 | nil => simp at hk
 | cons f t ih =>
  have e:flatC (f :: t)=(itC f).toList ++ flatC t:=by simp [flatC]
  have hl:(itC f).toList.length=4:=rfl
  rw [e]
  cases k with
  | zero =>
   rw [List.getElem?_append_left (by rw [hl];omega),Nat.zero_mul,Nat.zero_add]
   have:=itC_get f hj
   simpa using this
  | succ k =>
   rw [List.getElem?_append_right (by rw [hl];omega),hl,show (k + 1) * 4 + j - 4=k * 4 + j by omega,ih (by simpa using hk)]
   rfl
theorem patC_get (fs:List (UInt8→Bool)) {k:Nat} (hk:k < fs.length) {j:Nat} (hj:j < 4):(patC fs)[1 + (k * 4 + j)]?=some (.int .u64 (wd fs[k] j)):=by
 have h:=flatC_get fs hk hj
 have hlt:=(List.getElem?_eq_some_iff.1 h).1
 unfold patC
 rw [List.getElem?_toArray,Nat.add_comm 1,List.getElem?_cons_succ,List.getElem?_append_left hlt,h]
theorem patC_four (fs:List (UInt8→Bool)) {k:Nat} (hk:k < fs.length):(patC fs)[1 + k * 4]?=some (.int .u64 (wd fs[k] 0))∧(patC fs)[1 + k * 4 + 1]?=some (.int .u64 (wd fs[k] 1))∧(patC fs)[1 + k * 4 + 2]?=some (.int .u64 (wd fs[k] 2))∧(patC fs)[1 + k * 4 + 3]?=some (.int .u64 (wd fs[k] 3)) :=
 ⟨patC_get fs hk (j:=0) (by decide),patC_get fs hk (j:=1) (by decide),patC_get fs hk (j:=2) (by decide),patC_get fs hk (j:=3) (by decide)⟩
theorem patC_zero (fs:List (UInt8→Bool)):(patC fs)[0]?=some (.int .i64 fs.length):=by simp [patC]


def each:List (UInt8→Bool)→List UInt8→Bool
 | f :: fs,b :: bs => f b && each fs bs
 | _,_ => true

def Sz65 (X:Array Value):Prop:=X.size=65
def ldP (v:Value):Sem Value:=Instr.loadAt 248 v
theorem load_as (v:Value):Instr.loadAt 248 v=ldP v:=rfl
theorem ldP_row {w:World} {g:Nat} {X:Array Value} (hg:w.heap[g]?=some (.cells X 248 (0,0))) (h:Sz65 X):(ldP (.pointer (some ⟨g,0,none⟩))).run Tryz.prog w=.ok (.agg X) w:=by
 have hl:=run_loadVar_row (P:=Tryz.prog) w g 248 248 X (0,0) _ hg Tryz.underlying248 rfl (by rw [show X.size=65 from h];exact infoP)
 simp only [ldP,Instr.loadAt,Instr.sureAddr,Sem.run_bind,Sem.run_pure,Result.andThen_ok,hl]
theorem ldP_new (W:World) (X:Array Value) (h:Sz65 X):(ldP (.pointer (some ⟨W.heap.size,0,none⟩))).run Tryz.prog (W.alloc (.cells X 248))=.ok (.agg X) (W.alloc (.cells X 248)):=ldP_row (heap_alloc_last W _) h
theorem ldP_drew (W:World) (X:Array Value) (h:Sz65 X):(ldP (.pointer (some ⟨W.heap.size,0,none⟩))).run Tryz.prog ((W.alloc (.cells X 248)).drew)=.ok (.agg X) ((W.alloc (.cells X 248)).drew):=ldP_row (heap_alloc_last W _) h
attribute [local go_sem ↓] load_as
attribute [local go_sem] ldP_new ldP_drew
end Pt
end Go.Proofs.YtmhegbeemgagkaaGreatDoor
