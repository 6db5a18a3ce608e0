import Derived.Test.YtmhegbeemgagkaaGreatDoorGn16
set_option maxHeartbeats 8000000
set_option maxRecDepth 100000
namespace Go.Proofs.YtmhegbeemgagkaaGreatDoor
open Go.RowKit
namespace Pt
open Cd
attribute [local go_sem ↓] load_as
attribute [local go_sem] ldP_new ldP_drew

end Pt
namespace Pt
open Cd

def clo (l:List UInt8) (i:Nat):Int:=if 93 ∈ l.drop i then ((i + ((l.drop i).takeWhile (· != 93)).length:Nat):Int) else -1
theorem drop_cons (s:ByteArray) (k:Nat) (h:k < s.size):s.data.toList.drop k=s[k] :: s.data.toList.drop (k + 1):=by
 rw [List.drop_eq_getElem_cons (by simpa using h)];rfl
theorem clo_hit (s:ByteArray) (k:Nat) (h:k < s.size) (hc:s[k]=93):clo s.data.toList k=(k:Int):=by
 unfold clo
 rw [drop_cons s k h,hc]
 simp
theorem clo_miss (s:ByteArray) (k:Nat) (h:k < s.size) (hc:s[k]≠93):clo s.data.toList k=clo s.data.toList (k + 1):=by
 unfold clo
 rw [drop_cons s k h]
 have h1:(s[k] != 93)=true:=by simpa using hc
 have h2:¬ 93=s[k]:=fun e => hc e.symm
 rw [List.takeWhile_cons,if_pos h1]
 by_cases h3:93 ∈ s.data.toList.drop (k + 1)
 ·rw [if_pos (by simp [h3]),if_pos h3,List.length_cons]
  congr 1
  omega
 ·rw [if_neg (by simp [h3,h2]),if_neg h3]
theorem clo_end (s:ByteArray) (k:Nat) (h:s.size≤k):clo s.data.toList k=-1:=by
 unfold clo
 rw [List.drop_of_length_le (by simpa using h)]
 simp
theorem ret_int {a b:Int} (h:a=b):Ending.returned (.int .i64 a)=.returned (.int .i64 b):=by rw [h]

theorem closing_any (s:ByteArray) (i:Nat) (w:World) (hs:s.size≤maxLen) (hi:i≤s.size) :
  Calls Tryz.prog 179 #[.string s,.int .i64 i] w fun e w' => e=.returned (.int .i64 (clo s.data.toList i))∧w'=w:=by
 unfold maxLen at hs
 go_enter Tryz.func179,Tryz.ntmps179
 go_wp2
 go_loop [1] (fun n => ∃ k:Nat,k≤s.size∧n=.int .i64 k∧Hid (clo s.data.toList k=clo s.data.toList i)) (fun n => s.size - (intOf n).toNat)
 case atStart => exact ⟨i,hi,rfl,rfl⟩
 case round =>
  obtain ⟨k,hk,rfl,HK⟩:=hrel
  by_cases hlt:k < s.size
  ·by_cases hc:s[k]=93
   ·have HH:=hide (clo_hit s k hlt hc)
    go_wp2
    go_ret
    exact ⟨ret_int (by rw [← unhide HK,unhide HH]),rfl⟩
   ·have HH:=hide (clo_miss s k hlt hc)
    have hcz:¬ (s[k].toNat:Int)=93:=ne_int hc
    clear hc
    go_wp2
    go_round
    case rel => exact ⟨k + 1,by omega,by go_num,hide (by rw [← unhide HK,unhide HH])⟩
    case measure => simp [intOf];omega
  ·have HH:=hide (clo_end s k (by omega))
   go_wp2
   go_ret
   exact ⟨ret_int (by rw [← unhide HK,unhide HH]),rfl⟩

def txt (P:List (List UInt8)):List Value:=P.map fun p => Value.string (str p)
theorem txt_snoc (P:List (List UInt8)) (p:List UInt8):txt P ++ [.string (str p)]=txt (P ++ [p]):=by simp [txt]
theorem infoRI:(Tryz.prog.info? 252).map (fun i => (i.zero,i.size,i.bytes))=some (some (.agg #[.string ByteArray.empty]),1,16):=by kernel_rfl
theorem piece_plain (s:ByteArray) (i:Nat) (h:i < s.size) (hc:s[i]≠91):cut1 (s.data.toList.drop i)=some ([s[i]],s.data.toList.drop (i + 1))∧s.extract i (i + 1)=str [s[i]]:=by
 rw [extract_str,drop_cons s i h]
 refine ⟨by simp [cut1,hc],?_⟩
 rw [show i + 1 - i=1 by omega]
 simp
theorem tw_drop {r:List UInt8} (h:93 ∈ r):∃ m rest,m=(r.takeWhile (· != 93)).length∧m < r.length∧r.dropWhile (· != 93)=93 :: rest∧rest=r.drop (m + 1)∧r.take (m + 1)=r.takeWhile (· != 93) ++ [93]:=by
 obtain ⟨rest,hr⟩:=dw_some h
 obtain ⟨h1,h2,h3⟩:=tw_facts h
 refine ⟨_,rest,rfl,h1,hr,by rw [h3,hr];rfl,?_⟩
 have e:=List.takeWhile_append_dropWhile (p:=fun x:UInt8 => x != 93) (l:=r)
 rw [hr] at e
 have e2:r=(r.takeWhile (· != 93) ++ [93]) ++ rest:=by rw [List.append_assoc];exact e.symm
 have e3:(r.takeWhile (· != 93) ++ [93]).length=(r.takeWhile (· != 93)).length + 1:=by simp
 rw [← e3]
 generalize r.takeWhile (· != 93) ++ [93]=q at *
 rw [e2]
 simp
theorem piece_brack (s:ByteArray) (i:Nat) (h:i < s.size) (hc:s[i]=91) :
  (clo s.data.toList i=-1∧cut1 (s.data.toList.drop i)=none) ∨
  ∃ k:Nat,clo s.data.toList i=(k:Int)∧i < k∧k < s.size ∧
   ((k=i + 1∧cut1 (s.data.toList.drop i)=none) ∨
    (k=i + 2∧(∃ h1:i + 1 < s.size,s[i + 1]=94)∧cut1 (s.data.toList.drop i)=none) ∨
    (k≠i + 1∧(k=i + 2→∃ h1:i + 1 < s.size,s[i + 1]≠94)∧∃ p,cut1 (s.data.toList.drop i)=some (p,s.data.toList.drop (k + 1))∧s.extract i (k + 1)=str p)):=by
 have hl:s.data.toList.length=s.size:=by simp
 rw [drop_cons s i h,hc]
 unfold clo
 rw [drop_cons s i h,hc]
 by_cases h93:93 ∈ s.data.toList.drop (i + 1)
 ·right
  obtain ⟨m,rest,hm,hml,hr,hrest,htk⟩:=tw_drop h93
  rw [List.length_drop,hl] at hml
  have hd1:rest=s.data.toList.drop (i + 1 + m + 1):=by rw [hrest,List.drop_drop];congr 1
  refine ⟨i + 1 + m,?_,by omega,by omega,?_⟩
  ·rw [if_pos (by simp [h93]),List.takeWhile_cons,if_pos (by decide),List.length_cons,← hm]
   congr 1
   omega
  ·have hex:s.extract i (i + 1 + m + 1)=str (91 :: ((s.data.toList.drop (i + 1)).takeWhile (· != 93) ++ [93])):=by
    rw [extract_str,drop_cons s i h,hc,show i + 1 + m + 1 - i=m + 1 + 1 by omega,List.take_succ_cons,htk]
   cases htw:(s.data.toList.drop (i + 1)).takeWhile (· != 93) with
   | nil =>
    left
    rw [htw] at hm
    exact ⟨by simp at hm;omega,by simp [cut1,htw,hr]⟩
   | cons d q =>
    rw [htw] at hm hex
    have hi1:i + 1 < s.size:=by omega
    have hd:s[i + 1]=d:=by
     have e:=drop_cons s (i + 1) hi1
     rw [e,List.takeWhile_cons] at htw
     split at htw
     ·exact (List.cons.inj htw).1
     ·cases htw
    by_cases hq:q=[]∧d=94
    ·obtain ⟨rfl,rfl⟩:=hq
     right;left
     exact ⟨by simp at hm;omega,⟨hi1,hd⟩,by simp [cut1,htw,hr]⟩
    ·right;right
     refine ⟨by simp at hm;omega,fun e => ⟨hi1,fun e2 => hq ⟨?_,by rw [← hd,e2]⟩⟩,_,?_,hex⟩
     ·apply List.eq_nil_of_length_eq_zero
      simp at hm
      omega
     ·have hn:¬ (d=94∧q=[]):=fun e => hq ⟨e.2,e.1⟩
      simp [cut1,htw,hr,hn,hd1]
 ·left
  refine ⟨by rw [if_neg (by simp [h93])],by simp [cut1,dw_none h93]⟩
theorem rd_none {l:List UInt8} (h:l=[]∨512 < l.length):rd l=([],40):=by unfold rd;rw [if_pos h]
theorem rd_bad {l:List UInt8} (h0:l≠[]) (h1:l.length≤512) (h2:l≠[46]) (h:pcs l=none):rd l=([],41):=by
 unfold rd;rw [if_neg (fun e => e.elim h0 (fun e => by omega)),if_neg h2,h]
theorem rd_many {l:List UInt8} {P:List (List UInt8)} (h0:l≠[]) (h1:l.length≤512) (h2:l≠[46]) (h:pcs l=some P) (h3:16 < P.length):rd l=([],42):=by
 unfold rd;rw [if_neg (fun e => e.elim h0 (fun e => by omega)),if_neg h2,h];simp only;rw [if_pos h3]
theorem rd_few {l:List UInt8} {P:List (List UInt8)} (h0:l≠[]) (h1:l.length≤512) (h2:l≠[46]) (h:pcs l=some P) (h3:P.length≤16):rd l=(P,0):=by
 unfold rd;rw [if_neg (fun e => e.elim h0 (fun e => by omega)),if_neg h2,h];simp only;rw [if_neg (by omega)]
def RefP (n:Nat) (W:World) (v:Value) (P:List (List UInt8)):Prop:=W.ownsRow n 252 1 v P.length (txt P)
theorem refP_nil (n:Nat) (W:World):RefP n W (.slice none 0 0) []:=World.ownsRow_nil _ _ _ _
theorem refRead_none (s:ByteArray) (w:World) (h:s.data.toList=[]∨512 < s.data.toList.length) :
  Calls Tryz.prog 153 #[.string s] w fun e w' => e=.returned (.tuple #[.slice none 0 0,.int .i64 40])∧w'=w:=by
 have hl:s.data.toList.length=s.size:=by simp
 by_cases he:s.size=0
 ·have hez:(s.size:Int)=0:=by omega
  clear h hl he
  go_enter Tryz.func153,Tryz.ntmps153
  go_wp2
  go_ret2
  exact ⟨rfl,rfl⟩
 ·have h5:(512:Int) < (s.size:Int):=by
   rcases h with h | h
   ·rw [h] at hl;simp at hl;omega
   ·omega
  clear h hl
  go_enter Tryz.func153,Tryz.ntmps153
  go_wp2
  go_ret2
  exact ⟨rfl,rfl⟩
theorem refRead_dot (w:World) :
  Calls Tryz.prog 153 #[.string ⟨#[46]⟩] w fun e w' => e=.returned (.tuple #[.slice none 0 0,.int .i64 0])∧w'=w:=by
 go_enter Tryz.func153,Tryz.ntmps153
 go_wp2
 go_ret2
 exact ⟨rfl,rfl⟩

theorem ref_push {w wr w1:World} {e size:Nat} {v:Value} {n:Nat} {xs:List Value} {o:Obj} (hown:wr.ownsRow w.heap.size e size v n xs) (hB:Below w.heap.size w wr) (hg:(wr.alloc o).grownBy w1 v.ownBlock):Below w.heap.size w w1 :=
 (hB.alloc hB.size o).grown hg (by have:=hB.size;simp;omega) (fun k e => (hown.lt k e).1)
theorem one_new (W:World) (u:Value) (t:TypeId):∀ j x,[u][j]?=some x→(W.alloc (.cells #[u] t)).cell? ((⟨W.heap.size,0,none⟩:Addr).add j)=some x:=new_cells W #[u] t

theorem refRead_loop (s:ByteArray) (w:World) (h0:s.data.toList≠[]) (hl:s.size≤512) (h2:s.data.toList≠[46]) :
  Calls Tryz.prog 153 #[.string s] w fun e w' => ∃ v,e=.returned (.tuple #[v,.int .i64 ((rd s.data.toList).2:Nat)])∧RefP w.heap.size w' v (rd s.data.toList).1∧Below w.heap.size w w':=by
 obtain ⟨i0,hi,hz0,hz1,hz2⟩:=info_parts infoRI
 have hsl:s.data.toList.length=s.size:=by simp
 have HBAD:Hid (pcs s.data.toList=none→rd s.data.toList=([],41)):=fun h => rd_bad h0 (by omega) h2 h
 have HMANY:Hid (∀ P,pcs s.data.toList=some P→16 < P.length→rd s.data.toList=([],42)):=fun P h h3 => rd_many h0 (by omega) h2 h h3
 have HFEW:Hid (∀ P,pcs s.data.toList=some P→P.length≤16→rd s.data.toList=(P,0)):=fun P h h3 => rd_few h0 (by omega) h2 h h3
 have HSN:Hid (∀ (W:World) u (P:List (List UInt8)) p,W.ownsRow w.heap.size 252 1 u (P.length + 1) (txt P ++ [.string (str p)])→RefP w.heap.size W u (P ++ [p])):=fun W u P p h => by
  rw [txt_snoc] at h
  unfold RefP
  simpa using h
 have HCL:Hid (∀ i W,i≤s.size→Calls Tryz.prog 179 #[.string s,.int .i64 (i:Nat)] W fun e w' => e=.returned (.int .i64 (clo s.data.toList i))∧w'=W):=fun i W h => closing_any s i W (by unfold maxLen;omega) h
 have HSTEP:Hid (∀ (P:List (List UInt8)) i j p,cut1 (s.data.toList.drop i)=some (p,s.data.toList.drop j)→(pcs (s.data.toList.drop i)).map (P ++ ·)=pcs s.data.toList→(pcs (s.data.toList.drop j)).map ((P ++ [p]) ++ ·)=pcs s.data.toList):=fun P i j p hc h => by
  rw [pcs_cut hc] at h
  rw [← h,Option.map_map]
  congr 1
  funext x
  simp
 have HFAIL:Hid (∀ (P:List (List UInt8)) i,i < s.size→cut1 (s.data.toList.drop i)=none→(pcs (s.data.toList.drop i)).map (P ++ ·)=pcs s.data.toList→pcs s.data.toList=none):=fun P i hi hc h => by
  rw [pcs_bad (by rw [drop_cons s i hi];simp) hc] at h
  simpa using h.symm
 have HDONE:Hid (∀ (P:List (List UInt8)) i,s.size≤i→(pcs (s.data.toList.drop i)).map (P ++ ·)=pcs s.data.toList→pcs s.data.toList=some P):=fun P i hi h => by
  rw [List.drop_of_length_le (by omega),pcs_nil] at h
  simpa using h.symm
 have hsz1:1≤s.size:=by
  rcases Nat.eq_zero_or_pos s.size with e | e
  ·exact absurd (List.eq_nil_of_length_eq_zero (by omega)) h0
  ·exact e
 have hsd:(s.toList == [46])=false:=by rw [ByteArray.toList_eq,beq_eq_false_iff_ne];exact h2
 have hlz:¬ (512:Int) < (s.size:Int):=by omega
 have hse:¬ s=ByteArray.empty:=fun e => h0 (by rw [e];rfl)
 have hse2:((s.size:Int) == 0)=false:=by rw [beq_eq_false_iff_ne];omega
 have HZ:Hid ((pcs (s.data.toList.drop 0)).map ([] ++ ·)=pcs s.data.toList):=hide (by simp)
 clear h0 h2 hsl
 generalize rd s.data.toList=RD at *
 go_enter Tryz.func153,Tryz.ntmps153
 go_wp2
 go_loopg [4,5] s.size (fun kk s4 s5 wr => ∃ (i:Nat) (P:List (List UInt8)) (v:Value),s5=.int .i64 i∧v=s4∧i≤s.size∧s.size - i≤kk∧P.length≤i∧Hid (RefP w.heap.size wr v P)∧Hid ((pcs (s.data.toList.drop i)).map (P ++ ·)=pcs s.data.toList)∧Hid (Below w.heap.size w wr))
 case atStart => exact ⟨0,[],_,rfl,rfl,by omega,by omega,by simp,refP_nil _ _,HZ,Below.refl _ _⟩
 case round =>
  obtain ⟨i,P,v,rfl,rfl,hi1,hk,hP,HR,HE,HB⟩:=hrel
  by_cases hlt:i < s.size
  ·have hltz:(i:Int) < (s.size:Int):=by omega
   by_cases hc:s[i]=91
   ·have HC1:=hide (unhide HCL i wr (by omega))
    rcases piece_brack s i hlt hc with ⟨e1,e2⟩ | ⟨k,e1,hik,hks,hcase⟩
    ·rw [e1] at HC1
     have HRD:=hide (unhide HBAD (unhide HFAIL P i hlt e2 (unhide HE)))
     clear e1 e2
     go_wp2_with (go_at_call 179;refine (unhide HC1).mono ?_;rintro e w1 ⟨rfl,rfl⟩)
     go_ret2
     exact ⟨_,by rw [unhide HRD];rfl,by rw [unhide HRD];exact refP_nil _ _,unhide HB⟩
    ·rw [e1] at HC1
     clear e1
     have hkz0:¬ (k:Int) < 0:=by omega
     rcases hcase with ⟨ek,e2⟩ | ⟨ek,⟨h1s,e94⟩,e2⟩ | ⟨ek,e94,p,e2,hex⟩
     ·have HRD:=hide (unhide HBAD (unhide HFAIL P i hlt e2 (unhide HE)))
      have hkz:(k:Int)=(i:Int) + 1:=by omega
      clear e2 ek
      go_wp2_with (go_at_call 179;refine (unhide HC1).mono ?_;rintro e w1 ⟨rfl,rfl⟩)
      go_ret2
      exact ⟨_,by rw [unhide HRD];rfl,by rw [unhide HRD];exact refP_nil _ _,unhide HB⟩
     ·have HRD:=hide (unhide HBAD (unhide HFAIL P i hlt e2 (unhide HE)))
      have hkz:(k:Int)=(i:Int) + 2:=by omega
      have h1sz:(i:Int) + 1 < (s.size:Int):=by omega
      have hkn:¬ (k:Int)=(i:Int) + 1:=by omega
      clear e2 ek
      go_wp2_with (go_at_call 179;refine (unhide HC1).mono ?_;rintro e w1 ⟨rfl,rfl⟩)
      go_ret2
      exact ⟨_,by rw [unhide HRD];rfl,by rw [unhide HRD];exact refP_nil _ _,unhide HB⟩
     ·have HE2:=hide (unhide HSTEP P i (k + 1) p e2 (unhide HE))
      have hkn:¬ (k:Int)=(i:Int) + 1:=by omega
      clear e2
      by_cases h2k:k=i + 2
      ·obtain ⟨h1s,h94⟩:=e94 h2k
       have h94z:((s[i + 1].toNat:Int) == 94)=false:=by rw [beq_eq_false_iff_ne];exact ne_int h94
       have hkz:((k:Int) == (i:Int) + 2)=true:=by rw [beq_iff_eq];omega
       have hkb:((k:Int) == (i:Int) + 1)=false:=by rw [beq_eq_false_iff_ne];omega
       have h1sz:(i:Int) + 1 < (s.size:Int):=by omega
       clear e94 h94 ek h2k hkn
       go_wp2_with (first | (go_at_call 179;refine (unhide HC1).mono ?_;rintro e w1 ⟨rfl,hw1⟩;obtain rfl:=hw1.symm) | (at_builtin;refine wpList_append_own _ rfl _ _ 224 rfl w.heap.size 252 i0 (.agg #[.string ByteArray.empty]) 1 16 Tryz.underlying224 hi hz0 hz1 hz2 rfl (by decide) _ _ _ rfl ((unhide HR).alloc _) ⟨wr.heap.size,0,none⟩ 1 1 [.string (str p)] rfl rfl (one_new _ _ _) (fun x hx => by simp at hx;subst hx;rfl) (by unfold maxLen;omega) (by omega) (by have:=(unhide HB).size;simp;omega) ?_;intro v' w2 hown' hgrow hnil;clear hnil;have HO2:=hide (unhide HSN _ _ _ _ hown');have HB2:=hide (ref_push (unhide HR) (unhide HB) hgrow);clear hown' hgrow))
       go_roundg (s.size - (k + 1))
       case rel => exact ⟨k + 1,P ++ [p],v',by go_num,rfl,by omega,by omega,by simp;omega,HO2,HE2,HB2⟩
       case measure => omega
      ·have hkz:((k:Int) == (i:Int) + 2)=false:=by rw [beq_eq_false_iff_ne];omega
       have hkb:((k:Int) == (i:Int) + 1)=false:=by rw [beq_eq_false_iff_ne];omega
       clear e94 ek h2k hkn
       go_wp2_with (first | (go_at_call 179;refine (unhide HC1).mono ?_;rintro e w1 ⟨rfl,hw1⟩;obtain rfl:=hw1.symm) | (at_builtin;refine wpList_append_own _ rfl _ _ 224 rfl w.heap.size 252 i0 (.agg #[.string ByteArray.empty]) 1 16 Tryz.underlying224 hi hz0 hz1 hz2 rfl (by decide) _ _ _ rfl ((unhide HR).alloc _) ⟨wr.heap.size,0,none⟩ 1 1 [.string (str p)] rfl rfl (one_new _ _ _) (fun x hx => by simp at hx;subst hx;rfl) (by unfold maxLen;omega) (by omega) (by have:=(unhide HB).size;simp;omega) ?_;intro v' w2 hown' hgrow hnil;clear hnil;have HO2:=hide (unhide HSN _ _ _ _ hown');have HB2:=hide (ref_push (unhide HR) (unhide HB) hgrow);clear hown' hgrow))
       go_roundg (s.size - (k + 1))
       case rel => exact ⟨k + 1,P ++ [p],v',by go_num,rfl,by omega,by omega,by simp;omega,HO2,HE2,HB2⟩
       case measure => omega
   ·obtain ⟨e2,hex⟩:=piece_plain s i hlt hc
    have HE2:=hide (unhide HSTEP P i (i + 1) _ e2 (unhide HE))
    have hcz:¬ (s[i].toNat:Int)=91:=ne_int hc
    have HC1:=hide trivial
    clear e2 hc
    generalize hp:[s[i]]=p at *
    clear hp
    go_wp2_with (first | (at_builtin;refine wpList_append_own _ rfl _ _ 224 rfl w.heap.size 252 i0 (.agg #[.string ByteArray.empty]) 1 16 Tryz.underlying224 hi hz0 hz1 hz2 rfl (by decide) _ _ _ rfl ((unhide HR).alloc _) ⟨wr.heap.size,0,none⟩ 1 1 [.string (str p)] rfl rfl (one_new _ _ _) (fun x hx => by simp at hx;subst hx;rfl) (by unfold maxLen;omega) (by omega) (by have:=(unhide HB).size;simp;omega) ?_;intro v' w2 hown' hgrow hnil;clear hnil;have HO2:=hide (unhide HSN _ _ _ _ hown');have HB2:=hide (ref_push (unhide HR) (unhide HB) hgrow);clear hown' hgrow))
    go_roundg (s.size - (i + 1))
    case rel => exact ⟨i + 1,P ++ [p],v',by go_num,rfl,by omega,by omega,by simp;omega,HO2,HE2,HB2⟩
    case measure => omega
  ·have hltz:¬ (i:Int) < (s.size:Int):=by omega
   have HP:=hide (unhide HDONE P i (by omega) (unhide HE))
   obtain ⟨a,cap,rfl⟩:∃ a cap,v=.slice a P.length cap:=by
    obtain ⟨_,⟨e,e2⟩ | ⟨g,cap,cur,e,_⟩⟩:=unhide HR
    ·exact ⟨none,0,by rw [e,e2]⟩
    ·exact ⟨_,cap,e⟩
   by_cases h16:16 < P.length
   ·have HRD:=hide (unhide HMANY P (unhide HP) h16)
    have h16z:(16:Int) < (P.length:Int):=by omega
    go_wp2
    go_ret2
    exact ⟨_,by rw [unhide HRD];rfl,by rw [unhide HRD];exact refP_nil _ _,unhide HB⟩
   ·have HRD:=hide (unhide HFEW P (unhide HP) (by omega))
    have h16z:¬ (16:Int) < (P.length:Int):=by omega
    go_wp2
    go_ret2
    exact ⟨_,by rw [unhide HRD];rfl,by rw [unhide HRD];exact unhide HR,unhide HB⟩

theorem refRead_any (s:ByteArray) (w:World) :
  Calls Tryz.prog 153 #[.string s] w fun e w' => ∃ v,e=.returned (.tuple #[v,.int .i64 ((rd s.data.toList).2:Nat)])∧RefP w.heap.size w' v (rd s.data.toList).1∧Below w.heap.size w w':=by
 have hsl:s.data.toList.length=s.size:=by simp
 by_cases h1:s.data.toList=[]∨512 < s.data.toList.length
 ·rw [rd_none h1]
  refine (refRead_none s w h1).mono ?_
  rintro e w' ⟨rfl,rfl⟩
  exact ⟨_,rfl,refP_nil _ _,Below.refl _ _⟩
 ·by_cases h2:s.data.toList=[46]
  ·have e:s=⟨#[46]⟩:=by rw [← str_self s,h2];rfl
   subst e
   refine (refRead_dot w).mono ?_
   rintro e w' ⟨rfl,rfl⟩
   exact ⟨_,rfl,refP_nil _ _,Below.refl _ _⟩
  ·exact refRead_loop s w (fun e => h1 (.inl e)) (by have:¬ 512 < s.data.toList.length:=fun e => h1 (.inr e);omega) h2
theorem con_step (s:ByteArray) (k:Nat) (b:UInt8) (h:k < s.size):(s.data.toList.drop k).contains b=((s[k] == b) || (s.data.toList.drop (k + 1)).contains b):=by
 rw [drop_cons s k h,Bool.eq_iff_iff,con_iff,List.mem_cons,Bool.or_eq_true,beq_iff_eq,con_iff]
 exact ⟨fun e => e.imp Eq.symm id,fun e => e.imp Eq.symm id⟩
theorem con_end (s:ByteArray) (k:Nat) (b:UInt8) (h:s.size≤k):(s.data.toList.drop k).contains b=false:=by
 rw [List.drop_of_length_le (by simpa using h)]
 rfl

theorem listed_any (s:ByteArray) (b:UInt8) (w:World) (hs:s.size≤maxLen) :
  Calls Tryz.prog 209 #[.string s,.int .u8 (b.toNat:Int)] w fun e w' => e=.returned (.bool (s.data.toList.contains b))∧w'=w:=by
 unfold maxLen at hs
 have HST:=hide (fun k h => con_step s k b h)
 have HEN:=hide (fun k h => con_end s k b h)
 have HZ:Hid ((s.data.toList.drop 0).contains b=s.data.toList.contains b):=hide (by rw [List.drop_zero])
 generalize s.data.toList.contains b=RES at *
 go_enter Tryz.func209,Tryz.ntmps209
 go_wp2
 go_loop [5] (fun n => ∃ k:Nat,k≤s.size∧n=.int .i64 k∧Hid ((s.data.toList.drop k).contains b=RES)) (fun n => s.size - (intOf n).toNat)
 case atStart => exact ⟨0,by omega,rfl,HZ⟩
 case round =>
  obtain ⟨k,hk,rfl,HK⟩:=hrel
  by_cases hlt:k < s.size
  ·have HS:=hide (unhide HST k hlt)
   by_cases hc:s[k]=b
   ·have hcz:((s[k].toNat:Int) == (b.toNat:Int))=true:=by rw [hc,beq_iff_eq]
    have HR:Hid (RES=true):=hide (by rw [← unhide HK,unhide HS,hc];simp)
    clear hc HZ HST HEN HK HS
    go_wp2
    go_ret
    exact ⟨ret_bool (unhide HR).symm,rfl⟩
   ·have hcz:((s[k].toNat:Int) == (b.toNat:Int))=false:=by rw [beq_eq_false_iff_ne];exact ne_int hc
    have HK2:Hid ((s.data.toList.drop (k + 1)).contains b=RES):=hide (by rw [← unhide HK,unhide HS];simp [hc])
    clear hc HZ HST HEN HS
    go_wp2
    go_round
    case rel => exact ⟨k + 1,by omega,by go_num,HK2⟩
    case measure => simp [intOf];omega
  ·have HR:Hid (RES=false):=hide (by rw [← unhide HK,unhide HEN k (by omega)])
   clear HZ HST HEN HK
   go_wp2
   go_ret
   exact ⟨ret_bool (unhide HR).symm,rfl⟩

theorem refAdmits_one (c b:UInt8) (w:World) :
  Calls Tryz.prog 196 #[.agg #[.string (str [c])],.int .u8 (b.toNat:Int)] w fun e w' => e=.returned (.bool (adm [c] b))∧w'=w.alloc (.cells #[.string (str [c])] 252):=by
 have e0:str [c]=⟨#[c]⟩:=rfl
 by_cases h:c=46
 ·subst h
  rw [adm_dot]
  go_enter Tryz.func196,Tryz.ntmps196
  go_wp2
  go_ret
  exact ⟨rfl,rfl⟩
 ·rw [adm_one h]
  have hc:(c == 46)=false:=by simp [h]
  have HR:Hid (((c.toNat:Int) == (b.toNat:Int))=(c == b)):=hide (by
   rw [Bool.eq_iff_iff,beq_iff_eq,beq_iff_eq]
   exact ⟨fun e => UInt8.toNat_inj.1 (by omega),fun e => by rw [e]⟩)
  generalize (c == b)=RES at *
  go_enter Tryz.func196,Tryz.ntmps196
  go_wp2
  go_ret
  exact ⟨ret_bool (unhide HR),rfl⟩
theorem ext_mid (p q r:List UInt8):(str (p ++ q ++ r)).extract p.length ((str (p ++ q ++ r)).size - r.length)=str q:=by
 rw [extract_str,str_list,str_size,List.append_assoc,List.drop_left]
 congr 1
 have:(p ++ (q ++ r)).length - r.length - p.length=q.length:=by simp;omega
 rw [this,List.take_left]
theorem refAdmits_out (l:List UInt8) (b:UInt8) (w:World) (hl:l.length≤512) :
  Calls Tryz.prog 196 #[.agg #[.string (str (91 :: 94 :: (l ++ [93])))],.int .u8 (b.toNat:Int)] w fun e w' => e=.returned (.bool (adm (91 :: 94 :: (l ++ [93])) b))∧w'=w.alloc (.cells #[.string (str (91 :: 94 :: (l ++ [93])))] 252):=by
 have HL:Hid (∀ W,Calls Tryz.prog 209 #[.string (str l),.int .u8 (b.toNat:Int)] W fun e w' => e=.returned (.bool (l.contains b))∧w'=W):=fun W => by
  have:=listed_any (str l) b W (by rw [str_size];unfold maxLen;omega)
  rw [str_list] at this
  exact this
 rw [adm_out]
 have hex:(str (91 :: 94 :: (l ++ [93]))).extract 2 ((str (91 :: 94 :: (l ++ [93]))).size - 1)=str l:=ext_mid [91,94] l [93]
 have hsz:(str (91 :: 94 :: (l ++ [93]))).size=l.length + 3:=by rw [str_size];simp
 have h1:1 < (str (91 :: 94 :: (l ++ [93]))).size:=by omega
 have h94:(str (91 :: 94 :: (l ++ [93])))[1]=94:=rfl
 have hlo:3≤(str (91 :: 94 :: (l ++ [93]))).size:=by omega
 have hhi:(str (91 :: 94 :: (l ++ [93]))).size≤1000:=by omega
 generalize l.contains b=RES at *
 generalize str l=L at *
 generalize str (91 :: 94 :: (l ++ [93]))=T at *
 clear hsz
 go_enter Tryz.func196,Tryz.ntmps196
 go_wp2_with (go_at_call 209;refine (unhide HL _).mono ?_;rintro e w1 ⟨rfl,rfl⟩)
 go_ret
 exact ⟨rfl,rfl⟩
theorem refAdmits_in (c:UInt8) (l:List UInt8) (b:UInt8) (w:World) (hl:l.length≤512) (hc:c≠94) :
  Calls Tryz.prog 196 #[.agg #[.string (str (91 :: c :: (l ++ [93])))],.int .u8 (b.toNat:Int)] w fun e w' => e=.returned (.bool (adm (91 :: c :: (l ++ [93])) b))∧w'=w.alloc (.cells #[.string (str (91 :: c :: (l ++ [93])))] 252):=by
 have HL:Hid (∀ W,Calls Tryz.prog 209 #[.string (str (c :: l)),.int .u8 (b.toNat:Int)] W fun e w' => e=.returned (.bool ((c :: l).contains b))∧w'=W):=fun W => by
  have:=listed_any (str (c :: l)) b W (by rw [str_size];unfold maxLen;simp;omega)
  rw [str_list] at this
  exact this
 rw [adm_in hc]
 have hex:(str (91 :: c :: (l ++ [93]))).extract 1 ((str (91 :: c :: (l ++ [93]))).size - 1)=str (c :: l):=ext_mid [91] (c :: l) [93]
 have hsz:(str (91 :: c :: (l ++ [93]))).size=l.length + 3:=by rw [str_size];simp
 have h1:1 < (str (91 :: c :: (l ++ [93]))).size:=by omega
 have hc1:(str (91 :: c :: (l ++ [93])))[1]=c:=rfl
 have hcz:((c.toNat:Int) == 94)=false:=by rw [beq_eq_false_iff_ne];exact ne_int hc
 have hlo:3≤(str (91 :: c :: (l ++ [93]))).size:=by omega
 have hhi:(str (91 :: c :: (l ++ [93]))).size≤1000:=by omega
 generalize (c :: l).contains b=RES at *
 generalize str (c :: l)=L at *
 generalize str (91 :: c :: (l ++ [93]))=T at *
 clear hsz hc
 go_enter Tryz.func196,Tryz.ntmps196
 go_wp2_with (go_at_call 209;refine (unhide HL _).mono ?_;rintro e w1 ⟨rfl,rfl⟩)
 go_ret
 exact ⟨rfl,rfl⟩
def Pcs (p:List UInt8):Prop:=Pc p∧p.length≤512
theorem refAdmits_any (p:List UInt8) (b:UInt8) (w:World) (hp:Pcs p) :
  Calls Tryz.prog 196 #[.agg #[.string (str p)],.int .u8 (b.toNat:Int)] w fun e w' => e=.returned (.bool (adm p b))∧w'=w.alloc (.cells #[.string (str p)] 252):=by
 obtain ⟨hp,hl⟩:=hp
 rcases pc_cases hp with rfl | ⟨c,hc1,hc2,rfl⟩ | ⟨l,h1,h2,rfl⟩ | ⟨c,l,hc,h3,rfl⟩
 ·exact refAdmits_one 46 b w
 ·exact refAdmits_one c b w
 ·exact refAdmits_out l b w (by simp at hl;omega)
 ·exact refAdmits_in c l b w (by simp at hl;omega) hc
theorem flat_mem {P:List (List UInt8)} {p:List UInt8} (h:p ∈ P):p.length≤P.flatten.length:=by
 induction P with
 | nil => simp at h
 | cons q t ih =>
  rw [List.flatten_cons,List.length_append]
  rcases List.mem_cons.1 h with rfl | h
  ·omega
  ·have:=ih h;omega
theorem rd_pcs (l:List UInt8):∀ p ∈ (rd l).1,Pcs p:=by
 intro p hp
 refine ⟨rd_pc l p hp,?_⟩
 rcases rd_cases l with e | ⟨_,h2,_,h4,_,_⟩
 ·rw [e] at hp;simp at hp
 ·have:=flat_mem hp
  rw [(pcs_pcs h4).2] at this
  omega
def TextsAt (W:World) (v:Value) (P:List (List UInt8)):Prop :=
 (v=.slice none 0 0∧P=[])∨∃ g cap,v=.slice (some ⟨g,0,none⟩) P.length cap∧g < W.heap.size∧∀ j p,P[j]?=some p→W.cell? ⟨g,j,none⟩=some (.string (str p))
theorem TextsAt.below {W W':World} {v:Value} {P:List (List UInt8)} (h:TextsAt W v P) (hb:Below W.heap.size W W'):TextsAt W' v P:=by
 rcases h with h | ⟨g,cap,h1,h2,h3⟩
 ·exact .inl h
 ·exact .inr ⟨g,cap,h1,Nat.lt_of_lt_of_le h2 hb.size,fun j u hu => (hb.cell (p:=⟨g,j,none⟩) h2).trans (h3 j u hu)⟩
theorem RefP.at {n:Nat} {W:World} {v:Value} {P:List (List UInt8)} (h:RefP n W v P):TextsAt W v P:=by
 obtain ⟨h0,⟨h1,h2⟩ | ⟨g,cap,cur,h1,h2,h3,h4,h5,h6,h7⟩⟩:=h
 ·left
  exact ⟨h1,List.eq_nil_of_length_eq_zero h2⟩
 ·right
  refine ⟨g,cap,h1,(Array.getElem?_eq_some_iff.1 h3).1,fun j p hp => ?_⟩
  have hj:j < P.length:=(List.getElem?_eq_some_iff.1 hp).1
  have hu:(txt P)[j]?=some (.string (str p)):=by simp [txt,hp]
  rw [← h7,List.getElem?_take,if_pos (by omega)] at hu
  rw [cell_of_row W g j cur _ _ h3]
  simpa using hu

def rdP (l:List UInt8):List (UInt8→Bool):=(rd l).1.map adm
theorem rdP_len (l:List UInt8):(rdP l).length≤16:=by rw [rdP,List.length_map];exact rd_len l
attribute [local go_sem ↓] load_as
attribute [local go_sem] ldP_new ldP_drew
theorem keep_pat {W W':World} {g:Nat} {X:Array Value} {t:TypeId} (h:W.heap[g]?=some (.cells X t (0,0))) (hb:Below W.heap.size W W'):W'.heap[g]?=some (.cells X t (0,0)):=(hb.block g (Array.getElem?_eq_some_iff.1 h).1).trans h
theorem store_new (W:World) (X:Array Value) (hX:Sz65 X) (h1:X.all (·.oneCell')=true):(storeCells ⟨W.heap.size,0,none⟩ X.toList 0).run Tryz.prog (W.alloc (.cells (patC []) 248))=.ok () (W.alloc (.cells X 248)):=by
 have:=store_pat _ _ _ _ _ (heap_alloc_last W (.cells (patC []) 248)) (patC_size [] (by decide)) hX h1
 rw [setRow_last] at this
 exact this
theorem sz_pat (l:List UInt8):Sz65 (patC (rdP l)):=patC_size _ (rdP_len l)
end Pt
namespace Pt
open Cd

def byts (l:List UInt8):List Value:=l.map fun b => Value.int .u8 (b.toNat:Int)
theorem byts_snoc (l:List UInt8) (c:UInt8):byts l ++ [.int .u8 (c.toNat:Int)]=byts (l ++ [c]):=by simp [byts]
theorem infoB:(Tryz.prog.info? 5).map (fun i => (i.zero,i.size,i.bytes))=some (some (.int .u8 0),1,1):=by kernel_rfl
def Own (n:Nat) (W:World) (v:Value) (L:List UInt8):Prop:=W.ownsRow n 5 1 v L.length (byts L)
theorem own_push {W:World} {B:Nat} {v:Value} {L:List UInt8} {c:UInt8} {x:Int} (hx:(c.toNat:Int)=x) (h:W.ownsRow B 5 1 v (L.length + 1) (byts L ++ [.int .u8 x])):Own B W v (L ++ [c]):=by
 rw [← hx,byts_snoc] at h
 unfold Own
 rw [List.length_append]
 exact h
theorem own_nil (n:Nat) (W:World):Own n W (.slice none 0 0) []:=World.ownsRow_nil _ _ _ _
theorem own_made (w:World):Own w.heap.size (w.alloc (.cells #[] 5)) (.slice (some ⟨w.heap.size,0,none⟩) 0 0) []:=World.ownsRow_made w #[] 0 (Nat.le_refl _) (by simp) rfl
theorem own_cells {w:World} {B:Nat} {v:Value} {L:List UInt8} (h:Own B w v L) (h0:0 < L.length) :
  ∃ g cap,v=.slice (some ⟨g,0,none⟩) L.length cap∧g < w.heap.size∧∀ j x,L[j]?=some x→w.cell? ⟨g,j,none⟩=some (.int .u8 (x.toNat:Int)):=by
 have hc:w.ownsRow B 5 1 v L.length (byts L):=h
 obtain ⟨hl,⟨rfl,h1⟩ | ⟨g,cap,cur,rfl,hg,hh,hc1,hm,hsz,htk⟩⟩:=h
 ·omega
 ·refine ⟨g,cap,rfl,(Array.getElem?_eq_some_iff.1 hh).1,fun j x hj => ?_⟩
  have:=hc.cells (g:=g) rfl j (.int .u8 (x.toNat:Int)) (by simp [byts,hj])
  rwa [add_off] at this
theorem own_slice {w:World} {B:Nat} {v:Value} {L:List UInt8} (h:Own B w v L):∃ a cap,v=.slice a L.length cap:=by
 obtain ⟨_,⟨e,e2⟩ | ⟨g,cap,cur,e,_⟩⟩:=h
 ·exact ⟨none,0,by rw [e,e2]⟩
 ·exact ⟨_,cap,e⟩
theorem conv_own {w:World} {B:Nat} {v:Value} {L:List UInt8} (h:Own B w v L):(convert 134 9 v).run Tryz.prog w=.ok (.string (str L)) w:=by
 by_cases h0:0 < L.length
 ·obtain ⟨g,cap,rfl,_,hcell⟩:=own_cells h h0
  exact run_convert_bytes_back w 134 9 5 ⟨g,0,none⟩ cap L Tryz.underlying134 Tryz.underlying5 Tryz.underlying9 (fun j hj => by rw [add_off];exact hcell j _ (List.getElem?_eq_getElem hj))
 ·have:L=[]:=List.eq_nil_of_length_eq_zero (by omega)
  subst this
  obtain ⟨hl,⟨rfl,h1⟩ | ⟨g,cap,cur,rfl,hg,hh,hc1,hm,hsz,htk⟩⟩:=h
  ·exact run_convert_bytes_nil w 134 5 Tryz.underlying134 Tryz.underlying5 0 0 9 Tryz.underlying9
  ·exact run_convert_bytes_back w 134 9 5 ⟨g,0,none⟩ cap [] Tryz.underlying134 Tryz.underlying5 Tryz.underlying9 (fun j hj => absurd hj (by simp))
theorem Own.below {n:Nat} {W W':World} {v:Value} {L:List UInt8} (h:Own n W v L) (hb:Below W.heap.size W W'):Own n W' v L:=owns_below h hb
def lsoK (f:UInt8→Bool) (k:Nat):List UInt8:=((List.range k).map bt).filter f
theorem lsoK_yes {f:UInt8→Bool} {k:Nat} (h:f (bt k)=true):lsoK f (k + 1)=lsoK f k ++ [bt k]:=by
 simp [lsoK,List.range_succ,h]
theorem lsoK_no {f:UInt8→Bool} {k:Nat} (h:f (bt k)=false):lsoK f (k + 1)=lsoK f k:=by
 simp [lsoK,List.range_succ,h]
theorem lsoK_len (f:UInt8→Bool) (k:Nat):(lsoK f k).length≤k:=by
 have:=List.length_filter_le f ((List.range k).map bt)
 simp at this
 exact this
theorem lsoK_full (f:UInt8→Bool) {k:Nat} (h:k=256):lsoK f k=lso f:=by rw [h];rfl
theorem btz {k:Nat} (h:k < 256):((bt k).toNat:Int)=(k:Int):=by rw [bt_toNat];omega
theorem u8wrap {k:Nat} (h:k < 256):IntKind.u8.wrap (k:Int)=(k:Int):=by rw [IntKind.wrap_u8];omega

theorem list_any (f:UInt8→Bool) (w:World) :
  Calls Tryz.prog 207 #[.agg (itC f)] w fun e w' => e=.returned (.string (str (lso f)))∧Below w.heap.size w w':=by
 obtain ⟨i0,hi,hz0,hz1,hz2⟩:=info_parts infoB
 have HH:Hid (∀ k W,k < 256→Calls Tryz.prog 208 #[.agg (itC f),.int .u8 (k:Nat)] W fun e w' => e=.returned (.bool (f (bt k)))∧w'=W.alloc (.cells (itC f) 245)):=fun k W hk => by
  have:=has_any f (bt k) W
  rw [btz hk] at this
  exact this
 obtain ⟨x0,x1,x2,x3,hC⟩:=cells_four f
 rw [hC] at HH ⊢
 clear hC
 go_enter Tryz.func207,Tryz.ntmps207
 go_wp2
 go_loopw [3,5] (fun s3 s5 wr => ∃ (k:Nat) (v:Value),v=s3∧s5=.int .i64 k∧k≤256∧Hid (Own (w.heap.size + 1) wr v (lsoK f k))∧Hid (wr.heap[w.heap.size]?=some (.cells #[.int .u64 x0,.int .u64 x1,.int .u64 x2,.int .u64 x3] 245 (0,0)))∧Hid (Below w.heap.size w wr)) (fun _ i _ => 256 - (intOf i).toNat)
 case atStart => exact ⟨0,_,rfl,rfl,by omega,own_nil _ _,heap_alloc_last w _,(Below.refl _ w).alloc (Nat.le_refl _) _⟩
 case round =>
  obtain ⟨k,v,rfl,rfl,hk,HO,HG,HB⟩:=hrel
  by_cases hlt:k < 256
  ·have hltz:(k:Int) < 256:=by omega
   have hwr:=u8wrap hlt
   have hc0:=cell_of_row wr _ 0 _ _ _ (unhide HG)
   have hc1:=cell_of_row wr _ 1 _ _ _ (unhide HG)
   have hc2:=cell_of_row wr _ 2 _ _ _ (unhide HG)
   have hc3:=cell_of_row wr _ 3 _ _ _ (unhide HG)
   have HLT:Hid (w.heap.size + 1≤wr.heap.size):=(Array.getElem?_eq_some_iff.1 (unhide HG)).1
   have HH2:=hide (fun W => unhide HH k W hlt)
   have hln:=lsoK_len f k
   cases hf:f (bt k) with
   | true =>
    have HY:=hide (lsoK_yes hf)
    rw [hf] at HH2
    clear hf
    generalize lsoK f k=acc at *
    go_wp2_with (first
     | (go_at_call 208;refine (unhide HH2 _).mono ?_;rintro e W1 ⟨rfl,rfl⟩)
     | (at_builtin;refine wpList_append_own _ rfl _ _ 134 rfl (w.heap.size + 1) 5 i0 (.int .u8 0) 1 1 Tryz.underlying134 hi hz0 hz1 hz2 rfl (by decide) _ _ _ rfl (((unhide HO).alloc _).alloc _) ⟨wr.heap.size + 1,0,none⟩ 1 1 [.int .u8 (k:Int)] rfl rfl (new_cells2 _ _ #[.int .u8 (k:Int)] _) (by simp [Value.oneCell']) (by unfold maxLen;omega) (by omega) (by have h1:=unhide HLT;simp;omega) ?_;intro v' w2 hown' hgrow hnil;clear hnil;have HO2:=hide (own_push (btz hlt) hown');have HB2:=hide (push_below (unhide HLT) (Below.refl _ _) (unhide HO) hgrow);clear hown' hgrow))
    go_roundw
    case rel => exact ⟨k + 1,v',rfl,by go_num,by omega,by rw [unhide HY];exact HO2,hide (((unhide HB2).block w.heap.size (by omega)).trans (unhide HG)),(unhide HB).trans ((unhide HB2).mono (by omega))⟩
    case measure => simp [intOf];omega
   | false =>
    have HY:=hide (lsoK_no hf)
    rw [hf] at HH2
    clear hf
    generalize lsoK f k=acc at *
    go_wp2_with (go_at_call 208;refine (unhide HH2 _).mono ?_;rintro e W1 ⟨rfl,rfl⟩)
    go_roundw
    case rel => exact ⟨k + 1,v,rfl,by go_num,by omega,by rw [unhide HY];exact (unhide HO).alloc _,hide (heap_two (unhide HG)),(unhide HB).alloc (unhide HB).size _⟩
    case measure => simp [intOf];omega
  ·have hltz:¬ (k:Int) < 256:=by omega
   have HF:=hide (lsoK_full f (k:=k) (by omega))
   generalize lsoK f k=acc at *
   have hcv:=conv_own (unhide HO)
   go_wp2
   go_ret
   exact ⟨by rw [← unhide HF];rfl,unhide HB⟩

theorem str_app (a b:List UInt8):str a ++ str b=str (a ++ b):=by
 apply ByteArray.ext
 apply Array.toList_inj.1
 simp [str]
theorem lso_len (f:UInt8→Bool):(lso f).length≤256:=by have:=List.length_filter_le f every;rw [every_len] at this;exact this
theorem beq_one (L:List UInt8) (c:UInt8):((str L).toList == [c])=decide (L=[c]):=by
 rw [ByteArray.toList_eq,str_list,Bool.eq_iff_iff,beq_iff_eq,decide_eq_true_eq]
theorem tw_hat {f:UInt8→Bool} (h:f 94=true):(lso f).takeWhile (· != 94) ++ ((lso f).dropWhile (· != 94)).tail=(lso f).filter (· != 94):=by
 have hm:=mem_lso.2 h
 have hnd:=lso_nodup f
 generalize lso f=L at *
 clear h
 induction L with
 | nil => simp at hm
 | cons a t ih =>
  rw [List.nodup_cons] at hnd
  rw [List.takeWhile_cons,List.dropWhile_cons,List.filter_cons]
  by_cases e:a=94
  ·subst e
   simp only [bne_self_eq_false,Bool.false_eq_true,if_false,List.nil_append,List.tail_cons]
   symm
   apply List.filter_eq_self.2
   intro x hx
   simp only [bne_iff_ne,ne_eq]
   rintro rfl
   exact hnd.1 hx
  ·have ea:(a != 94)=true:=by simpa using e
   rw [if_pos ea,if_pos ea,if_pos ea,List.cons_append,ih ((List.mem_cons.1 hm).resolve_left (fun h => e h.symm)) hnd.2]
theorem no_hat {f:UInt8→Bool} (h:f 94=false):(lso f).filter (· != 94)=lso f:=by
 apply List.filter_eq_self.2
 intro x hx
 simp only [bne_iff_ne,ne_eq]
 rintro rfl
 rw [mem_lso.1 hx] at h
 cases h
theorem add_run {a b:ByteArray} (h:a.size + b.size≤1048576):∀ W:World,(Op.stringOp .add a b).run Tryz.prog W=.ok (.string (a ++ b)) W:=fun W => run_string_add_sum _ _ _ (by omega)
theorem ret_str {a b:ByteArray} (h:a=b):Ending.returned (.string a)=.returned (.string b):=by rw [h]

theorem show_any (f:UInt8→Bool) (w:World) :
  Calls Tryz.prog 194 #[.agg (itC f)] w fun e w' => e=.returned (.string (str (shw f)))∧Below w.heap.size w w':=by
 have HL:=hide (fun W => list_any f W)
 have hlen:=lso_len f
 have hsz:=str_size (lso f)
 have hszi:(str (lso f)).size≤256:=by omega
 have hg:=heap_alloc_last w (.cells (itC f) 245)
 have hb46:=beq_one (lso f) 46
 have hb91:=beq_one (lso f) 91
 have HH:=hide (fun W => has_any f 93 W)
 have HO:=hide (fun W => others_any f W)
 have HL2:=hide (fun W => list_any (fun b => !f b) W)
 have HSH:Hid (shw f=if (lso f).length=256 then [46] else if lso f=[46] then [91,46,93] else if lso f=[91] then [91,91,93] else if (lso f).length=1 then lso f else if f 93=true then 91 :: 94 :: (lso (fun b => !f b) ++ [93]) else 91 :: (((lso f).filter (· != 94) ++ (if f 94=true then [94] else [])) ++ [93])):=rfl
 obtain ⟨x0,x1,x2,x3,hC⟩:=cells_four f
 rw [hC] at HL HH HO hg ⊢
 clear hC
 by_cases h256:(lso f).length=256
 ·have hz:((str (lso f)).size:Int)=256:=by omega
  have HR:Hid (str (shw f)=⟨#[46]⟩):=hide (by rw [unhide HSH,if_pos h256];rfl)
  clear hb46 hb91 HH HO HL2 HSH hsz h256
  generalize str (lso f)=T at *
  go_enter Tryz.func194,Tryz.ntmps194
  go_wp2_with fail
  refine (unhide HL _).mono ?_
  rintro e w1 ⟨rfl,hb1⟩
  have HB1:=hide (((Below.refl _ w).alloc (Nat.le_refl _) (.cells #[.int .u64 x0,.int .u64 x1,.int .u64 x2,.int .u64 x3] 245)).trans (hb1.mono (by simp)))
  clear hb1
  go_wp2
  go_ret
  exact ⟨ret_str (unhide HR).symm,unhide HB1⟩
 ·have hz:¬ ((str (lso f)).size:Int)=256:=by omega
  by_cases h46:lso f=[46]
  ·rw [decide_eq_true h46] at hb46
   have HR:Hid (str (shw f)=str (91 :: (lso f ++ [93]))):=hide (by rw [unhide HSH,if_neg h256,if_pos h46,h46];rfl)
   have ha1:=add_run (a:=⟨#[91]⟩) (b:=str (lso f)) (by have:(ByteArray.mk #[91]).size=1:=rfl;omega)
   have ha2:=add_run (a:=⟨#[91]⟩ ++ str (lso f)) (b:=⟨#[93]⟩) (by rw [ByteArray.size_append];have:(ByteArray.mk #[91]).size=1:=rfl;have:(ByteArray.mk #[93]).size=1:=rfl;omega)
   have HX:Hid ((⟨#[91]⟩ ++ str (lso f) ++ ⟨#[93]⟩:ByteArray)=str (91 :: (lso f ++ [93]))):=hide (by rw [show (⟨#[91]⟩:ByteArray)=str [91] from rfl,show (⟨#[93]⟩:ByteArray)=str [93] from rfl,str_app,str_app];rfl)
   clear hb91 HH HO HL2 HSH hsz h256 h46
   generalize ⟨#[91]⟩ ++ str (lso f) ++ ⟨#[93]⟩=A2 at *
   generalize ⟨#[91]⟩ ++ str (lso f)=A1 at *
   generalize str (lso f)=T at *
   go_enter Tryz.func194,Tryz.ntmps194
   go_wp2_with fail
   refine (unhide HL _).mono ?_
   rintro e w1 ⟨rfl,hb1⟩
   have HB1:=hide (((Below.refl _ w).alloc (Nat.le_refl _) (.cells #[.int .u64 x0,.int .u64 x1,.int .u64 x2,.int .u64 x3] 245)).trans (hb1.mono (by simp)))
   have hg1:=keep_pat hg hb1
   have hc0:=cell_of_row w1 _ 0 _ _ _ hg1
   have hc1:=cell_of_row w1 _ 1 _ _ _ hg1
   have hc2:=cell_of_row w1 _ 2 _ _ _ hg1
   have hc3:=cell_of_row w1 _ 3 _ _ _ hg1
   have hsw:w.heap.size < w1.heap.size:=(Array.getElem?_eq_some_iff.1 hg1).1
   have HG1:=hide hg1
   clear hb1 hg1
   go_wp2
   go_ret
   exact ⟨ret_str ((unhide HX).trans (unhide HR).symm),unhide HB1⟩
  ·rw [decide_eq_false h46] at hb46
   by_cases h91:lso f=[91]
   ·rw [decide_eq_true h91] at hb91
    have HR:Hid (str (shw f)=str (91 :: (lso f ++ [93]))):=hide (by rw [unhide HSH,if_neg h256,if_neg h46,if_pos h91,h91];rfl)
    have ha1:=add_run (a:=⟨#[91]⟩) (b:=str (lso f)) (by have:(ByteArray.mk #[91]).size=1:=rfl;omega)
    have ha2:=add_run (a:=⟨#[91]⟩ ++ str (lso f)) (b:=⟨#[93]⟩) (by rw [ByteArray.size_append];have:(ByteArray.mk #[91]).size=1:=rfl;have:(ByteArray.mk #[93]).size=1:=rfl;omega)
    have HX:Hid ((⟨#[91]⟩ ++ str (lso f) ++ ⟨#[93]⟩:ByteArray)=str (91 :: (lso f ++ [93]))):=hide (by rw [show (⟨#[91]⟩:ByteArray)=str [91] from rfl,show (⟨#[93]⟩:ByteArray)=str [93] from rfl,str_app,str_app];rfl)
    clear HH HO HL2 HSH hsz h256 h46 h91
    generalize ⟨#[91]⟩ ++ str (lso f) ++ ⟨#[93]⟩=A2 at *
    generalize ⟨#[91]⟩ ++ str (lso f)=A1 at *
    generalize str (lso f)=T at *
    go_enter Tryz.func194,Tryz.ntmps194
    go_wp2_with fail
    refine (unhide HL _).mono ?_
    rintro e w1 ⟨rfl,hb1⟩
    have HB1:=hide (((Below.refl _ w).alloc (Nat.le_refl _) (.cells #[.int .u64 x0,.int .u64 x1,.int .u64 x2,.int .u64 x3] 245)).trans (hb1.mono (by simp)))
    have hg1:=keep_pat hg hb1
    have hc0:=cell_of_row w1 _ 0 _ _ _ hg1
    have hc1:=cell_of_row w1 _ 1 _ _ _ hg1
    have hc2:=cell_of_row w1 _ 2 _ _ _ hg1
    have hc3:=cell_of_row w1 _ 3 _ _ _ hg1
    have hsw:w.heap.size < w1.heap.size:=(Array.getElem?_eq_some_iff.1 hg1).1
    have HG1:=hide hg1
    clear hb1 hg1
    go_wp2
    go_ret
    exact ⟨ret_str ((unhide HX).trans (unhide HR).symm),unhide HB1⟩
   ·rw [decide_eq_false h91] at hb91
    by_cases hl1:(lso f).length=1
    ·have hz1:((str (lso f)).size:Int)=1:=by omega
     have HR:Hid (str (shw f)=str (lso f)):=hide (by rw [unhide HSH,if_neg h256,if_neg h46,if_neg h91,if_pos hl1])
     clear HH HO HL2 HSH hsz h256 h46 h91 hl1
     generalize str (lso f)=T at *
     go_enter Tryz.func194,Tryz.ntmps194
     go_wp2_with fail
     refine (unhide HL _).mono ?_
     rintro e w1 ⟨rfl,hb1⟩
     have HB1:=hide (((Below.refl _ w).alloc (Nat.le_refl _) (.cells #[.int .u64 x0,.int .u64 x1,.int .u64 x2,.int .u64 x3] 245)).trans (hb1.mono (by simp)))
     have hg1:=keep_pat hg hb1
     have hc0:=cell_of_row w1 _ 0 _ _ _ hg1
     have hc1:=cell_of_row w1 _ 1 _ _ _ hg1
     have hc2:=cell_of_row w1 _ 2 _ _ _ hg1
     have hc3:=cell_of_row w1 _ 3 _ _ _ hg1
     have hsw:w.heap.size < w1.heap.size:=(Array.getElem?_eq_some_iff.1 hg1).1
     have HG1:=hide hg1
     clear hb1 hg1
     go_wp2
     go_ret
     exact ⟨ret_str (unhide HR).symm,unhide HB1⟩
    ·have hz1:¬ ((str (lso f)).size:Int)=1:=by omega
     cases h93:f 93 with
     | true =>
      have HR:Hid (str (shw f)=str (91 :: 94 :: (lso (fun b => !f b) ++ [93]))):=hide (by rw [unhide HSH,if_neg h256,if_neg h46,if_neg h91,if_neg hl1,if_pos h93])
      have hl2:=lso_len (fun b => !f b)
      have hs2:=str_size (lso (fun b => !f b))
      have ha1:=add_run (a:=⟨#[91,94]⟩) (b:=str (lso (fun b => !f b))) (by have:(ByteArray.mk #[91,94]).size=2:=rfl;omega)
      have ha2:=add_run (a:=⟨#[91,94]⟩ ++ str (lso (fun b => !f b))) (b:=⟨#[93]⟩) (by rw [ByteArray.size_append];have:(ByteArray.mk #[91,94]).size=2:=rfl;have:(ByteArray.mk #[93]).size=1:=rfl;omega)
      have HX:Hid ((⟨#[91,94]⟩ ++ str (lso (fun b => !f b)) ++ ⟨#[93]⟩:ByteArray)=str (91 :: 94 :: (lso (fun b => !f b) ++ [93]))):=hide (by rw [show (⟨#[91,94]⟩:ByteArray)=str [91,94] from rfl,show (⟨#[93]⟩:ByteArray)=str [93] from rfl,str_app,str_app];rfl)
      rw [h93] at HH
      clear HSH hsz h256 h46 h91 hl1 h93 hl2 hs2
      generalize ⟨#[91,94]⟩ ++ str (lso (fun b => !f b)) ++ ⟨#[93]⟩=A2 at *
      generalize ⟨#[91,94]⟩ ++ str (lso (fun b => !f b))=A1 at *
      generalize str (lso (fun b => !f b))=T2 at *
      generalize str (lso f)=T at *
      generalize itC (fun b => !f b)=C2 at *
      go_enter Tryz.func194,Tryz.ntmps194
      go_wp2_with fail
      refine (unhide HL _).mono ?_
      rintro e w1 ⟨rfl,hb1⟩
      have HB1:=hide (((Below.refl _ w).alloc (Nat.le_refl _) (.cells #[.int .u64 x0,.int .u64 x1,.int .u64 x2,.int .u64 x3] 245)).trans (hb1.mono (by simp)))
      have hg1:=keep_pat hg hb1
      have hc0:=cell_of_row w1 _ 0 _ _ _ hg1
      have hc1:=cell_of_row w1 _ 1 _ _ _ hg1
      have hc2:=cell_of_row w1 _ 2 _ _ _ hg1
      have hc3:=cell_of_row w1 _ 3 _ _ _ hg1
      have hsw:w.heap.size < w1.heap.size:=(Array.getElem?_eq_some_iff.1 hg1).1
      have HG1:=hide hg1
      clear hb1 hg1
      go_wp2_with fail
      refine (unhide HH _).mono ?_
      rintro e w2 ⟨rfl,rfl⟩
      go_wp2_with fail
      refine (unhide HO _).mono ?_
      rintro e w3 ⟨rfl,rfl⟩
      go_wp2_with fail
      refine (unhide HL2 _).mono ?_
      rintro e w4 ⟨rfl,hb4⟩
      have HB4:Hid (Below w.heap.size w w4):=hide (by
       have b:=(((unhide HB1).alloc (unhide HB1).size (.cells #[.int .u64 x0,.int .u64 x1,.int .u64 x2,.int .u64 x3] 245)).alloc (by have:=(unhide HB1).size;simp;omega) (.cells C2 245)).alloc (by have:=(unhide HB1).size;simp;omega) (.cells C2 245)
       exact b.trans (hb4.mono b.size))
      clear hb4
      go_wp2
      go_ret
      exact ⟨ret_str ((unhide HX).trans (unhide HR).symm),unhide HB4⟩
     | false =>
      rw [h93] at HH
      cases h94:f 94 with
      | true =>
       have HR:Hid (str (shw f)=str (91 :: ((lso f).filter (· != 94) ++ [94] ++ [93]))):=hide (by rw [unhide HSH,if_neg h256,if_neg h46,if_neg h91,if_neg hl1,if_neg (by rw [h93];decide),if_pos h94])
       have HC:=hide (fun W => cut_yes (str (lso f)) 94 W (by unfold maxLen;omega) (by rw [str_list];exact mem_lso.2 h94))
       rw [str_list] at HC
       have htw:=tw_hat h94
       have hlt:((lso f).takeWhile (· != 94)).length + ((lso f).dropWhile (· != 94)).tail.length≤256:=by rw [← List.length_append,htw];have:=List.length_filter_le (· != 94) (lso f);omega
       have hs1:=str_size ((lso f).takeWhile (· != 94))
       have hs2:=str_size ((lso f).dropWhile (· != 94)).tail
       have ha1:=add_run (a:=⟨#[91]⟩) (b:=str ((lso f).takeWhile (· != 94))) (by have:(ByteArray.mk #[91]).size=1:=rfl;omega)
       have ha2:=add_run (a:=⟨#[91]⟩ ++ str ((lso f).takeWhile (· != 94))) (b:=str ((lso f).dropWhile (· != 94)).tail) (by rw [ByteArray.size_append];have:(ByteArray.mk #[91]).size=1:=rfl;omega)
       have ha3:=add_run (a:=⟨#[91]⟩ ++ str ((lso f).takeWhile (· != 94)) ++ str ((lso f).dropWhile (· != 94)).tail) (b:=⟨#[94,93]⟩) (by rw [ByteArray.size_append,ByteArray.size_append];have:(ByteArray.mk #[91]).size=1:=rfl;have:(ByteArray.mk #[94,93]).size=2:=rfl;omega)
       have HX:Hid ((⟨#[91]⟩ ++ str ((lso f).takeWhile (· != 94)) ++ str ((lso f).dropWhile (· != 94)).tail ++ ⟨#[94,93]⟩:ByteArray)=str (91 :: ((lso f).filter (· != 94) ++ [94] ++ [93]))):=hide (by rw [show (⟨#[91]⟩:ByteArray)=str [91] from rfl,show (⟨#[94,93]⟩:ByteArray)=str [94,93] from rfl,str_app,str_app,str_app,← htw];simp)
       clear HSH hsz h256 h46 h91 hl1 h93 h94 HO HL2 htw hlt hs1 hs2
       generalize ⟨#[91]⟩ ++ str ((lso f).takeWhile (· != 94)) ++ str ((lso f).dropWhile (· != 94)).tail ++ ⟨#[94,93]⟩=A3 at *
       generalize ⟨#[91]⟩ ++ str ((lso f).takeWhile (· != 94)) ++ str ((lso f).dropWhile (· != 94)).tail=A2 at *
       generalize ⟨#[91]⟩ ++ str ((lso f).takeWhile (· != 94))=A1 at *
       generalize str ((lso f).takeWhile (· != 94))=T1 at *
       generalize str ((lso f).dropWhile (· != 94)).tail=T2 at *
       generalize str (lso f)=T at *
       go_enter Tryz.func194,Tryz.ntmps194
       go_wp2_with fail
       refine (unhide HL _).mono ?_
       rintro e w1 ⟨rfl,hb1⟩
       have HB1:=hide (((Below.refl _ w).alloc (Nat.le_refl _) (.cells #[.int .u64 x0,.int .u64 x1,.int .u64 x2,.int .u64 x3] 245)).trans (hb1.mono (by simp)))
       have hg1:=keep_pat hg hb1
       have hc0:=cell_of_row w1 _ 0 _ _ _ hg1
       have hc1:=cell_of_row w1 _ 1 _ _ _ hg1
       have hc2:=cell_of_row w1 _ 2 _ _ _ hg1
       have hc3:=cell_of_row w1 _ 3 _ _ _ hg1
       clear hb1 hg1
       go_wp2_with fail
       refine (unhide HH _).mono ?_
       rintro e w2 ⟨rfl,rfl⟩
       go_wp2_with fail
       refine (unhide HC _).mono ?_
       rintro e w3 ⟨rfl,q3,rfl⟩
       have HB3:=hide (below_drewN ((unhide HB1).alloc (unhide HB1).size (.cells #[.int .u64 x0,.int .u64 x1,.int .u64 x2,.int .u64 x3] 245)) q3)
       go_wp2
       go_ret
       exact ⟨ret_str ((unhide HX).trans (unhide HR).symm),unhide HB3⟩
      | false =>
       have HR:Hid (str (shw f)=str (91 :: (lso f ++ [93]))):=hide (by rw [unhide HSH,if_neg h256,if_neg h46,if_neg h91,if_neg hl1,if_neg (by rw [h93];decide),if_neg (by rw [h94];decide),List.append_nil,no_hat h94])
       have HC:=hide (fun W => cut_no (str (lso f)) 94 W (by rw [str_list];intro hm;rw [mem_lso.1 hm] at h94;cases h94))
       have ha1:=add_run (a:=⟨#[91]⟩) (b:=str (lso f)) (by have:(ByteArray.mk #[91]).size=1:=rfl;omega)
       have ha2:=add_run (a:=⟨#[91]⟩ ++ str (lso f)) (b:=⟨#[93]⟩) (by rw [ByteArray.size_append];have:(ByteArray.mk #[91]).size=1:=rfl;have:(ByteArray.mk #[93]).size=1:=rfl;omega)
       have HX:Hid ((⟨#[91]⟩ ++ str (lso f) ++ ⟨#[93]⟩:ByteArray)=str (91 :: (lso f ++ [93]))):=hide (by rw [show (⟨#[91]⟩:ByteArray)=str [91] from rfl,show (⟨#[93]⟩:ByteArray)=str [93] from rfl,str_app,str_app];rfl)
       clear HSH hsz h256 h46 h91 hl1 h93 h94 HO HL2
       generalize ⟨#[91]⟩ ++ str (lso f) ++ ⟨#[93]⟩=A2 at *
       generalize ⟨#[91]⟩ ++ str (lso f)=A1 at *
       generalize str (lso f)=T at *
       go_enter Tryz.func194,Tryz.ntmps194
       go_wp2_with fail
       refine (unhide HL _).mono ?_
       rintro e w1 ⟨rfl,hb1⟩
       have HB1:=hide (((Below.refl _ w).alloc (Nat.le_refl _) (.cells #[.int .u64 x0,.int .u64 x1,.int .u64 x2,.int .u64 x3] 245)).trans (hb1.mono (by simp)))
       have hg1:=keep_pat hg hb1
       have hc0:=cell_of_row w1 _ 0 _ _ _ hg1
       have hc1:=cell_of_row w1 _ 1 _ _ _ hg1
       have hc2:=cell_of_row w1 _ 2 _ _ _ hg1
       have hc3:=cell_of_row w1 _ 3 _ _ _ hg1
       clear hb1 hg1
       go_wp2_with fail
       refine (unhide HH _).mono ?_
       rintro e w2 ⟨rfl,rfl⟩
       go_wp2_with fail
       refine (unhide HC _).mono ?_
       rintro e w3 ⟨rfl,q3,rfl⟩
       have HB3:=hide (below_drewN ((unhide HB1).alloc (unhide HB1).size (.cells #[.int .u64 x0,.int .u64 x1,.int .u64 x2,.int .u64 x3] 245)) q3)
       go_wp2
       go_ret
       exact ⟨ret_str ((unhide HX).trans (unhide HR).symm),unhide HB3⟩

theorem beq_yes (p:List UInt8):(fun b => adm p b == true)=adm p:=by funext b;cases adm p b <;> rfl
theorem beq_no (p:List UInt8):(fun b => adm p b == false)=fun b => !adm p b:=by funext b;cases adm p b <;> rfl
theorem admitted_any (p:List UInt8) (want:Bool) (w:World) (hp:Pcs p) :
  Calls Tryz.prog 195 #[.agg #[.string (str p)],.bool want] w fun e w' => ∃ v,e=.returned v∧Own w.heap.size w' v (lso (fun b => adm p b == want))∧Below w.heap.size w w':=by
 obtain ⟨i0,hi,hz0,hz1,hz2⟩:=info_parts infoB
 have HA:Hid (∀ k W,k < 256→Calls Tryz.prog 196 #[.agg #[.string (str p)],.int .u8 (k:Nat)] W fun e w' => e=.returned (.bool (adm p (bt k)))∧w'=W.alloc (.cells #[.string (str p)] 252)):=fun k W hk => by
  have:=refAdmits_any p (bt k) W hp
  rw [btz hk] at this
  exact this
 have HM:Hid (∀ (W:World) v L,Own (w.heap.size + 1) W v L→Own w.heap.size W v L):=fun W v L h => by
  obtain ⟨h0,h | ⟨g,cap,cur,h1,h2,h3⟩⟩:=h
  ·exact ⟨h0,.inl h⟩
  ·exact ⟨h0,.inr ⟨g,cap,cur,h1,by omega,h3⟩⟩
 have HKY:=hide (fun k h => lsoK_yes (f:=fun b => adm p b == want) (k:=k) h)
 have HKN:=hide (fun k h => lsoK_no (f:=fun b => adm p b == want) (k:=k) h)
 have HKL:=hide (fun k => lsoK_len (fun b => adm p b == want) k)
 have HKF:=hide (fun k h => lsoK_full (fun b => adm p b == want) (k:=k) h)
 generalize str p=T at *
 go_enter Tryz.func195,Tryz.ntmps195
 go_wp2
 go_loopw [5,6] (fun s5 s6 wr => ∃ (k:Nat) (v:Value),v=s5∧s6=.int .i64 k∧k≤256∧Hid (Own (w.heap.size + 1) wr v (lsoK (fun b => adm p b == want) k))∧Hid (wr.heap[w.heap.size]?=some (.cells #[.string T] 252 (0,0)))∧Hid (Below w.heap.size w wr)) (fun _ i _ => 256 - (intOf i).toNat)
 case atStart =>
  refine ⟨0,_,rfl,rfl,by omega,?_,heap_alloc2_old w _ _,((Below.refl _ w).alloc (Nat.le_refl _) _).alloc (by simp) _⟩
  have:=own_made (w.alloc (.cells #[.string T] 252))
  simp only [World.size_alloc] at this
  exact this
 case round =>
  obtain ⟨k,v,rfl,rfl,hk,HO,HG,HB⟩:=hrel
  by_cases hlt:k < 256
  ·have hltz:(k:Int) < 256:=by omega
   have hwr:=u8wrap hlt
   have hc0:=cell_of_row wr _ 0 _ _ _ (unhide HG)
   have HLT:Hid (w.heap.size + 1≤wr.heap.size):=(Array.getElem?_eq_some_iff.1 (unhide HG)).1
   have HH2:=hide (fun W => unhide HA k W hlt)
   have hln:=unhide HKL k
   cases hf:(adm p (bt k) == want) with
   | true =>
    have HY:=hide (unhide HKY k hf)
    generalize lsoK (fun b => adm p b == want) k=acc at *
    generalize adm p (bt k)=x at *
    go_wp2_with (first
     | (go_at_call 196;refine (unhide HH2 _).mono ?_;rintro e W1 ⟨rfl,rfl⟩)
     | (at_builtin;refine wpList_append_own _ rfl _ _ 134 rfl (w.heap.size + 1) 5 i0 (.int .u8 0) 1 1 Tryz.underlying134 hi hz0 hz1 hz2 rfl (by decide) _ _ _ rfl (((unhide HO).alloc _).alloc _) ⟨wr.heap.size + 1,0,none⟩ 1 1 [.int .u8 (k:Int)] rfl rfl (new_cells2 _ _ #[.int .u8 (k:Int)] _) (by simp [Value.oneCell']) (by unfold maxLen;omega) (by omega) (by have h1:=unhide HLT;simp;omega) ?_;intro v' w2 hown' hgrow hnil;clear hnil;have HO2:=hide (own_push (btz hlt) hown');have HB2:=hide (push_below (unhide HLT) (Below.refl _ _) (unhide HO) hgrow);clear hown' hgrow))
    go_roundw
    case rel => exact ⟨k + 1,v',rfl,by go_num,by omega,by rw [unhide HY];exact HO2,hide (((unhide HB2).block w.heap.size (by omega)).trans (unhide HG)),(unhide HB).trans ((unhide HB2).mono (by omega))⟩
    case measure => simp [intOf];omega
   | false =>
    have HY:=hide (unhide HKN k hf)
    generalize lsoK (fun b => adm p b == want) k=acc at *
    generalize adm p (bt k)=x at *
    go_wp2_with (go_at_call 196;refine (unhide HH2 _).mono ?_;rintro e W1 ⟨rfl,rfl⟩)
    go_roundw
    case rel => exact ⟨k + 1,v,rfl,by go_num,by omega,by rw [unhide HY];exact (unhide HO).alloc _,hide (heap_two (unhide HG)),(unhide HB).alloc (unhide HB).size _⟩
    case measure => simp [intOf];omega
  ·have hltz:¬ (k:Int) < 256:=by omega
   have HF:=hide (unhide HKF k (by omega))
   go_wp2
   go_ret
   exact ⟨_,rfl,by rw [← unhide HF];exact unhide HM _ _ _ (unhide HO),unhide HB⟩


theorem no_len (f:UInt8→Bool):(lso fun b => !f b).length=0↔(lso f).length=256:=by
 rw [lso_all]
 constructor
 ·intro h b
  have h0:=List.eq_nil_of_length_eq_zero h
  cases hf:f b with
  | true => rfl
  | false =>
   have:b ∈ lso (fun b => !f b):=mem_lso.2 (by simp [hf])
   rw [h0] at this
   simp at this
 ·intro h
  have:lso (fun b => !f b)=[]:=by
   apply List.eq_nil_iff_forall_not_mem.2
   intro b hb
   have:=mem_lso.1 hb
   rw [h b] at this
   cases this
  rw [this]
  rfl
def noHat (l:List UInt8):List UInt8:=l.filter (· != 94)
theorem noHat_step {l:List UInt8} {k:Nat} {c:UInt8} (h:l[k]?=some c):noHat (l.take (k + 1))=if c=94 then noHat (l.take k) else noHat (l.take k) ++ [c]:=by
 have hk:=(List.getElem?_eq_some_iff.1 h).1
 have hc:=(List.getElem?_eq_some_iff.1 h).2
 rw [List.take_succ_eq_append_getElem hk,hc]
 unfold noHat
 rw [List.filter_append]
 by_cases e:c=94
 ·rw [if_pos e,e];simp
 ·rw [if_neg e];simp [e]
def hatIn (l:List UInt8):Bool:=l.contains 94
theorem any_step {l:List UInt8} {k:Nat} {c:UInt8} (h:l[k]?=some c):hatIn (l.take (k + 1))=(hatIn (l.take k) || c == 94):=by
 unfold hatIn
 have hk:=(List.getElem?_eq_some_iff.1 h).1
 have hc:=(List.getElem?_eq_some_iff.1 h).2
 rw [List.take_succ_eq_append_getElem hk,hc,Bool.eq_iff_iff,Bool.or_eq_true,con_iff,con_iff,List.mem_append,List.mem_singleton,beq_iff_eq]
 exact ⟨fun h => h.imp id Eq.symm,fun h => h.imp id Eq.symm⟩
def cvB (v:Value):Sem Value:=convert 134 9 v
theorem cvB_as (v:Value):convert 134 9 v=cvB v:=rfl
theorem cvB_own {w:World} {B:Nat} {v:Value} {L:List UInt8} (h:Own B w v L):(cvB v).run Tryz.prog w=.ok (.string (str L)) w:=conv_own h
attribute [local go_sem ↓] cvB_as
theorem push_txt {B:Nat} {wr w2:World} {A:Obj} {v:Value} {e size n:Nat} {xs:List Value} (hB:B≤wr.heap.size) (ho:wr.ownsRow B e size v n xs) (hg:(wr.alloc A).grownBy w2 v.ownBlock):Below B wr w2 :=
 ((Below.refl B wr).alloc hB A).grown hg (by simp;omega) (fun k e => (ho.lt k e).1)
theorem shown_any (p:List UInt8) (w:World) (hp:Pcs p) :
  Calls Tryz.prog 180 #[.agg #[.string (str p)]] w fun e w' => e=.returned (.string (str (shw (adm p))))∧Below w.heap.size w w':=by
 obtain ⟨i0,hi,hz0,hz1,hz2⟩:=info_parts infoB
 have HY:=hide (fun W => admitted_any p true W hp)
 have HN:=hide (fun W => admitted_any p false W hp)
 have HA:=hide (fun W => refAdmits_any p 93 W hp)
 rw [beq_yes] at HY
 rw [beq_no] at HN
 have hnl:=no_len (adm p)
 have hly:=lso_len (adm p)
 have hln:=lso_len (fun b => !adm p b)
 generalize adm p=f at *
 have HSH:Hid (shw f=if (lso f).length=256 then [46] else if lso f=[46] then [91,46,93] else if lso f=[91] then [91,91,93] else if (lso f).length=1 then lso f else if f 93=true then 91 :: 94 :: (lso (fun b => !f b) ++ [93]) else 91 :: (((lso f).filter (· != 94) ++ (if f 94=true then [94] else [])) ++ [93])):=rfl
 have HHAT:Hid (hatIn (lso f)=f 94):=hide (by rw [hatIn,Bool.eq_iff_iff,con_iff,mem_lso])
 generalize hT:str p=T at *
 clear hT
 go_enter Tryz.func180,Tryz.ntmps180
 go_wp2_with fail
 refine (unhide HY _).mono ?_
 rintro e w1 ⟨v1,rfl,ho1,hb1⟩
 have HG1:=hide (keep_pat (heap_alloc_last w (.cells #[.string T] 252)) hb1)
 have hc1:=cell_of_row w1 _ 0 _ _ _ (unhide HG1)
 have HO1:=hide ho1
 have HB1:=hide (((Below.refl _ w).alloc (Nat.le_refl _) (.cells #[.string T] 252)).trans (hb1.mono (by simp)))
 clear ho1 hb1
 go_wp2_with fail
 refine (unhide HN _).mono ?_
 rintro e w2 ⟨v2,rfl,ho2,hb2⟩
 have HG2:=hide (keep_pat (unhide HG1) hb2)
 have HO12:=hide ((unhide HO1).below hb2)
 have HO2:=hide ho2
 have HB2:=hide ((unhide HB1).trans (hb2.mono (unhide HB1).size))
 clear ho2 hb2 hc1 HG1 HO1 HB1
 obtain ⟨a1,cap1,rfl⟩:=own_slice (unhide HO12)
 obtain ⟨a2,cap2,rfl⟩:=own_slice (unhide HO2)
 have hc1:=cell_of_row w2 _ 0 _ _ _ (unhide HG2)
 clear HY HN
 by_cases h256:(lso f).length=256
 ·have hq:((lso fun b => !f b).length:Int)=0:=by have:=hnl.2 h256;omega
  have HR:Hid (str (shw f)=⟨#[46]⟩):=hide (by rw [unhide HSH,if_pos h256];rfl)
  clear h256 hnl HSH
  generalize (lso fun b => !f b).length=n2 at *
  go_wp2
  go_ret
  exact ⟨ret_str (unhide HR).symm,unhide HB2⟩
 ·have hq:¬ ((lso fun b => !f b).length:Int)=0:=by
   intro e
   exact h256 (hnl.1 (by omega))
  have hqb:(((lso fun b => !f b).length:Int) == 0)=false:=by rw [beq_eq_false_iff_ne];exact hq
  clear hnl
  by_cases hl1:(lso f).length=1
  ·obtain ⟨c,hc⟩:=List.length_eq_one_iff.1 hl1
   obtain ⟨g,cp,hv,hg,hcell⟩:=own_cells (unhide HO12) (by omega)
   injection hv with e1 _ e3
   subst e1
   subst e3
   have hc0:=hcell 0 c (by rw [hc];rfl)
   have hcv:=cvB_own (unhide HO12)
   have hq1:((lso f).length:Int)=1:=by omega
   by_cases h46:c=46
   ·have hd:(c.toNat:Int)=46:=by rw [h46];rfl
    have HR:Hid (str (shw f)=⟨#[91,46,93]⟩):=hide (by rw [unhide HSH,if_neg h256,if_pos (by rw [hc,h46])];rfl)
    clear hc h46 HSH h256 hl1 hcell
    generalize lso f=L at *
    go_wp2
    go_ret
    exact ⟨ret_str (unhide HR).symm,unhide HB2⟩
   ·by_cases h91:c=91
    ·have hd:(c.toNat:Int)=91:=by rw [h91];rfl
     have HR:Hid (str (shw f)=⟨#[91,91,93]⟩):=hide (by rw [unhide HSH,if_neg h256,if_neg (by rw [hc,h91];decide),if_pos (by rw [hc,h91])];rfl)
     clear hc h46 h91 HSH h256 hl1 hcell
     generalize lso f=L at *
     go_wp2
     go_ret
     exact ⟨ret_str (unhide HR).symm,unhide HB2⟩
    ·have hd1:((c.toNat:Int) == 46)=false:=by rw [beq_eq_false_iff_ne];exact ne_int h46
     have hd2:((c.toNat:Int) == 91)=false:=by rw [beq_eq_false_iff_ne];exact ne_int h91
     have HR:Hid (str (shw f)=str (lso f)):=hide (by rw [unhide HSH,if_neg h256,if_neg (by rw [hc];intro e;exact h46 (List.cons.inj e).1),if_neg (by rw [hc];intro e;exact h91 (List.cons.inj e).1),if_pos hl1])
     clear hc h46 h91 HSH h256 hl1 hcell
     generalize lso f=L at *
     go_wp2
     go_ret
     exact ⟨ret_str (unhide HR).symm,unhide HB2⟩
  ·have hq1:¬ ((lso f).length:Int)=1:=by omega
   have hq1b:(((lso f).length:Int) == 1)=false:=by rw [beq_eq_false_iff_ne];exact hq1
   have n46:lso f≠[46]:=fun e => hl1 (by rw [e];rfl)
   have n91:lso f≠[91]:=fun e => hl1 (by rw [e];rfl)
   have hsw:w.heap.size < w2.heap.size:=(Array.getElem?_eq_some_iff.1 (unhide HG2)).1
   cases h93:f 93 with
   | true =>
    have HR:Hid (str (shw f)=str (91 :: 94 :: (lso (fun b => !f b) ++ [93]))):=hide (by rw [unhide HSH,if_neg h256,if_neg n46,if_neg n91,if_neg hl1,if_pos h93])
    have hs2:=str_size (lso (fun b => !f b))
    have ha1:=add_run (a:=⟨#[91,94]⟩) (b:=str (lso (fun b => !f b))) (by have:(ByteArray.mk #[91,94]).size=2:=rfl;omega)
    have ha2:=add_run (a:=⟨#[91,94]⟩ ++ str (lso (fun b => !f b))) (b:=⟨#[93]⟩) (by rw [ByteArray.size_append];have:(ByteArray.mk #[91,94]).size=2:=rfl;have:(ByteArray.mk #[93]).size=1:=rfl;omega)
    have HX:Hid ((⟨#[91,94]⟩ ++ str (lso (fun b => !f b)) ++ ⟨#[93]⟩:ByteArray)=str (91 :: 94 :: (lso (fun b => !f b) ++ [93]))):=hide (by rw [show (⟨#[91,94]⟩:ByteArray)=str [91,94] from rfl,show (⟨#[93]⟩:ByteArray)=str [93] from rfl,str_app,str_app];rfl)
    rw [h93] at HA
    have hcv:=cvB_own ((unhide HO2).alloc (.cells #[.string T] 252))
    clear HSH h256 hl1 n46 n91 h93 hs2 HHAT
    generalize ⟨#[91,94]⟩ ++ str (lso (fun b => !f b)) ++ ⟨#[93]⟩=A2 at *
    generalize ⟨#[91,94]⟩ ++ str (lso (fun b => !f b))=A1 at *
    generalize str (lso (fun b => !f b))=T2 at *
    generalize (lso (fun b => !f b)).length=n2 at *
    generalize (lso f).length=n1 at *
    go_wp2_with fail
    refine (unhide HA _).mono ?_
    rintro e w3 ⟨rfl,rfl⟩
    go_wp2
    go_ret
    exact ⟨ret_str ((unhide HX).trans (unhide HR).symm),(unhide HB2).alloc (unhide HB2).size _⟩
   | false =>
    rw [h93] at HA
    have HR:Hid (str (shw f)=str (91 :: (((lso f).filter (· != 94) ++ (if f 94=true then [94] else [])) ++ [93]))):=hide (by rw [unhide HSH,if_neg h256,if_neg n46,if_neg n91,if_neg hl1,if_neg (by rw [h93];decide)])
    clear HSH h256 hl1 n46 n91 h93
    generalize (lso (fun b => !f b)).length=n2 at *
    go_wp2_with fail
    refine (unhide HA _).mono ?_
    rintro e w3 ⟨rfl,rfl⟩
    have HW3:=hide ((unhide HB2).alloc (unhide HB2).size (.cells #[.string T] 252))
    have HO3:=hide ((unhide HO12).below ((Below.refl _ w2).alloc (Nat.le_refl _) (.cells #[.string T] 252)))
    have HSTEP:=hide (fun k c h => noHat_step (l:=lso f) (k:=k) (c:=c) h)
    have HANY:=hide (fun k c h => any_step (l:=lso f) (k:=k) (c:=c) h)
    have HEND:Hid (∀ k,(lso f).length≤k→noHat ((lso f).take k)=(lso f).filter (· != 94)∧hatIn ((lso f).take k)=f 94):=fun k hk => by rw [List.take_of_length_le hk];exact ⟨rfl,unhide HHAT⟩
    have HLEN:Hid (∀ k,(noHat ((lso f).take k)).length≤k):=fun k => by
     have h1:=List.length_filter_le (· != 94) ((lso f).take k)
     have h2:=List.length_take_le k (lso f)
     unfold noHat
     omega
    have HGET:Hid (∀ k,k < (lso f).length→∃ c,(lso f)[k]?=some c):=fun k hk => ⟨_,List.getElem?_eq_getElem hk⟩
    have HIF:Hid (∀ b:Bool,f 94=b→(lso f).filter (· != 94) ++ (if f 94=true then [94] else [])=(lso f).filter (· != 94) ++ (if b=true then [94] else [])):=fun b h => by rw [h]
    generalize (lso f).filter (· != 94)=NF at *
    generalize f 94=F94 at *
    generalize lso f=L at *
    go_wp2
    go_loopw [6,7,8] (fun s6 s7 s8 wr => ∃ (k:Nat) (v:Value),v=s6∧s7=.bool (hatIn (L.take k))∧s8=.int .i64 k∧k≤L.length∧Hid (Own (w2.heap.size + 1) wr v (noHat (L.take k)))∧Hid (Below (w2.heap.size + 1) (w2.alloc (.cells #[.string T] 252)) wr)) (fun _ _ i _ => L.length - (intOf i).toNat)
    case atStart =>
     refine ⟨0,_,rfl,rfl,rfl,by omega,?_,(Below.refl _ _).alloc (by simp) _⟩
     have:=own_made (w2.alloc (.cells #[.string T] 252))
     simp only [World.size_alloc] at this
     exact this
    case round =>
     obtain ⟨k,v,rfl,rfl,rfl,hk,HO,HB⟩:=hrel
     have HLT:Hid (w2.heap.size + 1≤wr.heap.size):=hide (by have:=(unhide HB).size;simpa using this)
     have HV:Hid (Below (w2.alloc (.cells #[.string T] 252)).heap.size (w2.alloc (.cells #[.string T] 252)) wr):=hide (by rw [World.size_alloc];exact unhide HB)
     have hln:=unhide HLEN k
     by_cases hlt:k < L.length
     ·have hltz:(k:Int) < (L.length:Int):=by omega
      obtain ⟨c,hc⟩:=unhide HGET k hlt
      obtain ⟨g,cp,hv,hg,hcell⟩:=own_cells ((unhide HO3).below (unhide HV)) (by omega)
      injection hv with e1 _ e3
      subst e1
      subst e3
      have hc0:=hcell k c hc
      have HS:=hide (unhide HSTEP k c hc)
      have HC:=hide (unhide HANY k c hc)
      clear hcell
      by_cases h94:c=94
      ·have hd:((c.toNat:Int) == 94)=true:=by rw [h94];rfl
       rw [if_pos h94] at HS
       have HC2:Hid (hatIn (L.take (k + 1))=true):=hide (by rw [unhide HC,h94];simp)
       clear h94 hc
       generalize noHat (L.take k)=acc at *
       generalize hatIn (L.take k)=hat at *
       go_wp2
       go_roundw
       case rel => exact ⟨k + 1,v,rfl,by rw [unhide HC2],by go_num,by omega,by rw [unhide HS];exact HO,HB⟩
       case measure => simp [intOf];omega
      ·have hd:((c.toNat:Int) == 94)=false:=by rw [beq_eq_false_iff_ne];exact ne_int h94
       rw [if_neg h94] at HS
       have HC2:Hid (hatIn (L.take (k + 1))=hatIn (L.take k)):=hide (by rw [unhide HC];simp [h94])
       clear h94 hc
       generalize noHat (L.take k)=acc at *
       generalize hatIn (L.take k)=hat at *
       go_wp2_with (at_builtin;refine wpList_append_own _ rfl _ _ 134 rfl (w2.heap.size + 1) 5 i0 (.int .u8 0) 1 1 Tryz.underlying134 hi hz0 hz1 hz2 rfl (by decide) _ _ _ rfl ((unhide HO).alloc _) ⟨wr.heap.size,0,none⟩ 1 1 [.int .u8 (c.toNat:Int)] rfl rfl (one_new _ _ _) (by simp [Value.oneCell']) (by unfold maxLen;omega) (by omega) (by have h1:=unhide HLT;simp;omega) ?_;intro v' w4 hown' hgrow hnil;clear hnil;have HO4:=hide (own_push (c:=c) rfl hown');have HB4:=hide (push_txt (unhide HLT) (unhide HO) hgrow);clear hown' hgrow)
       go_roundw
       case rel => exact ⟨k + 1,v',rfl,by rw [unhide HC2],by go_num,by omega,by rw [unhide HS];exact HO4,(unhide HB).trans (unhide HB4)⟩
       case measure => simp [intOf];omega
     ·have hltz:¬ (k:Int) < (L.length:Int):=by omega
      obtain ⟨e1,e2⟩:=unhide HEND k (by omega)
      have HE1:=hide e1
      have HE2:=hide e2
      have HI2:=hide (unhide HIF _ e2.symm)
      clear e1 e2
      generalize noHat (L.take k)=acc at *
      generalize hatIn (L.take k)=hat at *
      have HBW:=hide ((unhide HW3).trans ((unhide HV).mono (unhide HW3).size))
      cases hat with
      | true =>
       have hl2:acc.length≤256:=by omega
       have hs2:=str_size (acc ++ [94])
       rw [List.length_append] at hs2
       have hs3:(str (acc ++ [94])).size≤300:=by rw [hs2];simp;omega
       have ha1:=add_run (a:=⟨#[91]⟩) (b:=str (acc ++ [94])) (by have:(ByteArray.mk #[91]).size=1:=rfl;omega)
       have ha2:=add_run (a:=⟨#[91]⟩ ++ str (acc ++ [94])) (b:=⟨#[93]⟩) (by rw [ByteArray.size_append];have:(ByteArray.mk #[91]).size=1:=rfl;have:(ByteArray.mk #[93]).size=1:=rfl;omega)
       have HX:Hid ((⟨#[91]⟩ ++ str (acc ++ [94]) ++ ⟨#[93]⟩:ByteArray)=str (91 :: ((acc ++ [94]) ++ [93]))):=hide (by rw [show (⟨#[91]⟩:ByteArray)=str [91] from rfl,show (⟨#[93]⟩:ByteArray)=str [93] from rfl,str_app,str_app];rfl)
       have HCV:Hid (∀ (W:World) v,Own (w2.heap.size + 1) W v (acc ++ [94])→(cvB v).run Tryz.prog W=.ok (.string (str (acc ++ [94]))) W):=fun W v h => cvB_own h
       clear hs2 hs3
       generalize ⟨#[91]⟩ ++ str (acc ++ [94]) ++ ⟨#[93]⟩=A2 at *
       generalize ⟨#[91]⟩ ++ str (acc ++ [94])=A1 at *
       generalize str (acc ++ [94])=TT at *
       go_wp2_with (at_builtin;refine wpList_append_own _ rfl _ _ 134 rfl (w2.heap.size + 1) 5 i0 (.int .u8 0) 1 1 Tryz.underlying134 hi hz0 hz1 hz2 rfl (by decide) _ _ _ rfl ((unhide HO).alloc _) ⟨wr.heap.size,0,none⟩ 1 1 [.int .u8 94] rfl rfl (one_new _ _ _) (by simp [Value.oneCell']) (by unfold maxLen;omega) (by omega) (by have h1:=unhide HLT;simp;omega) ?_;intro v' w4 hown' hgrow hnil;clear hnil;have HO4:=hide (own_push (c:=94) rfl hown');have HB4:=hide (push_txt (unhide HLT) (unhide HO) hgrow);have hcv:=unhide HCV _ _ (unhide HO4);clear hown' hgrow)
       go_ret
       exact ⟨ret_str (by rw [unhide HR,unhide HI2,← unhide HE1,unhide HX];rfl),(unhide HBW).trans ((unhide HB4).mono (by have:=(unhide HW3).size;simp at this;omega))⟩
      | false =>
       have hs2:=str_size acc
       have ha1:=add_run (a:=⟨#[91]⟩) (b:=str acc) (by have:(ByteArray.mk #[91]).size=1:=rfl;omega)
       have ha2:=add_run (a:=⟨#[91]⟩ ++ str acc) (b:=⟨#[93]⟩) (by rw [ByteArray.size_append];have:(ByteArray.mk #[91]).size=1:=rfl;have:(ByteArray.mk #[93]).size=1:=rfl;omega)
       have HX:Hid ((⟨#[91]⟩ ++ str acc ++ ⟨#[93]⟩:ByteArray)=str (91 :: (acc ++ [93]))):=hide (by rw [show (⟨#[91]⟩:ByteArray)=str [91] from rfl,show (⟨#[93]⟩:ByteArray)=str [93] from rfl,str_app,str_app];rfl)
       have hcv:=cvB_own (unhide HO)
       clear hs2
       generalize ⟨#[91]⟩ ++ str acc ++ ⟨#[93]⟩=A2 at *
       generalize ⟨#[91]⟩ ++ str acc=A1 at *
       generalize str acc=TT at *
       go_wp2
       go_ret
       exact ⟨ret_str (by rw [unhide HR,unhide HI2,← unhide HE1,unhide HX];simp),unhide HBW⟩
end Pt
end Go.Proofs.YtmhegbeemgagkaaGreatDoor
