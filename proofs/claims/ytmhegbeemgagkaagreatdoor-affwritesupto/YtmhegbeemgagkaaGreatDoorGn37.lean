import Derived.Lib.ItoaNum
import Derived.Lib.Join
import Derived.Test.YtmhegbeemgagkaaGreatDoorGn10
set_option maxHeartbeats 8000000
set_option maxRecDepth 100000
namespace Go.Proofs.YtmhegbeemgagkaaGreatDoor.Dec

def low (u:Nat):List UInt8:=if u=0 then [] else (Lib.decDigits u).reverse
theorem low_zero:low 0=[]:=rfl
theorem low_pos {u:Nat} (h:0 < u):low u=UInt8.ofNat (48 + u % 10) :: low (u / 10):=by
 unfold low
 rw [if_neg (by omega),Lib.decDigits]
 by_cases h10:u < 10
 ·rw [dif_pos h10,if_pos (by omega),Nat.mod_eq_of_lt h10];rfl
 ·rw [dif_neg h10,if_neg (by omega)];simp
theorem nDigits_le:∀ (k u:Nat),u < 10 ^ (k + 1)→Lib.nDigits u≤k + 1
 | 0,u,h => by rw [Lib.nDigits_small (by simpa using h)];exact Nat.le_refl _
 | k + 1,u,h => by
  by_cases h10:u < 10
  ·rw [Lib.nDigits_small h10];omega
  ·rw [Lib.nDigits_big h10]
   rw [Nat.pow_succ] at h
   have:=nDigits_le k (u / 10) (by omega)
   omega
theorem low_len {u:Nat} (h:u≤9223372036854775808):(low u).length≤19:=by
 unfold low
 split
 ·simp
 ·rw [List.length_reverse,Lib.decDigits_length]
  exact nDigits_le 18 u (Nat.lt_of_le_of_lt h (by decide))
theorem low_rev {u:Nat} (h:0 < u):(low u).reverse=Lib.decDigits u:=by
 unfold low
 rw [if_neg (by omega),List.reverse_reverse]
theorem step {u r:Nat} {D:List UInt8} (h:D ++ low r=low u) (hr:0 < r):(D ++ [UInt8.ofNat (48 + r % 10)]) ++ low (r / 10)=low u:=by
 rw [← h,low_pos hr];simp
theorem len_of {u r:Nat} {D:List UInt8} (h:D ++ low r=low u) (hu:u≤9223372036854775808):D.length≤19:=by
 have:=congrArg List.length h
 have h2:=low_len hu
 simp at this
 omega
theorem byte_of (d:Nat) (h:d < 10):((UInt8.ofNat (48 + d)).toNat:Int)=48 + (d:Int):=by
 rw [UInt8.toNat_ofNat']
 omega
theorem drop_rev (L:List UInt8) (k:Nat) (h:k < L.length):(L.drop k).reverse=(L.drop (k + 1)).reverse ++ [L[k]]:=by
 rw [List.drop_eq_getElem_cons h];simp

theorem numVal_dec (u:Nat):Num.numVal (Lib.decDigits u)=u:=by
 induction u using Nat.strongRecOn with
 | _ u ih =>
  rw [Lib.decDigits]
  by_cases h:u < 10
  ·rw [dif_pos h]
   have e:=byte_of u h
   have e2:(UInt8.ofNat (48 + u)).toNat=48 + u:=by omega
   simp only [Num.numVal,List.foldl_cons,List.foldl_nil,e2]
   omega
  ·rw [dif_neg h,Num.numVal_snoc,ih (u / 10) (by omega)]
   have e:=byte_of (u % 10) (by omega)
   have e2:(UInt8.ofNat (48 + u % 10)).toNat=48 + u % 10:=by omega
   rw [e2]
   omega
theorem isDig_byte (d:Nat) (h:d < 10):Num.isDig (UInt8.ofNat (48 + d))=true:=by
 have:=byte_of d h
 exact Num.isDig_of _ (by omega) (by omega)
theorem all_dec (u:Nat):(Lib.decDigits u).all Num.isDig=true:=by
 induction u using Nat.strongRecOn with
 | _ u ih =>
  rw [Lib.decDigits]
  by_cases h:u < 10
  ·rw [dif_pos h,List.all_cons,isDig_byte u h];rfl
  ·rw [dif_neg h,List.all_append,ih (u / 10) (by omega),List.all_cons,isDig_byte (u % 10) (by omega)];rfl
theorem head_dec (u:Nat) (h:0 < u):∃ c t,Lib.decDigits u=c :: t∧c≠48:=by
 induction u using Nat.strongRecOn with
 | _ u ih =>
  rw [Lib.decDigits]
  by_cases h10:u < 10
  ·rw [dif_pos h10]
   refine ⟨_,[],rfl,fun e => ?_⟩
   have:=byte_of u h10
   rw [e] at this
   have:((48:UInt8).toNat:Int)=48:=rfl
   omega
  ·rw [dif_neg h10]
   obtain ⟨c,t,e,hc⟩:=ih (u / 10) (by omega) (by omega)
   rw [e]
   exact ⟨c,_,rfl,hc⟩
theorem lead_dec (u:Nat):Num.lead (Lib.decDigits u)=false:=by
 by_cases h:0 < u
 ·obtain ⟨c,t,e,hc⟩:=head_dec u h
  simp [Num.lead,e,hc]
 ·have:u=0:=by omega
  subst this
  rw [Lib.decDigits_one (by decide)]
  decide
theorem nonempty_dec (u:Nat):(Lib.decDigits u).isEmpty=false:=by
 by_cases h:0 < u
 ·obtain ⟨c,t,e,_⟩:=head_dec u h
  simp [e]
 ·have:u=0:=by omega
  subst this
  rw [Lib.decDigits_one (by decide)]
  decide
theorem good_itoa (n most:Int):Num.good (Lib.itoa n) most=(decide (0≤n) && decide (n≤most)):=by
 unfold Lib.itoa
 by_cases h:n < 0
 ·rw [if_pos h]
  have h0:decide (0≤n)=false:=by simp;omega
  have:(45 :: Lib.decDigits n.natAbs).all Num.isDig=false:=by simp [Num.isDig]
  simp [Num.good,this,h0]
 ·rw [if_neg h]
  have h0:decide (0≤n)=true:=by simp;omega
  have h1:((Num.numVal (Lib.decDigits n.toNat):Nat):Int)=n:=by rw [numVal_dec];omega
  simp only [Num.good,nonempty_dec,lead_dec,all_dec,h0,h1];rfl
theorem numN_itoa (n most:Int) (h0:0≤n) (h1:n≤most):Num.numN (Lib.itoa n) most=n:=by
 have hg:Num.good (Lib.itoa n) most=true:=by rw [good_itoa];simp [h0,h1]
 rw [Num.numN_good hg]
 unfold Lib.itoa
 rw [if_neg (by omega),numVal_dec]
 omega
theorem itoa_len (n:Int) (h0:-9223372036854775808≤n) (h1:n≤9223372036854775807):(Lib.itoa n).length≤20:=by
 unfold Lib.itoa
 split
 ·have:=nDigits_le 18 n.natAbs (Nat.lt_of_le_of_lt (show n.natAbs≤9223372036854775808 by omega) (by decide))
  rw [List.length_cons,Lib.decDigits_length];omega
 ·have:=nDigits_le 18 n.toNat (Nat.lt_of_le_of_lt (show n.toNat≤9223372036854775808 by omega) (by decide))
  rw [Lib.decDigits_length];omega
end Go.Proofs.YtmhegbeemgagkaaGreatDoor.Dec
namespace Go.Proofs.YtmhegbeemgagkaaGreatDoor
namespace Shw
open Cut
def wr (kind f:Int):List UInt8:=if kind=1 then [UInt8.ofNat (f.toNat % 256)] else if kind=2 then [UInt8.ofNat (f.toNat / 256),UInt8.ofNat (f.toNat % 256)] else Lib.itoa f
def okF (kind f:Int):Bool:=One.val kind (wr kind f) != 0 && One.val kind (wr kind f) == f
theorem byte_nat {n:Nat} (h:n < 256):(UInt8.ofNat n).toNat=n:=by simp;omega
theorem wr_len (kind f:Int) (h0:0≤f) (h1:f≤65535):(wr kind f).length≤20:=by
 unfold wr
 split
 ·simp
 ·split
  ·simp
  ·exact Dec.itoa_len f (by omega) (by omega)
theorem ok1 {f:Int} (h0:0≤f) (h1:f≤65535):okF 1 f=(!decide (255 < f) && (One.val 1 (wr 1 f) != 0)):=by
 have hb:(UInt8.ofNat (f.toNat % 256)).toNat=f.toNat % 256:=byte_nat (by omega)
 unfold okF
 have e:One.val 1 (wr 1 f)=if One.sg (UInt8.ofNat (f.toNat % 256)) then ((f.toNat % 256:Nat):Int) else 0:=by
  simp only [wr,if_pos,One.val,hb]
 rw [e]
 have hm1:255 < f→((f.toNat % 256:Nat):Int)≠f:=fun h => by omega
 have hm2:¬ 255 < f→((f.toNat % 256:Nat):Int)=f:=fun h => by omega
 generalize ((f.toNat % 256:Nat):Int)=m at *
 split
 ·by_cases h:255 < f
  ·have:=hm1 h
   simp [h,this]
  ·have:=hm2 h
   simp [h,this]
 ·simp
theorem ok2 {f:Int} (h0:0≤f) (h1:f≤65535):okF 2 f=(One.val 2 (wr 2 f) != 0):=by
 have hb:(UInt8.ofNat (f.toNat % 256)).toNat=f.toNat % 256:=byte_nat (by omega)
 have ha:(UInt8.ofNat (f.toNat / 256)).toNat=f.toNat / 256:=byte_nat (by omega)
 unfold okF
 have e:One.val 2 (wr 2 f)=if One.sg (UInt8.ofNat (f.toNat / 256)) && One.sg (UInt8.ofNat (f.toNat % 256)) then f else 0:=by
  have e2:(256:Int) * ((f.toNat / 256:Nat):Int) + ((f.toNat % 256:Nat):Int)=f:=by omega
  have w2:wr 2 f=[UInt8.ofNat (f.toNat / 256),UInt8.ofNat (f.toNat % 256)]:=rfl
  have v2:∀ c d:UInt8,One.val 2 [c,d]=if One.sg c && One.sg d then 256 * (c.toNat:Int) + (d.toNat:Int) else 0:=fun _ _ => rfl
  rw [w2,v2,ha,hb,e2]
 rw [e]
 split <;> simp
theorem ok3 {f:Int} (h0:0≤f) (h1:f≤65535):okF 3 f=(One.val 3 (wr 3 f) != 0):=by
 unfold okF
 have e:One.val 3 (wr 3 f)=f:=by
  show Num.numN (Lib.itoa f) 65535=f
  exact Dec.numN_itoa f 65535 h0 h1
 rw [e]
 simp
def sepK (kind:Int):List UInt8:=if kind=3 then [44] else []
def text (kind:Int) (Z:List Int):List UInt8:=Lib.join (Z.map (wr kind)) (sepK kind)
theorem joinTail_snoc (sep:List UInt8):∀ (r:List (List UInt8)) (x:List UInt8),Lib.joinTail sep (r ++ [x])=Lib.joinTail sep r ++ (sep ++ x)
 | [],x => by simp [Lib.joinTail]
 | y :: t,x => by
  have ih:=joinTail_snoc sep t x
  simp [Lib.joinTail] at ih ⊢
theorem join_snoc (xs:List (List UInt8)) (x sep:List UInt8):Lib.join (xs ++ [x]) sep=if xs=[] then x else Lib.join xs sep ++ (sep ++ x):=by
 cases xs with
 | nil => simp [Lib.join_one]
 | cons y t =>
  rw [if_neg (by simp),List.cons_append,Lib.join_cons,Lib.join_cons,joinTail_snoc]
  simp
theorem text_snoc (kind:Int) (Z:List Int) (x:Int):text kind (Z ++ [x])=if Z=[] then wr kind x else text kind Z ++ (sepK kind ++ wr kind x):=by
 unfold text
 rw [List.map_append,List.map_cons,List.map_nil,join_snoc]
 cases Z <;> simp
theorem text_len (kind:Int):∀ (n:Nat) (Z:List Int),Z.length=n→(∀ x ∈ Z,0≤x∧x≤65535)→(text kind Z).length≤21 * n:=by
 intro n
 induction n with
 | zero =>
  intro Z hZ _
  have:Z=[]:=List.eq_nil_of_length_eq_zero hZ
  subst this
  simp [text,Lib.join_nil]
 | succ n ih =>
  intro Z hZ hb
  obtain ⟨T,x,rfl⟩:∃ T x,Z=T ++ [x]:=by
   refine ⟨Z.dropLast,Z.getLast (by intro h;simp [h] at hZ),(List.dropLast_concat_getLast _).symm⟩
  have h1:=ih T (by simp at hZ;exact hZ) (fun y hy => hb y (by simp [hy]))
  have h2:=wr_len kind x (hb x (by simp)).1 (hb x (by simp)).2
  have h3:(sepK kind).length≤1:=by unfold sepK;split <;> simp
  rw [text_snoc]
  split
  ·omega
  ·simp;omega
def showE (kind:Int) (Z:List Int):Int:=if One.isK kind then (if Z.all (okF kind) then (if 64 < Z.length then 32 else 0) else 31) else 30
def showT (kind:Int) (Z:List Int):List UInt8:=if showE kind Z=0 then text kind Z else []
end Shw
open Go.RowKit
namespace DecW
theorem hide {p:Prop} (h:p):Hid p:=h
theorem unhide {p:Prop} (h:Hid p):p:=h
theorem info_parts {P:Program} {e:TypeId} {z:Value} {s b:Nat} (h:(P.info? e).map (fun i => (i.zero,i.size,i.bytes))=some (some z,s,b)):∃ i,P.info? e=some i∧i.zero=some z∧i.size=s∧i.bytes=b:=So.info_parts h
theorem below_push {w wr w1:World} {e:TypeId} {v:Value} {n:Nat} {xs:List Value} {o:Obj} (hown:wr.ownsRow w.heap.size e 1 v n xs) (hB:Below w.heap.size w wr) (hg:(wr.alloc o).grownBy w1 v.ownBlock):Below w.heap.size w w1:=So.irow_push hown hB hg

def bytes (l:List UInt8):List Value:=l.map fun b => Value.int .u8 (b.toNat:Int)
theorem bytes_snoc (l:List UInt8) (c:UInt8):bytes (l ++ [c])=bytes l ++ [.int .u8 (c.toNat:Int)]:=by simp [bytes]
theorem info5:(Tryz.prog.info? 5).map (fun i => (i.zero,i.size,i.bytes))=some (some (.int .u8 0),1,1):=by kernel_rfl

theorem add_zero_off (g j:Nat):(⟨g,0,none⟩:Addr).add j=⟨g,j,none⟩:=by
 unfold Addr.add
 split
 ·rename_i h;subst h;rfl
 ·simp
theorem owns_cells {w:World} {B:Nat} {v:Value} {L:List UInt8} (h:w.ownsRow B 5 1 v L.length (bytes L)) (h0:0 < L.length) :
  ∃ g cap,v=.slice (some ⟨g,0,none⟩) L.length cap∧g < w.heap.size∧∀ j x,L[j]?=some x→w.cell? ⟨g,j,none⟩=some (.int .u8 (x.toNat:Int)):=by
 have hc:=h
 obtain ⟨hl,⟨rfl,h1⟩ | ⟨g,cap,cur,rfl,hg,hh,hc1,hm,hsz,htk⟩⟩:=h
 ·omega
 ·refine ⟨g,cap,rfl,(Array.getElem?_eq_some_iff.1 hh).1,fun j x hj => ?_⟩
  have:=hc.cells (g:=g) rfl j (.int .u8 (x.toNat:Int)) (by simp [bytes,hj])
  rwa [add_zero_off] at this
theorem conv_owns {w:World} {B:Nat} {v:Value} {L:List UInt8} (h:w.ownsRow B 5 1 v L.length (bytes L)) :
  (convert 134 9 v).run Tryz.prog w=.ok (.string ⟨L.toArray⟩) w:=by
 by_cases h0:0 < L.length
 ·obtain ⟨g,cap,rfl,_,hcell⟩:=owns_cells h h0
  exact run_convert_bytes_back w 134 9 5 ⟨g,0,none⟩ cap L Tryz.underlying134 Tryz.underlying5 Tryz.underlying9 (fun j hj => by rw [add_zero_off];exact hcell j _ (List.getElem?_eq_getElem hj))
 ·have:L=[]:=List.eq_nil_of_length_eq_zero (by omega)
  subst this
  obtain ⟨hl,⟨rfl,h1⟩ | ⟨g,cap,cur,rfl,hg,hh,hc1,hm,hsz,htk⟩⟩:=h
  ·exact run_convert_bytes_nil w 134 5 Tryz.underlying134 Tryz.underlying5 0 0 9 Tryz.underlying9
  ·exact run_convert_bytes_back w 134 9 5 ⟨g,0,none⟩ cap [] Tryz.underlying134 Tryz.underlying5 Tryz.underlying9 (fun j hj => absurd hj (by simp))

theorem dec_zero (w:World):Calls Tryz.prog 51 #[.int .i64 0] w fun e w' => e=.returned (.string ⟨#[48]⟩)∧w'=w:=by
 go_enter Tryz.func51,Tryz.ntmps51
 go_wp2
 go_ret
 exact ⟨rfl,rfl⟩
theorem dec_pos (u:Nat) (hu:0 < u) (hm:(u:Int)≤9223372036854775807) (w:World):Calls Tryz.prog 51 #[.int .i64 (u:Int)] w fun e w' => e=.returned (.string ⟨(Lib.decDigits u).toArray⟩)∧Below w.heap.size w w':=by
 obtain ⟨i0,hi,hz0,hz1,hz2⟩:=info_parts info5
 have hu0:((u:Int) == 0)=false:=by rw [beq_eq_false_iff_ne];omega
 go_enter Tryz.func51,Tryz.ntmps51
 go_wp2
 go_loopw [3,4] (fun v m wr => ∃ (r:Nat) (D:List UInt8),r≤u∧m=.int .i64 ((r:Int))∧wr.ownsRow w.heap.size 5 1 v D.length (bytes D)∧Below w.heap.size w wr∧Hid (D ++ Dec.low r=Dec.low u)) (fun _ m _ => (intOf m).natAbs)
 case atStart => exact ⟨u,[],Nat.le_refl _,rfl,World.ownsRow_made w #[] 0 (Nat.le_refl _) (by simp) rfl,(Below.refl _ _).alloc (Nat.le_refl _) _,rfl⟩
 case round =>
  obtain ⟨r,D,hr,rfl,hown,hB,HD⟩:=hrel
  have hlen:=Dec.len_of HD.out (by omega)
  by_cases hr0:0 < r
  ·have hrb:(((r:Int)) != 0)=true:=by rw [bne_iff_ne];omega
   have HST:=hide (Dec.step HD.out hr0)
   have HBY:=hide (Dec.byte_of (r % 10) (by omega))
   have hm10:(0:Int)≤(r:Int) % 10:=by omega
   have hm11:(r:Int) % 10≤9:=by omega
   go_wp2_with (at_builtin;refine wpList_append_own _ rfl _ _ 134 rfl w.heap.size 5 i0 (.int .u8 0) 1 1 Tryz.underlying134 hi hz0 hz1 hz2 rfl (by decide) _ _ _ rfl (hown.alloc _) ⟨wr.heap.size,0,none⟩ 1 1 [.int .u8 (48 + (r:Int) % 10)] rfl rfl (cell_one_new _ _ _) (fun x hx => by simp at hx;subst hx;rfl) (by unfold maxLen;omega) (by omega) (by have:=hB.size;simp;omega) ?_;intro v' w1 hown' hgrow hnil;clear hnil)
   have HB1:=hide (below_push hown hB hgrow)
   have HO1:Hid (w1.ownsRow w.heap.size 5 1 v' (D ++ [UInt8.ofNat (48 + r % 10)]).length (bytes (D ++ [UInt8.ofNat (48 + r % 10)]))):=by
    show w1.ownsRow w.heap.size 5 1 v' (D ++ [UInt8.ofNat (48 + r % 10)]).length (bytes (D ++ [UInt8.ofNat (48 + r % 10)]))
    rw [bytes_snoc,unhide HBY,List.length_append]
    exact hown'
   clear hown hB hgrow hown' HBY
   go_wp2
   go_roundw
   case rel => exact ⟨r / 10,D ++ [UInt8.ofNat (48 + r % 10)],by omega,by go_num,unhide HO1,unhide HB1,unhide HST⟩
   case measure => simp [intOf];omega
  ·have hr1:r=0:=by omega
   subst hr1
   rw [show ((0:Nat):Int)=0 from rfl]
   obtain ⟨w2,rfl⟩:∃ w2,w2=wr:=⟨wr,rfl⟩
   have hD:D=Dec.low u:=by have:=HD.out;rwa [Dec.low_zero,List.append_nil] at this
   clear HD
   subst hD
   have hL0:0 < (Dec.low u).length:=by rw [Dec.low_pos hu];simp
   have HRV:=hide (Dec.low_rev hu)
   generalize hL:Dec.low u=L at *
   clear hL
   obtain ⟨g,cap,rfl,hg,hcell⟩:=owns_cells hown hL0
   have HC:=hide hcell
   have hB0:=hB.size
   clear hcell hown
   generalize hz:L.length=z at *
   have HZ:=hide hz
   clear hz
   go_wp2
   go_loopw [6,7] (fun v i wr => ∃ k:Nat,k≤z∧i=.int .i64 ((k:Int) - 1)∧wr.ownsRow w2.heap.size 5 1 v ([] ++ (L.drop k).reverse).length (bytes ([] ++ (L.drop k).reverse))∧Below w2.heap.size w2 wr) (fun _ i _ => (intOf i + 1).toNat)
   case atStart => exact ⟨z,Nat.le_refl _,rfl,by rw [show L.drop z=[] from by rw [← unhide HZ];exact List.drop_length];exact World.ownsRow_made w2 #[] 0 (Nat.le_refl _) (by simp) rfl,(Below.refl _ _).alloc (Nat.le_refl _) _⟩
   case round =>
    obtain ⟨k,hk,rfl,hownq,hBq⟩:=hrel
    by_cases hk0:0 < k
    ·obtain ⟨j,rfl⟩:∃ j,k=j + 1:=⟨k - 1,by omega⟩
     have hjl:j < L.length:=by rw [unhide HZ];omega
     have hcj:wr.cell? ⟨g,j,none⟩=some (.int .u8 (L[j].toNat:Int)):=(hBq.cell (p:=⟨g,j,none⟩) hg).trans (unhide HC j _ (List.getElem?_eq_getElem hjl))
     have HDR:=hide (Dec.drop_rev L j hjl)
     generalize L[j]=x at *
     have hlenq:([] ++ (L.drop (j + 1)).reverse).length≤20:=by simp;have:=unhide HZ;omega
     have e1:((j + 1:Nat):Int) - 1=(j:Int):=by omega
     rw [e1]
     have hjz:(j:Int) < (z:Int):=by omega
     clear e1 hjl
     go_wp2_with (at_builtin;refine wpList_append_own _ rfl _ _ 134 rfl w2.heap.size 5 i0 (.int .u8 0) 1 1 Tryz.underlying134 hi hz0 hz1 hz2 rfl (by decide) _ _ _ rfl (hownq.alloc _) ⟨wr.heap.size,0,none⟩ 1 1 [.int .u8 (x.toNat:Int)] rfl rfl (cell_one_new _ _ _) (fun x hx => by simp at hx;subst hx;rfl) (by unfold maxLen;omega) (by omega) (by have:=hBq.size;simp;omega) ?_;intro v' w1 hown' hgrow hnil;clear hnil)
     have HB1:=hide (below_push hownq hBq hgrow)
     have HO1:Hid (w1.ownsRow w2.heap.size 5 1 v' ([] ++ (L.drop j).reverse).length (bytes ([] ++ (L.drop j).reverse))):=by
      show w1.ownsRow w2.heap.size 5 1 v' ([] ++ (L.drop j).reverse).length (bytes ([] ++ (L.drop j).reverse))
      rw [unhide HDR,← List.append_assoc,bytes_snoc,List.length_append]
      exact hown'
     clear hownq hBq hgrow hown' hcj hlenq HDR
     go_wp2
     go_roundw
     case rel => exact ⟨j,by omega,by go_num,unhide HO1,unhide HB1⟩
     case measure => simp [intOf]
    ·have hk1:k=0:=by omega
     subst hk1
     rw [List.drop_zero,unhide HRV] at hownq
     have hcv:=conv_owns hownq
     clear hownq
     go_wp2
     go_ret
     exact ⟨rfl,hB.trans (hBq.mono hB0)⟩
theorem dec_neg (u:Nat) (hu:0 < u) (hm:(u:Int)≤9223372036854775808) (w:World):Calls Tryz.prog 51 #[.int .i64 (-(u:Int))] w fun e w' => e=.returned (.string ⟨(45 :: Lib.decDigits u).toArray⟩)∧Below w.heap.size w w':=by
 obtain ⟨i0,hi,hz0,hz1,hz2⟩:=info_parts info5
 have hu0:((-(u:Int)) == 0)=false:=by rw [beq_eq_false_iff_ne];omega
 go_enter Tryz.func51,Tryz.ntmps51
 go_wp2
 go_loopw [3,4] (fun v m wr => ∃ (r:Nat) (D:List UInt8),r≤u∧m=.int .i64 (-(r:Int))∧wr.ownsRow w.heap.size 5 1 v D.length (bytes D)∧Below w.heap.size w wr∧Hid (D ++ Dec.low r=Dec.low u)) (fun _ m _ => (intOf m).natAbs)
 case atStart => exact ⟨u,[],Nat.le_refl _,rfl,World.ownsRow_made w #[] 0 (Nat.le_refl _) (by simp) rfl,(Below.refl _ _).alloc (Nat.le_refl _) _,rfl⟩
 case round =>
  obtain ⟨r,D,hr,rfl,hown,hB,HD⟩:=hrel
  have hlen:=Dec.len_of HD.out (by omega)
  by_cases hr0:0 < r
  ·have hrb:((-(r:Int)) != 0)=true:=by rw [bne_iff_ne];omega
   have HST:=hide (Dec.step HD.out hr0)
   have HBY:=hide (Dec.byte_of (r % 10) (by omega))
   have hm10:(-(r:Int)).tmod 10=-((r % 10:Nat):Int):=by rw [Int.neg_tmod];rfl
   have hm11:(-(r:Int)).tdiv 10=-((r / 10:Nat):Int):=by rw [Int.neg_tdiv];rfl
   by_cases hd0:r % 10=0
   ·have hd1:(r:Int) % 10=0:=by omega
    have HD1:=hide hd0
    clear hd0
    go_wp2_with (at_builtin;go_must (refine wpList_append_own _ rfl _ _ 134 rfl w.heap.size 5 i0 (.int .u8 0) 1 1 Tryz.underlying134 hi hz0 hz1 hz2 rfl (by decide) _ _ _ rfl (hown.alloc _) ⟨wr.heap.size,0,none⟩ 1 1 [.int .u8 (48)] rfl rfl (cell_one_new _ _ _) (fun x hx => by simp at hx;subst hx;rfl) (by unfold maxLen;omega) (by omega) (by have:=hB.size;simp;omega) ?_);intro v' w1 hown' hgrow hnil;clear hnil)
    have HB1:=hide (below_push hown hB hgrow)
    have HO1:Hid (w1.ownsRow w.heap.size 5 1 v' (D ++ [UInt8.ofNat (48 + r % 10)]).length (bytes (D ++ [UInt8.ofNat (48 + r % 10)]))):=by
     show w1.ownsRow w.heap.size 5 1 v' (D ++ [UInt8.ofNat (48 + r % 10)]).length (bytes (D ++ [UInt8.ofNat (48 + r % 10)]))
     rw [bytes_snoc,unhide HBY,List.length_append]
     rw [unhide HD1];exact hown'
    clear hown hB hgrow hown' HBY
    go_wp2
    go_roundw
    case rel => exact ⟨r / 10,D ++ [UInt8.ofNat (48 + r % 10)],by omega,by go_num,unhide HO1,unhide HB1,unhide HST⟩
    case measure => simp [intOf];omega
   ·have hd1:0 < (r:Int) % 10:=by omega
    have hd2:(r:Int) % 10≤9:=by omega
    clear hd0
    go_wp2_with (at_builtin;go_must (refine wpList_append_own _ rfl _ _ 134 rfl w.heap.size 5 i0 (.int .u8 0) 1 1 Tryz.underlying134 hi hz0 hz1 hz2 rfl (by decide) _ _ _ rfl (hown.alloc _) ⟨wr.heap.size,0,none⟩ 1 1 [.int .u8 (48 + (r:Int) % 10)] rfl rfl (cell_one_new _ _ _) (fun x hx => by simp at hx;subst hx;rfl) (by unfold maxLen;omega) (by omega) (by have:=hB.size;simp;omega) ?_);intro v' w1 hown' hgrow hnil;clear hnil)
    have HB1:=hide (below_push hown hB hgrow)
    have HO1:Hid (w1.ownsRow w.heap.size 5 1 v' (D ++ [UInt8.ofNat (48 + r % 10)]).length (bytes (D ++ [UInt8.ofNat (48 + r % 10)]))):=by
     show w1.ownsRow w.heap.size 5 1 v' (D ++ [UInt8.ofNat (48 + r % 10)]).length (bytes (D ++ [UInt8.ofNat (48 + r % 10)]))
     rw [bytes_snoc,unhide HBY,List.length_append]
     exact hown'
    clear hown hB hgrow hown' HBY
    go_wp2
    go_roundw
    case rel => exact ⟨r / 10,D ++ [UInt8.ofNat (48 + r % 10)],by omega,by go_num,unhide HO1,unhide HB1,unhide HST⟩
    case measure => simp [intOf];omega
  ·have hr1:r=0:=by omega
   subst hr1
   rw [show -((0:Nat):Int)=0 from rfl]
   obtain ⟨w2,rfl⟩:∃ w2,w2=wr:=⟨wr,rfl⟩
   have hD:D=Dec.low u:=by have:=HD.out;rwa [Dec.low_zero,List.append_nil] at this
   clear HD
   subst hD
   have hL0:0 < (Dec.low u).length:=by rw [Dec.low_pos hu];simp
   have HRV:=hide (Dec.low_rev hu)
   generalize hL:Dec.low u=L at *
   clear hL
   obtain ⟨g,cap,rfl,hg,hcell⟩:=owns_cells hown hL0
   have HC:=hide hcell
   have hB0:=hB.size
   clear hcell hown
   generalize hz:L.length=z at *
   have HZ:=hide hz
   clear hz
   go_wp2_with (at_builtin;refine wpList_append_own _ rfl _ _ 134 rfl w2.heap.size 5 i0 (.int .u8 0) 1 1 Tryz.underlying134 hi hz0 hz1 hz2 rfl (by decide) _ _ _ rfl ((World.ownsRow_made w2 #[] 0 (Nat.le_refl _) (by simp) rfl).alloc _) ⟨w2.heap.size + 1,0,none⟩ 1 1 [.int .u8 45] rfl rfl (by have:=cell_one_new (w2.alloc (.cells #[] 5)) (.int .u8 45) 5;simpa using this) (fun x hx => by simp at hx;subst hx;rfl) (by unfold maxLen;omega) (by omega) (by simp;omega) ?_;intro v'' w'' hown'' hgrow'' hnil;clear hnil)
   have HO2:Hid (w''.ownsRow w2.heap.size 5 1 v'' ([45] ++ ([]:List UInt8).reverse).length (bytes ([45] ++ ([]:List UInt8).reverse))):=hown''
   have HB2:Hid (Below w2.heap.size w2 w''):=below_push (World.ownsRow_made w2 #[] 0 (Nat.le_refl _) (by simp) rfl) ((Below.refl _ _).alloc (Nat.le_refl _) _) hgrow''
   clear hown'' hgrow''
   go_wp2
   go_loopw [6,7] (fun v i wr => ∃ k:Nat,k≤z∧i=.int .i64 ((k:Int) - 1)∧wr.ownsRow w2.heap.size 5 1 v ([45] ++ (L.drop k).reverse).length (bytes ([45] ++ (L.drop k).reverse))∧Below w2.heap.size w2 wr) (fun _ i _ => (intOf i + 1).toNat)
   case atStart => exact ⟨z,Nat.le_refl _,rfl,by rw [show L.drop z=[] from by rw [← unhide HZ];exact List.drop_length];exact unhide HO2,unhide HB2⟩
   case round =>
    obtain ⟨k,hk,rfl,hownq,hBq⟩:=hrel
    by_cases hk0:0 < k
    ·obtain ⟨j,rfl⟩:∃ j,k=j + 1:=⟨k - 1,by omega⟩
     have hjl:j < L.length:=by rw [unhide HZ];omega
     have hcj:wr.cell? ⟨g,j,none⟩=some (.int .u8 (L[j].toNat:Int)):=(hBq.cell (p:=⟨g,j,none⟩) hg).trans (unhide HC j _ (List.getElem?_eq_getElem hjl))
     have HDR:=hide (Dec.drop_rev L j hjl)
     generalize L[j]=x at *
     have hlenq:([45] ++ (L.drop (j + 1)).reverse).length≤20:=by simp;have:=unhide HZ;omega
     have e1:((j + 1:Nat):Int) - 1=(j:Int):=by omega
     rw [e1]
     have hjz:(j:Int) < (z:Int):=by omega
     clear e1 hjl
     go_wp2_with (at_builtin;refine wpList_append_own _ rfl _ _ 134 rfl w2.heap.size 5 i0 (.int .u8 0) 1 1 Tryz.underlying134 hi hz0 hz1 hz2 rfl (by decide) _ _ _ rfl (hownq.alloc _) ⟨wr.heap.size,0,none⟩ 1 1 [.int .u8 (x.toNat:Int)] rfl rfl (cell_one_new _ _ _) (fun x hx => by simp at hx;subst hx;rfl) (by unfold maxLen;omega) (by omega) (by have:=hBq.size;simp;omega) ?_;intro v' w1 hown' hgrow hnil;clear hnil)
     have HB1:=hide (below_push hownq hBq hgrow)
     have HO1:Hid (w1.ownsRow w2.heap.size 5 1 v' ([45] ++ (L.drop j).reverse).length (bytes ([45] ++ (L.drop j).reverse))):=by
      show w1.ownsRow w2.heap.size 5 1 v' ([45] ++ (L.drop j).reverse).length (bytes ([45] ++ (L.drop j).reverse))
      rw [unhide HDR,← List.append_assoc,bytes_snoc,List.length_append]
      exact hown'
     clear hownq hBq hgrow hown' hcj hlenq HDR
     go_wp2
     go_roundw
     case rel => exact ⟨j,by omega,by go_num,unhide HO1,unhide HB1⟩
     case measure => simp [intOf]
    ·have hk1:k=0:=by omega
     subst hk1
     rw [List.drop_zero,unhide HRV] at hownq
     have hcv:=conv_owns hownq
     clear hownq
     go_wp2
     go_ret
     exact ⟨rfl,hB.trans (hBq.mono hB0)⟩
theorem dec_any (n:Int) (h0:-9223372036854775808≤n) (h1:n≤9223372036854775807) (w:World) :
  Calls Tryz.prog 51 #[.int .i64 n] w fun e w' => e=.returned (.string ⟨(Lib.itoa n).toArray⟩)∧Below w.heap.size w w':=by
 by_cases hn:n < 0
 ·obtain ⟨u,rfl⟩:∃ u:Nat,n=-(u:Int):=⟨n.natAbs,by omega⟩
  have e:Lib.itoa (-(u:Int))=45 :: Lib.decDigits u:=by
   unfold Lib.itoa
   rw [if_pos hn]
   simp
  rw [e]
  exact dec_neg u (by omega) (by omega) w
 ·obtain ⟨u,rfl⟩:∃ u:Nat,n=(u:Int):=⟨n.toNat,by omega⟩
  have e:Lib.itoa (u:Int)=Lib.decDigits u:=by
   unfold Lib.itoa
   rw [if_neg hn,Int.toNat_natCast]
  rw [e]
  by_cases hu:0 < u
  ·exact dec_pos u hu h1 w
  ·have:u=0:=by omega
   subst this
   rw [Lib.decDigits_one (by decide)]
   exact (dec_zero w).mono fun e w' ⟨h,hw⟩ => by
    subst hw
    exact ⟨h,Below.refl _ _⟩
end DecW
end Go.Proofs.YtmhegbeemgagkaaGreatDoor
