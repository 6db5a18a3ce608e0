import Derived.Test.YtmhegbeemgagkaaGreatDoorGn12
set_option maxHeartbeats 8000000
set_option maxRecDepth 100000
namespace Go.Proofs
open Go.Shelf
def Tryz.laysEq_ren:Go.Shelf.Ren:=⟨fun | 33 => 47 | n => n,fun | 0 => 0 | 3 => 3 | 4 => 4 | 22 => 57 | 23 => 34 | n => n,fun | n => n⟩
theorem Tryz.laysEq:Go.Proofs.SlLaysE.n33 Tryz.prog Tryz.laysEq_ren:={
 mixed:=by kernel_rfl
 f33:=⟨"slices.Equal[hornbook/flags.Set,hornbook/api.Flag]",by decide,Tryz.func47.trans (congrArg some (by kernel_rfl))⟩
 t0:=Tryz.underlying0
 a0:=Tryz.isAgg0
 z0:=Tryz.sizeOf0
 v0:=Tryz.zeroValue0
 t3:=Tryz.underlying3
 a3:=Tryz.isAgg3
 z3:=Tryz.sizeOf3
 v3:=Tryz.zeroValue3
 t4:=Tryz.underlying4
 a4:=Tryz.isAgg4
 z4:=Tryz.sizeOf4
 v4:=Tryz.zeroValue4
 t22:=Tryz.underlying57
 a22:=Tryz.isAgg57
 z22:=Tryz.sizeOf57
 v22:=Tryz.zeroValue57
 a23:=Tryz.isAgg34
 z23:=Tryz.sizeOf34 }
open Go.RowKit Go.Lib Go.Sort in
theorem Tryz.flag_Equal (b1 o1 n c b2 o2 m d:Nat) (xs ys:List Int) (w:World) (hx:n≤xs.length) (hy:m≤ys.length) (hbig:n≤9223372036854775807) (hbig2:m≤9223372036854775807) (hc1:∀ j,j < xs.length→w.cell? ⟨b1,o1 + j,none⟩=some (.int .u16 xs[j]!)) (hc2:∀ j,j < ys.length→w.cell? ⟨b2,o2 + j,none⟩=some (.int .u16 ys[j]!)) :
  Calls Tryz.prog 47 #[.slice (some ⟨b1,o1,none⟩) n c,.slice (some ⟨b2,o2,none⟩) m d] w fun e w' => e=.returned (.bool (Lib.allEq (fun x y => decide (x=y)) (xs.take n) (ys.take m)))∧∃ q,w'=w.drewN q :=
 AnyE.slices_Equal Tryz.laysEq (Value.int .u16) (fun x y => decide (x=y)) (NeqAt.intD _ _ .u16) b1 o1 n c b2 o2 m d xs ys w hx hy hbig hbig2 hc1 hc2
end Go.Proofs
namespace Go.Proofs.YtmhegbeemgagkaaGreatDoor
open Go.Sort Go.RowKit
namespace So

theorem allEq_dec:∀ (xs ys:List Int),Lib.allEq (fun x y => decide (x=y)) xs ys=decide (xs=ys)
 | [],[] => rfl
 | [],_ :: _ => rfl
 | _ :: _,[] => rfl
 | x :: xs,y :: ys => by
  have ih:=allEq_dec xs ys
  show (decide (x=y) && Lib.allEq (fun x y => decide (x=y)) xs ys)=_
  rw [ih]
  by_cases h1:x=y
  ·by_cases h2:xs=ys
   ·simp [h1,h2]
   ·simp [h1,h2]
  ·simp [h1]
theorem drew_below (W:World) (q n:Nat):Go.RowKit.Below n W (W.drewN q):=⟨rfl,rfl,rfl,Nat.le_refl _,fun _ _ => rfl⟩
theorem holds_list {W:World} {g:Nat} {l:List Int} (h:Holds encF W g 0 l.toArray):∀ j,j < l.length→W.cell? ⟨g,0 + j,none⟩=some (.int .u16 l[j]!):=fun j hj => by
 have:=(h j (by simpa using hj)).1
 rw [this]
 congr 2
 rw [getElem!_pos l.toArray j (by simpa using hj),getElem!_pos l j hj]
 simp
theorem MaxIs.below {w W:World} (h:MaxIs w) (hB:Go.RowKit.Below w.heap.size w W):MaxIs W:=by
 obtain ⟨m,hm⟩:=h
 refine ⟨m,(hB.cell (p:=⟨0,0,none⟩) ?_).trans hm⟩
 show 0 < w.heap.size
 rcases Nat.lt_or_ge 0 w.heap.size with hl | hl
 ·exact hl
 ·simp [World.cell?,Array.getElem?_eq_none hl] at hm
def Stt (w W:World) (L I:List (Value × List Int)):Prop:=Go.RowKit.Below w.heap.size w W∧(∀ p ∈ L,FArg W p.1 p.2)∧(∀ p ∈ I,IRow 0 W p.1 p.2)∧MaxIs W
theorem Stt.next {w W W':World} {L I:List (Value × List Int)} (h:Stt w W L I) (hB:Go.RowKit.Below W.heap.size W W'):Stt w W' L I:=⟨h.1.trans (hB.mono h.1.size),fun p hp => (h.2.1 p hp).below hB,fun p hp => (h.2.2.1 p hp).below hB,h.2.2.2.below hB⟩
theorem Stt.drew {w W:World} {L I:List (Value × List Int)} (h:Stt w W L I) (q:Nat):Stt w (W.drewN q) L I:=h.next ⟨rfl,rfl,rfl,Nat.le_refl _,fun _ _ => rfl⟩
theorem IRow.len {N:Nat} {W:World} {v:Value} {l:List Int} (h:IRow N W v l):∃ ao n c,v=.slice ao n c∧(n:Int)=l.length:=by
 obtain ⟨ao,c,e,_⟩:=h.form
 exact ⟨ao,_,c,e,rfl⟩
open Cut

theorem drew_low (W:World) (q:Nat):Go.RowKit.Below W.heap.size W (W.drewN q):=⟨rfl,rfl,rfl,Nat.le_refl _,fun _ _ => rfl⟩
def vals (kind:Int) (l:List UInt8):List Int:=(pieces kind l).map (One.val kind)
theorem vals_eq (kind:Int) (l:List UInt8):((pieces kind l).map mk).map (fun p => One.val kind p.data.toList)=vals kind l:=by
 unfold vals
 rw [List.map_map]
 apply List.map_congr_left
 intro p _
 show One.val kind (dl (mk p))=_
 rw [dl_mk]
theorem vals_bounds (kind:Int) (l:List UInt8):∀ x ∈ vals kind l,0≤x∧x≤65535:=by
 intro x hx
 obtain ⟨p,_,rfl⟩:=List.mem_map.1 hx
 exact One.val_bounds kind p
theorem pieces_sizes (kind:Int) (s:ByteArray) (hs:s.size≤1048576):∀ p ∈ (pieces kind (dl s)).map mk,p.size≤1048576:=by
 intro p hp
 obtain ⟨q,hq,rfl⟩:=List.mem_map.1 hp
 have:=pieces_mem kind (dl s) q hq
 rw [dl_len] at this
 rw [← dl_len,dl_mk]
 omega
theorem pieces_many (kind:Int) (s:ByteArray) (hs:s.size≤1048576):((pieces kind (dl s)).map mk).length≤1048577:=by
 have:=pieces_count kind (dl s)
 rw [dl_len] at this
 simp
 omega
theorem read_any (kind:Int) (s:ByteArray) (w:World) (hk:One.isK kind=true) (hM:MaxIs w) (hs:s.size≤1048576) :
  Calls Tryz.prog 41 #[.int .i64 kind,.string s] w fun e w' => ∃ u,e=.returned (.tuple #[u,.int .i64 (readE (vals kind (dl s)))])∧Go.RowKit.Below w.heap.size w w' ∧
   (readE (vals kind (dl s))=0→FRow w.heap.size w' u (setOf (vals kind (dl s))))∧(readE (vals kind (dl s))≠0→u=.slice none 0 0):=by
 have h:=read_with kind s ((pieces kind (dl s)).map mk) w hk (by have:=pieces_many kind s hs;omega) (fun p hp => by have:=pieces_sizes kind s hs p hp;unfold maxLen;omega) (cut_any kind s w hk hM hs)
 rw [vals_eq] at h
 refine h.mono ?_
 rintro e w' ⟨u,rfl,hB,h1,h2⟩
 refine ⟨u,rfl,hB,fun h0 => ?_,h2⟩
 obtain ⟨l,hl,hF⟩:=h1 h0
 rw [hl.eq] at hF
 exact hF
theorem read_bad (kind:Int) (s:ByteArray) (w:World) (hk:One.isK kind=false) :
  Calls Tryz.prog 41 #[.int .i64 kind,.string s] w fun e w' => e=.returned (.tuple #[.slice none 0 0,.int .i64 30])∧w'=w:=by
 have HKK:=hide (fun W => One.kind_any kind W)
 rw [hk] at HKK
 go_enter Tryz.func41,Tryz.ntmps41
 go_wp2_with (go_at_call 67;refine (unhide HKK _).mono ?_;rintro e w0 ⟨rfl,hw0⟩;obtain rfl:=hw0.symm)
 go_ret2
 exact ⟨rfl,rfl⟩
theorem refRead_bad (kind:Int) (s:ByteArray) (w:World) (hk:One.isK kind=false) :
  Calls Tryz.prog 44 #[.int .i64 kind,.string s] w fun e w' => e=.returned (.tuple #[.slice none 0 0,.int .i64 30])∧w'=w:=by
 have h2:kind < 1∨3 < kind:=by
  unfold One.isK at hk
  simp at hk
  omega
 by_cases h1:kind < 1
 ·go_enter Tryz.func44,Tryz.ntmps44
  go_wp2
  go_ret2
  exact ⟨rfl,rfl⟩
 ·have h3:3 < kind:=by omega
  clear h2
  go_enter Tryz.func44,Tryz.ntmps44
  go_wp2
  go_ret2
  exact ⟨rfl,rfl⟩
theorem refRead_empty (kind:Int) (s:ByteArray) (w:World) (hk:One.isK kind=true) (hs:s.size=0) :
  Calls Tryz.prog 44 #[.int .i64 kind,.string s] w fun e w' => e=.returned (.tuple #[.slice none 0 0,.int .i64 31])∧w'=w:=by
 have h2:¬ kind < 1∧¬ 3 < kind:=by
  unfold One.isK at hk
  simp at hk
  omega
 obtain ⟨h3,h4⟩:=h2
 clear hk
 go_enter Tryz.func44,Tryz.ntmps44
 go_wp2
 go_ret2
 exact ⟨rfl,rfl⟩

theorem owns_keep {W W':World} {B:Nat} {e:TypeId} {sz:Nat} {v:Value} {n:Nat} {xs:List Value} (h:W.ownsRow B e sz v n xs) (hB:Go.RowKit.Below W.heap.size W W'):W'.ownsRow B e sz v n xs:=by
 obtain ⟨h1,h2 | ⟨g,cap,cur,e,hg,hh,r⟩⟩:=h
 ·exact ⟨h1,.inl h2⟩
 ·exact ⟨h1,.inr ⟨g,cap,cur,e,hg,by rw [hB.block g (Array.getElem?_eq_some_iff.1 hh).1];exact hh,r⟩⟩
theorem min_step {k:Nat} (h:k≤64):min (k + 1) 65=min k 65 + 1∧min k 65=k:=by omega
theorem refRead_any (kind:Int) (s:ByteArray) (w:World) (hk:One.isK kind=true) (hs0:0 < s.size) (hs:s.size≤1048576) :
  Calls Tryz.prog 44 #[.int .i64 kind,.string s] w fun e w' => ∃ u,e=.returned (.tuple #[u,.int .i64 (readE (vals kind (dl s)))])∧Go.RowKit.Below w.heap.size w w' ∧
   (readE (vals kind (dl s))=0→IRow 0 w' u (setOf (vals kind (dl s))))∧(readE (vals kind (dl s))≠0→u=.slice none 0 0):=by
 obtain ⟨i0,hi,hz0,hz1,hz2⟩:=info_parts infoI
 have h2:¬ kind < 1∧¬ 3 < kind:=by
  unfold One.isK at hk
  simp at hk
  omega
 obtain ⟨h3,h4⟩:=h2
 have HP:=hide (parts_any kind s w hk hs hs0)
 have hcount:=pieces_many kind s hs
 have hsz:=pieces_sizes kind s hs
 have hve:=vals_eq kind (dl s)
 have hbd:=vals_bounds kind (dl s)
 clear hk
 generalize vals kind (dl s)=V at *
 generalize (pieces kind (dl s)).map mk=P at *
 have hVl:V.length=P.length:=by rw [← hve];simp
 have HO:Hid (∀ (k:Nat) p x W,P[k]?=some p→V[k]?=some x→Calls Tryz.prog 74 #[.int .i64 kind,.string p] W fun e w' => e=.returned (.int .i64 x)∧Go.RowKit.Below W.heap.size W w'):=fun k p x W hp hx => by
  refine (One.value_any kind p W (by have:=hsz p (List.mem_of_getElem? hp);unfold maxLen;omega)).mono ?_
  rintro e w' ⟨rfl,n,rfl⟩
  have ex:x=One.val kind p.data.toList:=by
   rw [← hve] at hx
   simp [hp] at hx
   exact hx.symm
  rw [ex]
  exact ⟨rfl,drew_low W n⟩
 have HNV:Hid (∀ (k:Nat) x,V[k]?=some x→(∀ y ∈ V.take k,y≠0)→x≠0→∀ y ∈ V.take (k + 1),y≠0):=fun k x hx h h2 y hy => by
  rw [take_snoc hx] at hy
  rcases List.mem_append.1 hy with hy | hy
  ·exact h y hy
  ·simp at hy;subst hy;exact h2
 have HBAD:Hid (∀ k:Nat,V[k]?=some 0→readE V=31):=fun k hx => by rw [readE,if_pos (List.mem_of_getElem? hx)]
 have HTK:Hid (∀ (k:Nat) x,V[k]?=some x→(V.take (k + 1)).map encI=(V.take k).map encI ++ [.int .i64 x]):=fun k x hx => by rw [take_snoc hx];simp [encI]
 have HOF:Hid (∀ W u,V.length≤64→IRow 0 W u V→Calls Tryz.prog 75 #[u] W fun e w' => ∃ u,e=.returned u∧IRow 0 w' u (setOf V)∧Go.RowKit.Below W.heap.size W w'):=fun W u hl h => by
  refine (refOf_any u V W h (fun x hx => (hbd x hx).1) (by omega)).mono ?_
  rintro e w' ⟨u,rfl,h1,h2⟩
  exact ⟨u,rfl,h1.low (Nat.zero_le _),h2⟩
 have HFORM:Hid (∀ (B:Nat) (W:World) u (k:Nat),k≤V.length→W.ownsRow B 3 1 u (min k 65) ((V.take (min k 65)).map encI)→∃ ao cap,u=.slice ao (min k 65) cap):=fun B W u k hk h => by
  have h2:IRow B W u (V.take (min k 65)):=by
   unfold IRow
   have e:(V.take (min k 65)).length=min k 65:=by simp;omega
   rw [e]
   exact h
  obtain ⟨ao,cap,e,_⟩:=h2.form
  refine ⟨ao,cap,?_⟩
  rw [e]
  congr 1
  simp
  omega
 have HFULL:Hid (∀ (B:Nat) (W:World) u,V.length≤64→W.ownsRow B 3 1 u (min V.length 65) ((V.take (min V.length 65)).map encI)→IRow 0 W u V):=fun B W u hl h => by
  have e:min V.length 65=V.length:=by omega
  rw [e,List.take_length] at h
  exact IRow.low (n₀:=B) h (Nat.zero_le _)
 clear hve hsz hbd
 generalize hnn:P.length=n at *
 have HN:=hide hnn
 have HVL:=hide hVl
 clear hnn
 rw [hVl] at HFORM HFULL HOF
 clear hVl
 have hnz:(n:Int)≤1048577:=by omega
 go_enter Tryz.func44,Tryz.ntmps44
 have hs1:((s.size:Int) == 0)=false:=by rw [beq_eq_false_iff_ne];omega
 go_wp2_with (go_at_call 73;refine (unhide HP).mono ?_;rintro e w1 ⟨u,rfl,hP,hB1⟩;obtain ⟨ao,cap,rfl,hcp,hcell⟩:=hP.form;rw [unhide HN] at hcp ⊢;have HCE:=hide hcell;have HB1:=hide hB1;clear hP hcell hB1)
 go_loopg [6,8] n (fun kk s6 s8 wr => ∃ k:Nat,s8=.int .i64 k∧k + kk=n∧Hid (wr.ownsRow w1.heap.size 3 1 s6 (min k 65) ((V.take (min k 65)).map encI))∧Hid (Go.RowKit.Below w1.heap.size w1 wr)∧Hid (∀ y ∈ V.take k,y≠0))
 case atStart => exact ⟨0,rfl,by omega,by rw [Hid];simp;exact IRow.nil _ _,Go.RowKit.Below.refl _ _,hide (fun y hy => by simp at hy)⟩
 case round =>
  obtain ⟨k,rfl,hk,HR,HB,HNZ⟩:=hrel
  have HBW:Hid (Go.RowKit.Below w.heap.size w wr):=(unhide HB1).trans ((unhide HB).mono (unhide HB1).size)
  obtain ⟨ao6,cap6,rfl⟩:=unhide HFORM _ _ _ k (by omega) (unhide HR)
  by_cases hlt:k < n
  ·have hltz:(k:Int) < (n:Int):=by omega
   obtain ⟨p,hp⟩:∃ p,P[k]?=some p:=⟨_,List.getElem?_eq_getElem (by rw [unhide HN];exact hlt)⟩
   obtain ⟨gp,op,rfl,hgp,hcp2⟩:=unhide HCE k p hp
   have hcw:wr.cell? ⟨gp,op + k,none⟩=some (.string p):=((unhide HB).cell (p:=⟨gp,op + k,none⟩) hgp).trans hcp2
   obtain ⟨x,hx⟩:∃ x,V[k]?=some x:=⟨_,List.getElem?_eq_getElem (by rw [unhide HVL];exact hlt)⟩
   have HOK:=hide (fun W => unhide HO k p x W hp hx)
   have HX:=hide hx
   clear hp hcp2 hgp hx
   by_cases hx0:x=0
   ·subst hx0
    have HR31:Hid (readE V=31):=unhide HBAD k (unhide HX)
    go_wp2_with (go_at_call 74;refine (unhide HOK _).mono ?_;rintro e w3 ⟨rfl,hB3⟩;have HB3:=hide hB3;clear hB3)
    go_ret2
    rw [unhide HR31]
    exact ⟨_,rfl,(unhide HBW).trans ((unhide HB3).mono (unhide HBW).size),fun h => (by cases h),fun _ => rfl⟩
   ·have hxz:(x == 0)=false:=by rw [beq_eq_false_iff_ne];exact hx0
    have HNZ2:=hide (unhide HNV k x (unhide HX) (unhide HNZ) hx0)
    clear hx0
    by_cases h64:k≤64
    ·have h64z:(k:Int)≤64:=by omega
     have HM1:=hide (min_step h64).1
     have HM2:=hide (min_step h64).2
     rw [unhide HM2] at HR HM1 ⊢
     have HT:=hide (unhide HTK k x (unhide HX))
     go_wp2_with (first
      | (go_at_call 74;refine (unhide HOK _).mono ?_;rintro e w3 ⟨rfl,hB3⟩;have HR3:=hide (owns_keep (unhide HR) hB3);have HB3:=hide ((unhide HB).trans (hB3.mono (unhide HB).size));clear hB3)
      | (at_builtin;refine wpList_append_own _ rfl _ _ 60 rfl w1.heap.size 3 i0 (.int .i64 0) 1 8 Tryz.underlying60 hi hz0 hz1 hz2 rfl (by decide) _ _ _ rfl ((unhide HR3).alloc _) ⟨w3.heap.size,0,none⟩ 1 1 [.int .i64 x] rfl rfl (cell_one_new _ _ _) (fun x hx => by simp at hx;subst hx;rfl) (by unfold maxLen;omega) (by omega) (by have:=(unhide HB3).size;simp;omega) ?_;intro v' w4 hown' hgrow _;have HO1:=hide hown';have HB4:=hide (irow_push (unhide HR3) (unhide HB3) hgrow);clear hown' hgrow))
     go_roundg (n - (k + 1))
     case rel => exact ⟨k + 1,by go_num,by omega,by rw [unhide HM1,unhide HT];exact HO1,HB4,HNZ2⟩
     case measure => omega
    ·have h64z:¬ ((65:Nat):Int)≤64:=by omega
     have hm:min k 65=65:=by omega
     have hm2:min (k + 1) 65=65:=by omega
     have HM2:=hide hm2
     rw [hm] at HR ⊢
     clear hm hm2
     go_wp2_with (go_at_call 74;refine (unhide HOK _).mono ?_;rintro e w3 ⟨rfl,hB3⟩;have HR3:=hide (owns_keep (unhide HR) hB3);have HB3:=hide ((unhide HB).trans (hB3.mono (unhide HB).size));clear hB3)
     go_roundg (n - (k + 1))
     case rel => exact ⟨k + 1,by go_num,by omega,by rw [unhide HM2];exact HR3,HB3,HNZ2⟩
     case measure => omega
  ·obtain rfl:k=n:=by omega
   have hltz:¬ (k:Int) < (k:Int):=by omega
   have hno:0 ∉ V:=fun h => unhide HNZ 0 (by rw [← unhide HVL,List.take_length];exact h) rfl
   by_cases h64:64 < k
   ·have h64z:(64:Int) < (k:Int):=by omega
    have HRE:Hid (readE V=32):=by rw [Hid,readE,if_neg hno,if_pos (by rw [unhide HVL];exact h64)]
    clear hno
    go_wp2
    go_ret2
    rw [unhide HRE]
    exact ⟨_,rfl,unhide HBW,fun h => (by cases h),fun _ => rfl⟩
   ·have h64z:¬ (64:Int) < (k:Int):=by omega
    have HRE:Hid (readE V=0):=by rw [Hid,readE,if_neg hno,if_neg (by rw [unhide HVL];exact h64)]
    have HOX:=hide (unhide HOF _ _ (by omega) (unhide HFULL _ _ _ (by omega) (unhide HR)))
    clear hno
    go_wp2_with (go_at_call 75;refine (unhide HOX).mono ?_;rintro e w4 ⟨u4,rfl,h4,hB4⟩;have H4:=hide h4;have HB4:=hide hB4;clear h4 hB4)
    go_ret2
    rw [unhide HRE]
    exact ⟨u4,rfl,(unhide HBW).trans ((unhide HB4).mono (unhide HBW).size),fun _ => unhide H4,fun h => absurd rfl h⟩
def rE (kind:Int) (l:List UInt8):Int:=if One.isK kind then readE (vals kind l) else 30
def rS (kind:Int) (l:List UInt8):List Int:=if rE kind l=0 then setOf (vals kind l) else []
theorem val_nil (kind:Int) (hk:One.isK kind=true):One.val kind []=0:=by
 have h3:kind=1∨kind=2∨kind=3:=by unfold One.isK at hk;simp at hk;omega
 rcases h3 with rfl | rfl | rfl <;> rfl
theorem vals_nil (kind:Int) (hk:One.isK kind=true):vals kind []=[0]:=by
 have h3:kind=1∨kind=2∨kind=3:=by unfold One.isK at hk;simp at hk;omega
 rcases h3 with rfl | rfl | rfl <;> rfl
theorem nil_farg (W:World):FArg W (.slice none 0 0) []:=⟨none,0,rfl,Nat.le_refl _,Nat.zero_le _,fun _ => rfl,fun h => absurd h (by simp)⟩
theorem refReadAll (kind:Int) (s:ByteArray) (w:World) (hs:s.size≤1048576) :
  Calls Tryz.prog 44 #[.int .i64 kind,.string s] w fun e w' => ∃ u,e=.returned (.tuple #[u,.int .i64 (rE kind (dl s))])∧IRow 0 w' u (rS kind (dl s))∧Go.RowKit.Below w.heap.size w w':=by
 unfold rS
 cases hk:One.isK kind
 ·refine (refRead_bad kind s w hk).mono ?_
  rintro e w' ⟨rfl,rfl⟩
  have e1:rE kind (dl s)=30:=by unfold rE;rw [hk];rfl
  rw [e1]
  exact ⟨_,rfl,IRow.nil _ _,Go.RowKit.Below.refl _ _⟩
 ·have e1:rE kind (dl s)=readE (vals kind (dl s)):=by unfold rE;rw [hk];rfl
  by_cases h0:s.size=0
  ·have e2:dl s=[]:=List.eq_nil_of_length_eq_zero (by rw [dl_len];exact h0)
   refine (refRead_empty kind s w hk h0).mono ?_
   rintro e w' ⟨rfl,rfl⟩
   have e3:readE [0]=31:=by decide
   rw [e1,e2,vals_nil kind hk,e3]
   exact ⟨_,rfl,IRow.nil _ _,Go.RowKit.Below.refl _ _⟩
  ·refine (refRead_any kind s w hk (by omega) hs).mono ?_
   rintro e w' ⟨u,rfl,hB,h1,h2⟩
   rw [e1]
   by_cases h0:readE (vals kind (dl s))=0
   ·rw [if_pos h0]
    exact ⟨u,rfl,h1 h0,hB⟩
   ·rw [if_neg h0]
    have:=h2 h0
    subst this
    exact ⟨_,rfl,IRow.nil _ _,hB⟩
end So
end Go.Proofs.YtmhegbeemgagkaaGreatDoor
