import Derived.Shelf.SlicesE.Index
import Derived.Test.YtmhegbeemgagkaaGreatDoorGn09
import Derived.Laws.AppendOwnNone
set_option maxHeartbeats 8000000
set_option maxRecDepth 100000
namespace Go.Proofs
open Go.Shelf
end Go.Proofs
namespace Go.Proofs.YtmhegbeemgagkaaGreatDoor
open Go.Sort Go.RowKit
namespace So

theorem FArg.cases {W:World} {v:Value} {l:List Int} (h:FArg W v l):(v=.slice none 0 0∧l=[])∨∃ ad c,v=.slice (some ad) l.length c∧l.length≤c∧c≤maxLen∧∀ W',Go.RowKit.Below W.heap.size W W'→∀ j u,(l.map encF)[j]?=some u→W'.cell? (ad.add j)=some u:=by
 obtain ⟨ao,cap,rfl,h1,h2,h3,h4⟩:=h
 cases ao with
 | none =>
  have hc:=h3 rfl
  have:l=[]:=List.eq_nil_of_length_eq_zero (by omega)
  subst this
  left
  exact ⟨by simp [hc],rfl⟩
 | some ad =>
  right
  refine ⟨ad,cap,rfl,h1,h2,fun W' hB j u hu => ?_⟩
  simp only [List.getElem?_map,Option.map_eq_some_iff] at hu
  obtain ⟨x,hx,rfl⟩:=hu
  have hj:j < l.length:=(List.getElem?_eq_some_iff.1 hx).1
  obtain ⟨g,off,e,hg,hc⟩:=h4 (by omega)
  cases e
  rw [Go.WideShapes.add_plain]
  exact (hB.cell (p:=⟨g,off + j,none⟩) hg).trans (hc j x hx)

def hasB (l:List Int) (x:Int):Bool:=l.any fun y => decide (x=y)

def encI (x:Int):Value:=.int .i64 x
def IRow (n₀:Nat) (W:World) (v:Value) (l:List Int):Prop:=W.ownsRow n₀ 3 1 v l.length (l.map encI)
theorem infoI:(Tryz.prog.info? 3).map (fun i => (i.zero,i.size,i.bytes))=some (some (.int .i64 0),1,8):=by kernel_rfl
theorem IRow.nil (n₀:Nat) (W:World):IRow n₀ W (.slice none 0 0) []:=⟨rfl,.inl ⟨rfl,rfl⟩⟩
theorem IRow.low {n₀ n₁:Nat} {W:World} {v:Value} {l:List Int} (h:IRow n₀ W v l) (k:n₁≤n₀):IRow n₁ W v l:=by
 obtain ⟨h1,h2 | ⟨g,cap,cur,e,hg,r⟩⟩:=h
 ·exact ⟨h1,.inl h2⟩
 ·exact ⟨h1,.inr ⟨g,cap,cur,e,Nat.le_trans k hg,r⟩⟩
theorem IRow.below {n₀:Nat} {W W':World} {v:Value} {l:List Int} (h:IRow n₀ W v l) (hB:Go.RowKit.Below W.heap.size W W'):IRow n₀ W' v l:=by
 obtain ⟨h1,h2 | ⟨g,cap,cur,e,hg,hh,r⟩⟩:=h
 ·exact ⟨h1,.inl h2⟩
 ·exact ⟨h1,.inr ⟨g,cap,cur,e,hg,by rw [hB.block g (Array.getElem?_eq_some_iff.1 hh).1];exact hh,r⟩⟩
theorem IRow.form {n₀:Nat} {W:World} {v:Value} {l:List Int} (h:IRow n₀ W v l):∃ ao cap,v=.slice ao l.length cap∧l.length≤maxLen∧∀ (k:Nat) x,l[k]?=some x→∃ g,ao=some ⟨g,0,none⟩∧g < W.heap.size∧W.cell? ⟨g,k,none⟩=some (.int .i64 x):=by
 obtain ⟨_,⟨rfl,h0⟩ | ⟨g,cap,cur,e,hg,hh,h1,h2,h3,h4⟩⟩:=h
 ·have:l=[]:=List.eq_nil_of_length_eq_zero h0
  subst this
  exact ⟨none,0,rfl,Nat.zero_le _,fun k x hx => by simp at hx⟩
 ·refine ⟨_,cap,e,by omega,fun k x hx => ⟨g,rfl,(Array.getElem?_eq_some_iff.1 hh).1,?_⟩⟩
  have hk:k < l.length:=(List.getElem?_eq_some_iff.1 hx).1
  rw [Nat.mul_one] at h4
  have hv:(cur.toList.take l.length)[k]?=some (encI x):=by rw [h4];simp [hx]
  rw [List.getElem?_take,if_pos hk] at hv
  simp only [World.cell?,hh]
  simpa [encI] using hv
theorem irow_push {w wr w1:World} {e:TypeId} {v:Value} {n:Nat} {xs:List Value} {o:Obj} (hown:wr.ownsRow w.heap.size e 1 v n xs) (hB:Go.RowKit.Below w.heap.size w wr) (hg:(wr.alloc o).grownBy w1 v.ownBlock):Go.RowKit.Below w.heap.size w w1 :=
 (hB.alloc hB.size o).grown hg (by have:=hB.size;simp;omega) (fun k e => (hown.lt k e).1)
theorem take_snoc {L:List Int} {k:Nat} {x:Int} (hx:L[k]?=some x):L.take (k + 1)=L.take k ++ [x]:=by
 have hk:k < L.length:=(List.getElem?_eq_some_iff.1 hx).1
 rw [List.take_succ_eq_append_getElem hk,(List.getElem?_eq_some_iff.1 hx).2]


def Nx (last:Int) (l:List Int) (n:Int):Prop:=(n=-1∧∀ x ∈ l,¬ last < x)∨(n ∈ l∧last < n∧0≤n∧∀ x ∈ l,last < x→n≤x)
theorem nx_nil (last:Int):Nx last [] (-1):=.inl ⟨rfl,fun x hx => by cases hx⟩
theorem nx_keep {last n x:Int} {l:List Int} (h:Nx last l n) (hx:¬ last < x∨(¬ n < 0∧¬ x < n)):Nx last (l ++ [x]) n:=by
 rcases h with ⟨h1,h2⟩ | ⟨h1,h2,h3,h4⟩
 ·refine .inl ⟨h1,fun y hy => ?_⟩
  rcases List.mem_append.1 hy with hy | hy
  ·exact h2 y hy
  ·simp at hy;subst hy
   rcases hx with hx | hx
   ·exact hx
   ·omega
 ·refine .inr ⟨List.mem_append.2 (.inl h1),h2,h3,fun y hy hl => ?_⟩
  rcases List.mem_append.1 hy with hy | hy
  ·exact h4 y hy hl
  ·simp at hy;subst hy
   rcases hx with hx | hx
   ·exact absurd hl hx
   ·omega
theorem nx_take {last n x:Int} {l:List Int} (h:Nx last l n) (hx0:0≤x) (hx:last < x) (hn:n < 0∨x < n):Nx last (l ++ [x]) x:=by
 refine .inr ⟨by simp,hx,hx0,fun y hy hl => ?_⟩
 rcases List.mem_append.1 hy with hy | hy
 ·rcases h with ⟨h1,h2⟩ | ⟨h1,h2,h3,h4⟩
  ·exact absurd hl (h2 y hy)
  ·have:=h4 y hy hl;omega
 ·simp at hy;omega
def Last (Z:List Int) (j:Nat) (last:Int):Prop:=j≤Z.length∧(j=0→last=-1)∧(0 < j→Z[j - 1]?=some last)
theorem last_split {Z:List Int} (hZ:Z.Pairwise (· < ·)) (h0:∀ x ∈ Z,0≤x) {j:Nat} {last:Int} (h:Last Z j last):∀ (i:Nat) (x:Int),Z[i]?=some x→(last < x↔j≤i):=by
 intro i x hx
 obtain ⟨hj,h1,h2⟩:=h
 have hi:i < Z.length:=(List.getElem?_eq_some_iff.1 hx).1
 have hix:Z[i]=x:=(List.getElem?_eq_some_iff.1 hx).2
 by_cases hz:j=0
 ·have:=h1 hz
  have:=h0 x (List.mem_of_getElem? hx)
  omega
 ·have hl:=h2 (by omega)
  have hjl:j - 1 < Z.length:=(List.getElem?_eq_some_iff.1 hl).1
  have hlx:Z[j - 1]=last:=(List.getElem?_eq_some_iff.1 hl).2
  have hp:=List.pairwise_iff_getElem.1 hZ
  constructor
  ·intro hlt
   rcases Nat.lt_trichotomy i (j - 1) with h | h | h
   ·have:=hp i (j - 1) hi hjl h
    omega
   ·subst h;omega
   ·omega
  ·intro hle
   have:=hp (j - 1) i hjl hi (by omega)
   omega
theorem nx_end {L:List Int} {j:Nat} {last n:Int} (h0:∀ x ∈ L,0≤x) (hl:Last (setOf L) j last) (h:Nx last L n):(n=-1∧(setOf L).take j=setOf L)∨(0≤n∧(setOf L)[j]?=some n∧Last (setOf L) (j + 1) n):=by
 have hZ:=(setOf_set L).1
 have hs:=last_split hZ (fun x hx => h0 x (mem_setOf.1 hx)) hl
 rcases h with ⟨h1,h2⟩ | ⟨h1,h2,h3,h4⟩
 ·left
  refine ⟨h1,List.take_of_length_le ?_⟩
  rcases Nat.lt_or_ge j (setOf L).length with hlt | hge
  ·have e:=List.getElem?_eq_getElem hlt
   have:=(hs j _ e).2 (Nat.le_refl _)
   exact absurd this (h2 _ (mem_setOf.1 (List.mem_of_getElem? e)))
  ·exact hge
 ·right
  obtain ⟨i,hi,hin⟩:=List.getElem_of_mem (mem_setOf.2 h1)
  have e:(setOf L)[i]?=some n:=by rw [List.getElem?_eq_getElem hi,hin]
  have hji:=(hs i n e).1 h2
  have hij:i=j:=by
   rcases Nat.lt_or_ge j i with hlt | hge
   ·have hjl:j < (setOf L).length:=by omega
    have ej:=List.getElem?_eq_getElem hjl
    have h5:=(hs j _ ej).2 (Nat.le_refl _)
    have h6:=h4 _ (mem_setOf.1 (List.mem_of_getElem? ej)) h5
    have h7:=List.pairwise_iff_getElem.1 hZ j i hjl hi hlt
    omega
   ·omega
  subst hij
  exact ⟨h3,e,by omega,fun h => by omega,fun _ => by simpa using e⟩
theorem last_zero (Z:List Int):Last Z 0 (-1):=⟨Nat.zero_le _,fun _ => rfl,fun h => absurd h (by omega)⟩

theorem refOf_any {n₀:Nat} (v:Value) (L:List Int) (w:World) (hI:IRow n₀ w v L) (h0:∀ x ∈ L,0≤x) (hn:L.length≤1099511627776) :
  Calls Tryz.prog 75 #[v] w fun e w' => ∃ u,e=.returned u∧IRow w.heap.size w' u (setOf L)∧Go.RowKit.Below w.heap.size w w':=by
 obtain ⟨i0,hi,hz0,hz1,hz2⟩:=info_parts infoI
 obtain ⟨ao,cap,rfl,hm,hcell⟩:=hI.form
 have HC:=hide hcell
 have HX:=hide h0
 have HZL:=(setOf_set L).len
 have HEND:=hide (fun (j:Nat) (last n:Int) => @nx_end L j last n h0)
 have HL0:=hide (last_zero (setOf L))
 have HSN:Hid (∀ (k:Nat) x,L[k]?=some x→L.take (k + 1)=L.take k ++ [x]):=fun k x h => take_snoc h
 have HTK:Hid (∀ (k:Nat) x,(setOf L)[k]?=some x→((setOf L).take (k + 1)).map encI=((setOf L).take k).map encI ++ [.int .i64 x]):=fun k x hx => by rw [take_snoc hx];simp [encI]
 have HTF:Hid (L.take L.length=L):=List.take_length
 have HFIN:Hid (∀ W u (j:Nat),j≤(setOf L).length→(setOf L).take j=setOf L→W.ownsRow w.heap.size 3 1 u j (((setOf L).take j).map encI)→IRow w.heap.size W u (setOf L)):=fun W u j hj h1 h2 => by
  rw [h1] at h2
  have:j=(setOf L).length:=by rw [← h1];simp [hj]
  rw [this] at h2
  exact h2
 have HLL:Hid (∀ (j:Nat) x,(setOf L)[j]?=some x→j < (setOf L).length):=fun j x h => (List.getElem?_eq_some_iff.1 h).1
 unfold maxLen at hm
 clear hcell hI h0
 generalize setOf L=Z at *
 generalize hzz:Z.length=zn at *
 generalize hnn:L.length=n at *
 have HN:=hide hnn
 clear hnn hzz
 have hnz:(n:Int)≤1099511627776:=by omega
 go_enter Tryz.func75,Tryz.ntmps75
 go_wp2
 go_loopg [3,4] zn (fun kk s3 s4 wr => ∃ (j:Nat) (last:Int),s4=.int .i64 last∧j + kk=zn∧Hid (Last Z j last)∧Hid (wr.ownsRow w.heap.size 3 1 s3 j ((Z.take j).map encI))∧Hid (Go.RowKit.Below w.heap.size w wr))
 case atStart => exact ⟨0,-1,rfl,by omega,HL0,IRow.nil _ _,Go.RowKit.Below.refl _ _⟩
 case round =>
  obtain ⟨j,last,rfl,hj,HLA,HR,HB⟩:=hrel
  obtain ⟨V,hV⟩:∃ V,V=wr:=⟨_,rfl⟩
  subst hV
  go_wp2
  go_loopg [5,6] n (fun k2 s5 s6 wx => wx=V∧∃ (k:Nat) (nx:Int),s5=.int .i64 nx∧s6=.int .i64 k∧k + k2=n∧Hid (Nx last (L.take k) nx))
  case atStart => exact ⟨rfl,0,-1,rfl,rfl,by omega,nx_nil _⟩
  case round =>
   obtain ⟨rfl,k,nx,rfl,rfl,hk,HNX⟩:=hrel
   by_cases hlt:k < n
   ·have hltz:(k:Int) < (n:Int):=by omega
    obtain ⟨x,hx⟩:∃ x,L[k]?=some x:=⟨_,List.getElem?_eq_getElem (by rw [unhide HN];exact hlt)⟩
    obtain ⟨g,rfl,hg,hc⟩:=unhide HC k x hx
    have hcw:=((unhide HB).cell (p:=⟨g,k,none⟩) hg).trans hc
    have hx0:=unhide HX x (List.mem_of_getElem? hx)
    have HSK:=hide (unhide HSN k x hx)
    clear hx hc hg
    by_cases h1:last < x
    ·by_cases h2:nx < 0
     ·have HN2:Hid (Nx last (L.take (k + 1)) x):=by rw [Hid,unhide HSK];exact nx_take (unhide HNX) hx0 h1 (.inl h2)
      go_wp2
      go_roundg (n - (k + 1))
      case rel => exact ⟨rfl,k + 1,x,rfl,by go_num,by omega,HN2⟩
      case measure => omega
     ·by_cases h3:x < nx
      ·have HN2:Hid (Nx last (L.take (k + 1)) x):=by rw [Hid,unhide HSK];exact nx_take (unhide HNX) hx0 h1 (.inr h3)
       go_wp2
       go_roundg (n - (k + 1))
       case rel => exact ⟨rfl,k + 1,x,rfl,by go_num,by omega,HN2⟩
       case measure => omega
      ·have HN2:Hid (Nx last (L.take (k + 1)) nx):=by rw [Hid,unhide HSK];exact nx_keep (unhide HNX) (.inr ⟨h2,h3⟩)
       go_wp2
       go_roundg (n - (k + 1))
       case rel => exact ⟨rfl,k + 1,nx,rfl,by go_num,by omega,HN2⟩
       case measure => omega
    ·have HN2:Hid (Nx last (L.take (k + 1)) nx):=by rw [Hid,unhide HSK];exact nx_keep (unhide HNX) (.inl h1)
     go_wp2
     go_roundg (n - (k + 1))
     case rel => exact ⟨rfl,k + 1,nx,rfl,by go_num,by omega,HN2⟩
     case measure => omega
   ·obtain rfl:k=n:=by omega
    have hltz:¬ (k:Int) < (k:Int):=by omega
    have hend:=unhide HEND j last nx (unhide HLA) (by have h:=unhide HNX;rwa [unhide HTF] at h)
    rcases hend with ⟨rfl,h5⟩ | ⟨h5,h6,h7⟩
    ·have HF:=hide (unhide HFIN _ _ j (by omega) h5 (unhide HR))
     clear h5
     go_wp2
     go_ret
     exact ⟨_,rfl,unhide HF,unhide HB⟩
    ·have hjl:=unhide HLL j nx h6
     have HT:=hide (unhide HTK j nx h6)
     have HLN:=hide h7
     have hge:¬ nx < 0:=by omega
     clear h6 h7
     go_wp2_with (at_builtin;refine wpList_append_own _ rfl _ _ 60 rfl w.heap.size 3 i0 (.int .i64 0) 1 8 Tryz.underlying60 hi hz0 hz1 hz2 rfl (by decide) _ _ _ rfl ((unhide HR).alloc _) ⟨wr.heap.size,0,none⟩ 1 1 [.int .i64 nx] rfl rfl (cell_one_new _ _ _) (fun x hx => by simp at hx;subst hx;rfl) (by unfold maxLen;omega) (by omega) (by have:=(unhide HB).size;simp;omega) ?_;intro v' w1 hown' hgrow _;have HO1:=hide hown';have HB1:=hide (irow_push (unhide HR) (unhide HB) hgrow);clear hown' hgrow)
     go_roundg (zn - (j + 1))
     case rel => exact ⟨j + 1,nx,rfl,by omega,HLN,by rw [unhide HT];exact HO1,HB1⟩
     case measure => omega


def kept (F:List Int) (S:List Int):List Int:=S.filter fun x => !hasB F x
theorem kept_snoc {F S:List Int} {k:Nat} {x:Int} (hx:S[k]?=some x):kept F (S.take (k + 1))=kept F (S.take k) ++ (if hasB F x then [] else [x]):=by
 have hk:k < S.length:=(List.getElem?_eq_some_iff.1 hx).1
 rw [List.take_succ_eq_append_getElem hk,(List.getElem?_eq_some_iff.1 hx).2]
 unfold kept
 rw [List.filter_append]
 cases h:hasB F x
 ·simp [h]
 ·simp [h]
structure Del (F S:List Int) (i j:Nat) (dk:Array Int):Prop where
 size:dk.size=S.length
 len:(kept F (S.take j)).length=i
 front:dk.toList.take i=kept F (S.take j)
 rest:∀ t,j≤t→dk[t]! = S[t]!
 ij:i < j
theorem Del.skip {F S:List Int} {i j:Nat} {dk:Array Int} (h:Del F S i j dk) {x:Int} (hx:S[j]?=some x) (hb:hasB F x=true):Del F S i (j + 1) dk:=by
 have e:=kept_snoc (F:=F) hx
 rw [hb] at e
 simp at e
 exact ⟨h.size,by rw [e];exact h.len,by rw [e];exact h.front,fun t ht => h.rest t (by omega),by have:=h.ij;omega⟩
theorem Del.keep {F S:List Int} {i j:Nat} {dk:Array Int} (h:Del F S i j dk) {x:Int} (hx:S[j]?=some x) (hb:hasB F x=false):Del F S (i + 1) (j + 1) (dk.setIfInBounds i x):=by
 have e:=kept_snoc (F:=F) hx
 rw [hb] at e
 simp at e
 have hj:j < S.length:=(List.getElem?_eq_some_iff.1 hx).1
 have hij:=h.ij
 have hs:=h.size
 refine ⟨by simpa using hs,by rw [e];simp [h.len],?_,fun t ht => ?_,by omega⟩
 ·rw [e,← h.front]
  have hi:i < dk.size:=by omega
  rw [List.take_succ_eq_append_getElem (by simpa using hi)]
  congr 1
  ·simp [List.take_set_of_le]
  ·simp
 ·rw [getElem!_set_other dk i t x (by omega)]
  exact h.rest t (by omega)

theorem set_bounds {L:List Int} {P:Int→Prop} (h:∀ x ∈ L,P x):∀ x ∈ setOf L,P x:=fun x hx => h x (mem_setOf.1 hx)
theorem eq_snoc {Z Y:List Int} {k:Nat} {x y:Int} (hx:Z[k]?=some x) (hy:Y[k]?=some y) (h:Z.take k=Y.take k) (e:x=y):Z.take (k + 1)=Y.take (k + 1):=by rw [take_snoc hx,take_snoc hy,h,e]
theorem refEqual_any {n₀ n₁:Nat} (v t:Value) (S T:List Int) (w:World) (hS:IRow n₀ w v S) (hT:IRow n₁ w t T) (h0:∀ x ∈ S,0≤x) (h1:∀ x ∈ T,0≤x) (hn:S.length + T.length≤1099511627776) :
  Calls Tryz.prog 50 #[v,t] w fun e w' => e=.returned (.bool (decide (setOf S=setOf T)))∧Go.RowKit.Below w.heap.size w w':=by
 have HO1:=hide (refOf_any v S w hS h0 (by omega))
 have HO2:Hid (∀ W,Go.RowKit.Below w.heap.size w W→Calls Tryz.prog 75 #[t] W fun e w' => ∃ u,e=.returned u∧IRow W.heap.size w' u (setOf T)∧Go.RowKit.Below W.heap.size W w'):=fun W hB => refOf_any t T W (hT.below hB) h1 (by omega)
 have HFM1:Hid (∀ n W u,IRow n W u (setOf S)→∃ ao cap,u=.slice ao (setOf S).length cap∧(setOf S).length≤maxLen∧∀ (k:Nat) x,(setOf S)[k]?=some x→∃ g,ao=some ⟨g,0,none⟩∧g < W.heap.size∧W.cell? ⟨g,k,none⟩=some (.int .i64 x)):=fun n W u h => h.form
 have HFM2:Hid (∀ n W u,IRow n W u (setOf T)→∃ ao cap,u=.slice ao (setOf T).length cap∧(setOf T).length≤maxLen∧∀ (k:Nat) x,(setOf T)[k]?=some x→∃ g,ao=some ⟨g,0,none⟩∧g < W.heap.size∧W.cell? ⟨g,k,none⟩=some (.int .i64 x)):=fun n W u h => h.form
 have HES:=hide (fun (k:Nat) (x y:Int) => @eq_snoc (setOf S) (setOf T) k x y)
 have HTF1:Hid ((setOf S).take (setOf S).length=setOf S):=List.take_length
 have HTF2:Hid ((setOf T).take (setOf T).length=setOf T):=List.take_length
 have hz1:=(setOf_set S).len
 have hz2:=(setOf_set T).len
 clear hS hT h0 h1
 generalize setOf S=Z at *
 generalize setOf T=Y at *
 have HNE:Hid (Z.length≠Y.length→decide (Z=Y)=false):=fun h => decide_eq_false (fun e => h (by rw [e]))
 have HNX:Hid (∀ (k:Nat) (x y:Int),Z[k]?=some x→Y[k]?=some y→x≠y→decide (Z=Y)=false):=fun k x y h1 h2 h => decide_eq_false (fun e => h (by rw [e,h2] at h1;exact (Option.some.inj h1).symm))
 have HEE:Hid (∀ k:Nat,Z.take k=Z→Y.take k=Y→Z.take k=Y.take k→decide (Z=Y)=true):=fun k h1 h2 h3 => decide_eq_true (by rw [← h1,h3,h2])
 generalize decide (Z=Y)=b at *
 generalize hnn:Z.length=n at *
 generalize hmm:Y.length=m at *
 have HN:=hide hnn
 have HM:=hide hmm
 clear hnn hmm
 have hnz:(n:Int)≤1099511627776:=by omega
 go_enter Tryz.func50,Tryz.ntmps50
 by_cases hl:n=m
 ·subst hl
  go_wp2_with (go_at_call 75;first
   | (refine (unhide HO1).mono ?_;rintro e w1 ⟨z,rfl,hZ,hB1⟩;have HZ:=hide hZ;have HB1:=hide hB1;have HOX:=hide (unhide HO2 _ hB1);clear hZ hB1 HO1)
   | (refine (unhide HOX).mono ?_;rintro e w2 ⟨y,rfl,hY,hB2⟩;obtain ⟨ao,cap,rfl,hm,hcell⟩:=unhide HFM1 _ _ _ ((unhide HZ).below hB2);obtain ⟨ao2,cap2,rfl,hm2,hcell2⟩:=unhide HFM2 _ _ _ hY;have HC:=hide hcell;have HC2:=hide hcell2;have HB:=hide ((unhide HB1).trans (hB2.mono (unhide HB1).size));clear hcell hcell2 hB2 hY HOX))
  unfold maxLen at hm
  clear HFM1 HFM2 HO2
  go_loopw [7] (fun si wr => ∃ k q:Nat,si=.int .i64 k∧k≤n∧Hid (Z.take k=Y.take k)∧wr=w2.drewN q) (fun si _ => n - (intOf si).toNat)
  case atStart => exact ⟨0,0,rfl,Nat.zero_le _,by rw [Hid];simp,rfl⟩
  case round =>
   obtain ⟨k,q,rfl,hk,HTT,rfl⟩:=hrel
   by_cases hlt:k < n
   ·have hltz:(k:Int) < (n:Int):=by omega
    obtain ⟨x,hx⟩:∃ x,Z[k]?=some x:=⟨_,List.getElem?_eq_getElem (by rw [unhide HN];exact hlt)⟩
    obtain ⟨y,hy⟩:∃ y,Y[k]?=some y:=⟨_,List.getElem?_eq_getElem (by rw [unhide HM];exact hlt)⟩
    obtain ⟨g,rfl,_,hcw⟩:=unhide HC k x hx
    obtain ⟨g2,rfl,_,hcw2⟩:=unhide HC2 k y hy
    by_cases hxy:x=y
    ·subst hxy
     have HT2:=hide (unhide HES k x x hx hy (unhide HTT) rfl)
     clear hx hy
     go_wp2
     go_quiet (fail)
     go_wp2
     go_roundw
     case rel => exact ⟨k + 1,_,by go_num,by omega,HT2,rfl⟩
     case measure => simp [intOf];omega
    ·have HBF:=hide (unhide HNX k x y hx hy hxy)
     have hne:(x != y)=true:=by rw [bne_iff_ne];exact hxy
     clear hx hy hxy
     go_wp2
     go_quiet (fail)
     go_wp2
     go_ret
     exact ⟨by rw [unhide HBF];rfl,(unhide HB).trans ⟨rfl,rfl,rfl,Nat.le_refl _,fun _ _ => rfl⟩⟩
   ·obtain rfl:k=n:=by omega
    have hltz:¬ (k:Int) < (k:Int):=by omega
    have HBT:=hide (unhide HEE k (unhide HTF1) (unhide HTF2) (unhide HTT))
    go_wp2
    go_ret
    exact ⟨by rw [unhide HBT];rfl,(unhide HB).trans ⟨rfl,rfl,rfl,Nat.le_refl _,fun _ _ => rfl⟩⟩
 ·have hne:((n:Int) != (m:Int))=true:=by rw [bne_iff_ne];omega
  have HBF:=hide (unhide HNE hl)
  go_wp2_with (go_at_call 75;first
   | (refine (unhide HO1).mono ?_;rintro e w1 ⟨z,rfl,hZ,hB1⟩;have HZ:=hide hZ;have HB1:=hide hB1;have HOX:=hide (unhide HO2 _ hB1);clear hZ hB1 HO1)
   | (refine (unhide HOX).mono ?_;rintro e w2 ⟨y,rfl,hY,hB2⟩;obtain ⟨ao,cap,rfl,hm,hcell⟩:=unhide HFM1 _ _ _ ((unhide HZ).below hB2);obtain ⟨ao2,cap2,rfl,hm2,hcell2⟩:=unhide HFM2 _ _ _ hY;have HB:=hide ((unhide HB1).trans (hB2.mono (unhide HB1).size));clear hcell hcell2 hB2 hY HOX))
  go_ret
  exact ⟨by rw [unhide HBF];rfl,unhide HB⟩
end So
end Go.Proofs.YtmhegbeemgagkaaGreatDoor
