import Derived.Test.YtmhegbeemgagkaaGreatDoorGn20
namespace Go.Proofs.YtmhegbeemgagkaaGreatDoor
open Go.RowKit
namespace Af
open RowB
theorem take_none {α:Type} {L:List α} {k:Nat} {x:α} {p:α→Prop} (h:∀ y ∈ L.take k,¬ p y) (hx:L[k]?=some x) (hn:¬ p x):∀ y ∈ L.take (k + 1),¬ p y:=by
 intro y hy
 obtain ⟨hk,e⟩:=List.getElem?_eq_some_iff.1 hx
 rw [List.take_succ_eq_append_getElem hk,List.mem_append,List.mem_singleton] at hy
 rcases hy with q | q
 ·exact h y q
 ·rw [q,e];exact hn
theorem own_strs {B:Nat} {w:World} {v:Value} {L:List Bs} (h:w.ownsRow B 9 1 v L.length (L.map strC)):∃ ao cap,v=.slice ao L.length cap∧L.length≤maxLen∧∀ (k:Nat) x,L[k]?=some x→∃ g,ao=some ⟨g,0,none⟩∧g < w.heap.size∧w.cell? ⟨g,k,none⟩=some (strC x):=by
 obtain ⟨ao,cap,e,h1,h2⟩:=own_len h
 refine ⟨ao,cap,e,Nat.le_trans h1 h2,fun k x hk => ?_⟩
 have hlt:=(List.getElem?_eq_some_iff.1 hk).1
 obtain ⟨g,cap',e',-,hg,-,-,-,hc⟩:=own_at h (Nat.lt_of_le_of_lt (Nat.zero_le _) hlt)
 rw [e] at e'
 injection e' with e' _ _
 subst e'
 exact ⟨g,rfl,hg,(hc k (by omega)).trans (by simp [hk])⟩
set_option maxHeartbeats 1000000 in
theorem stood_doc {B rb:Nat} {w:World} {R:Rdr} {P:DPts} {v:Value} {A:List (Nat × List Bs)} (h:DAt B w rb R P v A) (s:ByteArray) :
  Calls Tryz.prog 32 #[ptr rb,.string s] w fun e w' => e=.returned (.bool (decide (s.data.toList ∈ R.heads)))∧Below w.heap.size w w':=by
 obtain ⟨-,-,-,-,d4,-,-⟩:=h.cells
 obtain ⟨ao,cap,eh,hmx,hcl⟩:=own_strs h.hds
 rw [eh] at d4
 have hlt:=h.lt
 have hne:∀ x,x ∈ R.heads.take R.heads.length↔x ∈ R.heads:=fun x => by rw [List.take_length]
 generalize R.heads=H at *
 obtain ⟨n,hn⟩:∃ n,H.length=n:=⟨_,rfl⟩
 rw [hn] at d4 hmx hne
 have HN:=hide hn
 have HC:=hide hcl
 have HE:=hide hne
 unfold maxLen at hmx
 clear h eh hcl hn hne
 go_enter Tryz.func32,Tryz.ntmps32
 go_wp2
 go_loopw [5] (fun i wr => ∃ k:Nat,i=.int .i64 k∧k≤n∧Hid (Below w.heap.size w wr)∧Hid (∀ y ∈ H.take k,¬ y=s.data.toList)) (fun i _ => n - (intOf i).toNat)
 case atStart => exact ⟨0,rfl,Nat.zero_le _,Below.refl _ _,hide (fun y hy => by simp at hy)⟩
 case round =>
  obtain ⟨k,rfl,hk,HB,HT⟩:=hrel
  replace d4:=((unhide HB).cell (p:=⟨rb,4,none⟩) hlt).trans d4
  by_cases hkn:k < n
  ·have hki:(k:Int) < (n:Int):=by omega
   have hk0:¬ (k:Int) < 0:=by omega
   obtain ⟨x,hx⟩:∃ x,H[k]?=some x:=⟨_,List.getElem?_eq_getElem (by rw [unhide HN];exact hkn)⟩
   obtain ⟨g,rfl,hg,hc⟩:=unhide HC k x hx
   replace hc:=((unhide HB).cell (p:=⟨g,k,none⟩) hg).trans hc
   unfold strC at hc
   have e1:(Fld.str x).toList=x:=by rw [Lib.toList_data];simp [Fld.str]
   have HX:=hide hx
   by_cases he:x=s.data.toList
   ·have heq:((Fld.str x).toList == s.toList)=true:=by rw [e1,Lib.toList_data,beq_iff_eq];exact he
    have hD:Hid (s.data.toList ∈ H):=by rw [Hid,← he];exact List.mem_of_getElem? hx
    clear he e1 hx
    generalize Fld.str x=r1 at *
    go_wp2
    go_ret
    rw [decide_eq_true (unhide hD)]
    exact ⟨rfl,unhide HB⟩
   ·have heq:((Fld.str x).toList == s.toList)=false:=by rw [e1,Lib.toList_data,beq_eq_false_iff_ne];exact he
    have HT2:=hide (take_none (unhide HT) hx he)
    clear he e1 hx
    generalize Fld.str x=r1 at *
    go_wp2
    go_roundw
    case rel => exact ⟨k + 1,by go_num,by omega,HB,HT2⟩
    case measure => simp [intOf];omega
  ·obtain rfl:k=n:=by omega
   have hki:¬ (k:Int) < (k:Int):=by omega
   have hD:Hid (s.data.toList ∉ H):=by
    intro q
    exact unhide HT _ ((unhide HE _).2 q) rfl
   go_wp2
   go_ret
   rw [decide_eq_false (unhide hD)]
   exact ⟨rfl,unhide HB⟩
def dclsV (c:Cls):Value:=.agg #[.int .i64 c.flag,.int .i64 c.kind,.bool c.cross,.int .i64 (c.first:Nat),.int .i64 (c.count:Nat)]
def zclsV:Value:=.agg #[.int .i64 0,.int .i64 0,.bool false,.int .i64 0,.int .i64 0]
def fndV (C:List Cls) (x:Int):Value:=match findC C x with
 | some i => (match C[i]? with
  | some c => dclsV c
  | none => zclsV)
 | none => zclsV
theorem findC_at {x:Int}:∀ {C:List Cls} {k:Nat} {c:Cls},C[k]?=some c→c.flag=x→(∀ d ∈ C.take k,¬ d.flag=x)→findC C x=some k
 | [],k,c,h,_,_ => by simp at h
 | d :: t,0,c,h,hc,_ => by
  simp only [List.getElem?_cons_zero,Option.some.injEq] at h
  subst h
  simp [findC,hc]
 | d :: t,k + 1,c,h,hc,hn => by
  rw [List.getElem?_cons_succ] at h
  have h1:¬ d.flag=x:=hn d (by simp)
  have h2:=findC_at h hc (fun y hy => hn y (by simp [hy]))
  simp [findC,h1,h2]
theorem findC_no {x:Int}:∀ {C:List Cls},(∀ d ∈ C,¬ d.flag=x)→findC C x=none
 | [],_ => rfl
 | d :: t,h => by
  have h1:¬ d.flag=x:=h d (by simp)
  have h2:=findC_no (fun y (hy:y ∈ t) => h y (by simp [hy]))
  simp [findC,h1,h2]
theorem own_cls {B:Nat} {w:World} {v:Value} {C:List Cls} (h:w.ownsRow B 52 5 v C.length (C.flatMap dclsC)):∃ ao cap,v=.slice ao C.length cap∧C.length≤maxLen∧∀ (k:Nat) c,C[k]?=some c→∃ g,ao=some ⟨g,0,none⟩∧g < w.heap.size∧w.cell? ⟨g,k * 5,none⟩=some (.int .i64 c.flag)∧w.cell? ⟨g,k * 5 + 1,none⟩=some (.int .i64 c.kind)∧w.cell? ⟨g,k * 5 + 2,none⟩=some (.bool c.cross)∧w.cell? ⟨g,k * 5 + 3,none⟩=some (.int .i64 (c.first:Nat))∧w.cell? ⟨g,k * 5 + 4,none⟩=some (.int .i64 (c.count:Nat)):=by
 obtain ⟨ao,cap,e,h1,h2⟩:=own_len h
 refine ⟨ao,cap,e,Nat.le_trans h1 h2,fun k c hk => ?_⟩
 have hlt:=(List.getElem?_eq_some_iff.1 hk).1
 obtain ⟨g,cap',e',-,hg,-,-,-,hc⟩:=own_at h (Nat.lt_of_le_of_lt (Nat.zero_le _) hlt)
 rw [e] at e'
 injection e' with e' _ _
 subst e'
 have q:∀ j,j < 5→w.cell? ⟨g,k * 5 + j,none⟩=(dclsC c)[j]?:=fun j hj => by
  exact (hc _ (by omega)).trans (flat_get (f:=dclsC) (m:=5) (fun _ => rfl) hk hj)
 exact ⟨g,rfl,hg,q 0 (by decide),q 1 (by decide),q 2 (by decide),q 3 (by decide),q 4 (by decide)⟩
theorem fndV_form (C:List Cls) (x:Int):∃ f k:Int,∃ b:Bool,∃ i n:Int,fndV C x=.agg #[.int .i64 f,.int .i64 k,.bool b,.int .i64 i,.int .i64 n]:=by
 unfold fndV dclsV zclsV
 repeat' split
 all_goals exact ⟨_,_,_,_,_,rfl⟩
set_option maxHeartbeats 1000000 in
theorem find_doc {B:Nat} {w:World} {F:Fil} {P:DPts} (h:DFAt B w F P) (x:Int) :
  Calls Tryz.prog 16 #[ptr P.fb,.int .i64 x] w fun e w' => e=.returned (.tuple #[fndV F.classes x,.bool (findC F.classes x).isSome])∧Below w.heap.size w w':=by
 obtain ⟨-,-,-,-,-,-,d11,-,-⟩:=h.cells
 obtain ⟨ao,cap,eh,hmx,hcl⟩:=own_cls h.clss
 rw [eh] at d11
 have hlt:=h.lt
 have hne:∀ x,x ∈ F.classes.take F.classes.length↔x ∈ F.classes:=fun x => by rw [List.take_length]
 generalize F.classes=C at *
 generalize P.fb=fb at *
 obtain ⟨n,hn⟩:∃ n,C.length=n:=⟨_,rfl⟩
 rw [hn] at d11 hmx hne
 have HN:=hide hn
 have HC:=hide hcl
 have HE:=hide hne
 unfold maxLen at hmx
 clear h eh hcl hn hne
 go_enter Tryz.func16,Tryz.ntmps16
 go_wp2
 obtain ⟨w0,hw0⟩:∃ w0,w.alloc (.cells #[.int .i64 0,.int .i64 0,.bool false,.int .i64 0,.int .i64 0] 52)=w0:=⟨_,rfl⟩
 have hn0:=alloc_new w (.cells #[.int .i64 0,.int .i64 0,.bool false,.int .i64 0,.int .i64 0] 52)
 have HB0:Hid (Below w.heap.size w w0):=by rw [← hw0];exact (Below.refl _ w).alloc (Nat.le_refl _) _
 have hsz0:w.heap.size < w0.heap.size:=by rw [← hw0];simp
 rw [hw0] at hn0 ⊢
 have HN0:=hide hn0
 clear hw0 hn0
 go_loopw [6] (fun i wr => ∃ k:Nat,i=.int .i64 k∧k≤n∧Hid (Below w0.heap.size w0 wr)∧Hid (∀ y ∈ C.take k,¬ y.flag=x)) (fun i _ => n - (intOf i).toNat)
 case atStart => exact ⟨0,rfl,Nat.zero_le _,Below.refl _ _,hide (fun y hy => by simp at hy)⟩
 case round =>
  obtain ⟨k,rfl,hk,HB,HT⟩:=hrel
  have HBW:Hid (Below w.heap.size w wr):=(unhide HB0).trans ((unhide HB).mono (Nat.le_of_lt hsz0))
  replace d11:=((unhide HBW).cell (p:=⟨fb,11,none⟩) hlt).trans d11
  have hblk:wr.heap[w.heap.size]?=some (.cells #[.int .i64 0,.int .i64 0,.bool false,.int .i64 0,.int .i64 0] 52 (0,0)):=((unhide HB).block _ hsz0).trans (unhide HN0)
  have z0:wr.cell? ⟨w.heap.size,0,none⟩=some (.int .i64 0):=by simp [World.cell?,hblk]
  have z1:wr.cell? ⟨w.heap.size,1,none⟩=some (.int .i64 0):=by simp [World.cell?,hblk]
  have z2:wr.cell? ⟨w.heap.size,2,none⟩=some (.bool false):=by simp [World.cell?,hblk]
  have z3:wr.cell? ⟨w.heap.size,3,none⟩=some (.int .i64 0):=by simp [World.cell?,hblk]
  have z4:wr.cell? ⟨w.heap.size,4,none⟩=some (.int .i64 0):=by simp [World.cell?,hblk]
  have zf:∀ j,wr.frozen? ⟨w.heap.size,j,none⟩=false:=fun j => by simp [World.frozen?,hblk]
  have zl:w.heap.size < wr.heap.size:=lt_some hblk
  have HBLK:=hide hblk
  clear hblk
  by_cases hkn:k < n
  ·have hki:(k:Int) < (n:Int):=by omega
   have hk0:¬ (k:Int) < 0:=by omega
   obtain ⟨c,hx⟩:∃ c,C[k]?=some c:=⟨_,List.getElem?_eq_getElem (by rw [unhide HN];exact hkn)⟩
   obtain ⟨g,rfl,hg,q0,q1,q2,q3,q4⟩:=unhide HC k c hx
   replace q0:=((unhide HBW).cell (p:=⟨g,k * 5,none⟩) hg).trans q0
   replace q1:=((unhide HBW).cell (p:=⟨g,k * 5 + 1,none⟩) hg).trans q1
   replace q2:=((unhide HBW).cell (p:=⟨g,k * 5 + 2,none⟩) hg).trans q2
   replace q3:=((unhide HBW).cell (p:=⟨g,k * 5 + 3,none⟩) hg).trans q3
   replace q4:=((unhide HBW).cell (p:=⟨g,k * 5 + 4,none⟩) hg).trans q4
   have HX:=hide hx
   by_cases he:c.flag=x
   ·have hD:=hide (findC_at hx he (unhide HT))
    subst he
    have heq:(c.flag == c.flag)=true:=by simp
    clear hx
    go_wp2
    unfold fndV
    rw [unhide hD]
    simp only [unhide HX]
    obtain ⟨W,hW⟩:∃ W,(((((wr.setCell ⟨w.heap.size,0,none⟩ (.int .i64 c.flag)).setCell ⟨w.heap.size,1,none⟩ (.int .i64 c.kind)).setCell ⟨w.heap.size,2,none⟩ (.bool c.cross)).setCell ⟨w.heap.size,3,none⟩ (.int .i64 (c.first:Nat))).setCell ⟨w.heap.size,4,none⟩ (.int .i64 (c.count:Nat)))=W:=⟨_,rfl⟩
    rw [hW]
    have hb:W.heap[w.heap.size]?=some (.cells #[.int .i64 c.flag,.int .i64 c.kind,.bool c.cross,.int .i64 (c.first:Nat),.int .i64 (c.count:Nat)] 52 (0,0)):=by rw [← hW];exact (set_heap1 (k:=4) (set_heap1 (k:=3) (set_heap1 (k:=2) (set_heap1 (k:=1) (set_heap1 (k:=0) (unhide HBLK) _) _) _) _) _)
    have hlow:Below w.heap.size w W:=by rw [← hW];exact ((((((unhide HBW).setCell (p:=⟨w.heap.size,0,none⟩) (Nat.le_refl _) _).setCell (p:=⟨w.heap.size,1,none⟩) (Nat.le_refl _) _).setCell (p:=⟨w.heap.size,2,none⟩) (Nat.le_refl _) _).setCell (p:=⟨w.heap.size,3,none⟩) (Nat.le_refl _) _).setCell (p:=⟨w.heap.size,4,none⟩) (Nat.le_refl _) _)
    have r0:W.cell? ⟨w.heap.size,0,none⟩=some (.int .i64 c.flag):=by simp [World.cell?,hb]
    have r1:W.cell? ⟨w.heap.size,1,none⟩=some (.int .i64 c.kind):=by simp [World.cell?,hb]
    have r2:W.cell? ⟨w.heap.size,2,none⟩=some (.bool c.cross):=by simp [World.cell?,hb]
    have r3:W.cell? ⟨w.heap.size,3,none⟩=some (.int .i64 (c.first:Nat)):=by simp [World.cell?,hb]
    have r4:W.cell? ⟨w.heap.size,4,none⟩=some (.int .i64 (c.count:Nat)):=by simp [World.cell?,hb]
    refine bodyPost_ret (v:=.tuple #[dclsV c,.bool true]) (by simp [results,Tryz.results16,go_sem,dclsV,r0,r1,r2,r3,r4]) rfl ⟨rfl,hlow⟩
   ·have heq:(c.flag == x)=false:=by rw [beq_eq_false_iff_ne];exact he
    have HT2:=hide (take_none (unhide HT) hx he)
    clear hx
    go_wp2
    go_roundw
    case rel => exact ⟨k + 1,by go_num,by omega,HB,HT2⟩
    case measure => simp [intOf];omega
  ·obtain rfl:k=n:=by omega
   have hki:¬ (k:Int) < (k:Int):=by omega
   have hD:Hid (findC C x=none):=findC_no fun d hd => unhide HT _ ((unhide HE _).2 hd)
   go_wp2
   unfold fndV
   rw [unhide hD]
   obtain ⟨W,hW⟩:∃ W,(((((wr.setCell ⟨w.heap.size,0,none⟩ (.int .i64 0)).setCell ⟨w.heap.size,1,none⟩ (.int .i64 0)).setCell ⟨w.heap.size,2,none⟩ (.bool false)).setCell ⟨w.heap.size,3,none⟩ (.int .i64 0)).setCell ⟨w.heap.size,4,none⟩ (.int .i64 0))=W:=⟨_,rfl⟩
   rw [hW]
   have hb:W.heap[w.heap.size]?=some (.cells #[.int .i64 0,.int .i64 0,.bool false,.int .i64 0,.int .i64 0] 52 (0,0)):=by rw [← hW];exact (set_heap1 (k:=4) (set_heap1 (k:=3) (set_heap1 (k:=2) (set_heap1 (k:=1) (set_heap1 (k:=0) (unhide HBLK) _) _) _) _) _)
   have hlow:Below w.heap.size w W:=by rw [← hW];exact ((((((unhide HBW).setCell (p:=⟨w.heap.size,0,none⟩) (Nat.le_refl _) _).setCell (p:=⟨w.heap.size,1,none⟩) (Nat.le_refl _) _).setCell (p:=⟨w.heap.size,2,none⟩) (Nat.le_refl _) _).setCell (p:=⟨w.heap.size,3,none⟩) (Nat.le_refl _) _).setCell (p:=⟨w.heap.size,4,none⟩) (Nat.le_refl _) _)
   have r0:W.cell? ⟨w.heap.size,0,none⟩=some (.int .i64 0):=by simp [World.cell?,hb]
   have r1:W.cell? ⟨w.heap.size,1,none⟩=some (.int .i64 0):=by simp [World.cell?,hb]
   have r2:W.cell? ⟨w.heap.size,2,none⟩=some (.bool false):=by simp [World.cell?,hb]
   have r3:W.cell? ⟨w.heap.size,3,none⟩=some (.int .i64 0):=by simp [World.cell?,hb]
   have r4:W.cell? ⟨w.heap.size,4,none⟩=some (.int .i64 0):=by simp [World.cell?,hb]
   refine bodyPost_ret (v:=.tuple #[zclsV,.bool false]) (by simp [results,Tryz.results16,go_sem,zclsV,r0,r1,r2,r3,r4]) rfl ⟨rfl,hlow⟩
end Af
end Go.Proofs.YtmhegbeemgagkaaGreatDoor
