import Derived.Test.YtmhegbeemgagkaaGreatDoorJh2
set_option maxHeartbeats 8000000
set_option maxRecDepth 100000
namespace Go.Proofs.YtmhegbeemgagkaaGreatDoor
open Go.Sort Go.RowKit
namespace So
theorem ints11w (v:Value) (L:List Int) (w:World) (hA:FArg w v L) (hx:∀ x ∈ L,0≤x∧x≤65535) (hn:L.length≤1099511627776) :
  Calls Tryz.prog 23 #[v] w fun e w' => ∃ u,e=.returned u∧IRow w.heap.size w' u L∧Go.RowKit.Below w.heap.size w w':=by
 obtain ⟨i0,hi,hz0,hz1,hz2⟩:=info_parts infoI
 obtain ⟨ao,cap,rfl,hcp,hm,_,hcell⟩:=hA
 have HC:=hide hcell
 have HX:=hide hx
 have HTK:Hid (∀ (k:Nat) x,L[k]?=some x→(L.take (k + 1)).map encI=(L.take k).map encI ++ [.int .i64 x]):=fun k x hx => by rw [take_snoc hx];simp [encI]
 have HE:Hid (∀ W u,W.ownsRow w.heap.size 3 1 u L.length ((L.take L.length).map encI)→IRow w.heap.size W u L):=fun W u h => by rw [List.take_length] at h;exact h
 unfold maxLen at hm
 clear hcell hx
 generalize hnn:L.length=n at *
 have HN:=hide hnn
 clear hnn
 have hnz:(n:Int)≤1099511627776:=by omega
 go_enter Tryz.func23,Tryz.ntmps23
 go_wp2
 go_loopw [3,8] (fun s3 s8 wr => ∃ k:Nat,k≤n∧s8=.int .i64 k∧Hid (wr.ownsRow w.heap.size 3 1 s3 k ((L.take k).map encI))∧Hid (Go.RowKit.Below w.heap.size w wr)) (fun _ s8 _ => n - (intOf s8).toNat)
 case atStart => exact ⟨0,Nat.zero_le _,rfl,IRow.nil _ _,Go.RowKit.Below.refl _ _⟩
 case round =>
  obtain ⟨k,hk,rfl,HR,HB⟩:=hrel
  by_cases hlt:k < n
  ·have hltz:(k:Int) < (n:Int):=by omega
   obtain ⟨x,hx⟩:∃ x,L[k]?=some x:=⟨_,List.getElem?_eq_getElem (by rw [unhide HN];exact hlt)⟩
   obtain ⟨g,off,rfl,hg,hcc⟩:=unhide HC (by omega)
   have hcw:wr.cell? ⟨g,off + k,none⟩=some (.int .u16 x):=((unhide HB).cell (p:=⟨g,off + k,none⟩) hg).trans (hcc k x hx)
   obtain ⟨hx0,hx1⟩:=unhide HX x (List.mem_of_getElem? hx)
   have HT:=hide (unhide HTK k x hx)
   clear hcc hx hg
   go_wp2_with (at_builtin;refine wpList_append_own _ rfl _ _ 60 rfl w.heap.size 3 i0 (.int .i64 0) 1 8 Tryz.underlying60 hi hz0 hz1 hz2 rfl (by decide) _ _ _ rfl ((unhide HR).alloc _) ⟨wr.heap.size,0,none⟩ 1 1 [.int .i64 x] rfl rfl (cell_one_new _ _ _) (fun x hx => by simp at hx;subst hx;rfl) (by unfold maxLen;omega) (by omega) (by have:=(unhide HB).size;simp;omega) ?_;intro v' w1 hown' hgrow _;have HO1:=hide hown';have HB1:=hide (irow_push (unhide HR) (unhide HB) hgrow);clear hown' hgrow)
   go_roundw
   case rel => exact ⟨k + 1,by omega,by go_num,by rw [unhide HT];exact HO1,HB1⟩
   case measure => simp [intOf];omega
  ·obtain rfl:k=n:=by omega
   have hltz:¬ (k:Int) < (k:Int):=by omega
   go_wp2
   go_ret
   exact ⟨_,rfl,unhide HE _ _ (unhide HR),unhide HB⟩
end So
end Go.Proofs.YtmhegbeemgagkaaGreatDoor
namespace Go.Proofs.YtmhegbeemgagkaaGreatDoor
open Go.RowKit
namespace Af
open RowB
theorem farg_own {n:Nat} {W:World} {v:Value} {l:List Int} (h:W.ownsRow n 34 1 v l.length (l.map So.encF)):So.FArg W v l:=by
 obtain ⟨hl,⟨e1,e2⟩ | ⟨g,cap,cur,e1,h1,hg,h2,h3,h4,h5⟩⟩:=id h
 ·obtain rfl:l=[]:=List.eq_nil_of_length_eq_zero e2
  rw [e1]
  exact So.nil_farg _
 ·subst e1
  exact ⟨_,cap,rfl,h2,h3,(fun e => by cases e),fun h0 => ⟨g,0,rfl,lt_some hg,fun j x hx => by
   have hj:=(List.getElem?_eq_some_iff.1 hx).1
   rw [Nat.zero_add,h.cellAt j (by omega)]
   simp [hx]⟩⟩
theorem wAppend {P:Program} {w:World} {ops:Array Oper} {rest:List Oper} {o:Oper} {a:Act} {Q:Exit→Act→World→Prop} (hgd:o.guard=none) (s x:Operand) (t t':TypeId)
  (ho:o.op=.call { callee:=.builtin .append,args:=#[s,x],argTypes:=#[t,t'] }) (v f:Value) (hs:a.eval s=v) (hx:a.eval x=f) (v2:Value) (w2:World) (hrun:(Builtin.append_ #[t,t'] o.type #[v,f]).run P w=.ok v2 w2)
  (h:wpList P ops Q rest (a.put o.dst v2) w2):wpList P ops Q (o :: rest) a w:=by
 refine wpList_plain hgd fun K hK => ?_
 unfold Oper.wp
 simp [execOp,ho,resolve,invoke,builtin,hs,hx,hrun,Result.andThen]
 exact hK _ _ h
theorem flags_new (f:Value) (F:List Int) (W:World) (hF:So.FArg W f F) (hn:F.length≤1048576) :
  ∃ u W2,(Builtin.append_ #[44,44] 44 #[.slice none 0 0,f]).run Tryz.prog W=.ok u W2∧So.FArg W2 u F∧Below W.heap.size W W2:=by
 obtain ⟨i0,hi,hz0,hz1,hz2⟩:=So.info_parts So.infoF
 obtain ⟨ao,cap,rfl,hc,hm,hnn,hcell⟩:=hF
 by_cases h0:0 < F.length
 ·obtain ⟨g,off,rfl,hg,hcl⟩:=hcell h0
  obtain ⟨v2,w2,hrun,hown,hgrow,_⟩:=run_append_own (P:=Tryz.prog) W W.heap.size 44 44 34 i0 (.int .u16 0) 1 2 Tryz.underlying44 hi hz0 hz1 hz2 rfl (by decide) (.slice none 0 0) 0 [] (World.ownsRow_nil _ _ _ _) ⟨g,off,none⟩ F.length cap (F.map So.encF) (by simp) (fun j u hu => by
   obtain ⟨x,hx,rfl⟩:∃ x,F[j]?=some x∧So.encF x=u:=by simpa using hu
   rw [Go.WideShapes.add_plain]
   exact hcl j x hx) (fun u hu => by obtain ⟨x,_,rfl⟩:=List.mem_map.1 hu;rfl) (by unfold maxLen;omega) (by omega) (Nat.le_refl _)
  exact ⟨v2,w2,hrun,farg_own (by simpa using hown),(Below.refl _ W).grown hgrow (Nat.le_refl _) (fun k e => by cases e)⟩
 ·obtain rfl:F=[]:=List.eq_nil_of_length_eq_zero (by omega)
  refine ⟨.slice none 0 0,W,?_,So.nil_farg _,Below.refl _ _⟩
  rw [show ([]:List Int).length=0 from rfl]
  cases ao with
  | none => simp [Builtin.append_,run_underlying Tryz.underlying44,sizeOf,typeInfo,hi,Builtin.lenOf,Builtin.firstCells]
  | some a => simp [Builtin.append_,run_underlying Tryz.underlying44,sizeOf,typeInfo,hi,Builtin.lenOf,run_firstCells_some W i0.size 0 a 0 cap [] (by simp) (fun j u h => by simp at h)]

theorem writes_law (s:ByteArray) (v:Value) (L:List Int) (w:World) (hM:Mx w.heap.size w) (hs:s.size≤140737488355328) (hA:So.FArg w v L) (hb:∀ x ∈ L,0≤x∧x≤65535) (hn:L.length≤1048576) (hP:So.Pow w) :
  Calls Tryz.prog 6 #[.string s,v] w fun e w' => e=.returned (.bool true)∧Below w.heap.size w w':=by
 have HR:=hide (read_law s w hM hs)
 have HW:Hid (∀ w1,Below w.heap.size w w1→Calls Tryz.prog 11 #[] w1 fun e w' => e=.returned (.bool true)∧Below w1.heap.size w1 w'):=fun w1 b => wakes_any w1 (hM.up b)
 have HNW:Hid (∀ w1,Below w.heap.size w w1→∃ u W2,(Builtin.append_ #[44,44] 44 #[.slice none 0 0,v]).run Tryz.prog w1=.ok u W2∧So.FArg W2 u L∧Below w1.heap.size w1 W2):=fun w1 b => flags_new v L w1 (hA.below b) hn
 have HIN:Hid (∀ w1,Below w.heap.size w w1→Calls Tryz.prog 23 #[v] w1 fun e w' => ∃ u,e=.returned u∧So.IRow w1.heap.size w' u L∧Below w1.heap.size w1 w'):=fun w1 b => So.ints11w v L w1 (hA.below b) hb (by omega)
 have HP:Hid (∀ w1,Below w.heap.size w w1→So.Pow w1):=fun w1 b => Tab.pow10_below hP b
 obtain ⟨ao,cap,rfl,-⟩:=hA
 clear hM hs hP
 cases hX:affR s.data.toList with
 | error er =>
  rw [hX] at HR
  have HN:=hide (fun f W => nil_write f W)
  clear hX
  go_enter Tryz.func6,Tryz.ntmps6
  go_wp2_with fail
  refine (unhide HR).mono ?_
  rintro e w1 ⟨b1,rfl⟩
  have HB1:=hide b1
  clear b1
  go_wp2_with fail
  refine (unhide HW _ (unhide HB1)).mono ?_
  rintro e w2 ⟨rfl,b2⟩
  have HB2:=hide (btr' (unhide HB1) b2)
  clear b2
  obtain ⟨u,w3,hrun,-,b3⟩:=unhide HNW _ (unhide HB2)
  have HRUN:=hide hrun
  have HB3:=hide (btr' (unhide HB2) b3)
  clear hrun b3
  go_wp2_with (at_builtin;refine wAppend rfl _ _ 44 44 rfl _ _ rfl rfl u w3 (unhide HRUN) ?_)
  refine (unhide HN _ _).mono ?_
  rintro e w4 ⟨rfl,hw4⟩
  obtain rfl:=hw4.symm
  go_wp2_with fail
  go_ret
  exact ⟨rfl,unhide HB3⟩
 | ok F =>
  rw [hX] at HR
  have HSM:Hid (∀ a ∈ F.aliases,∀ x ∈ a,0≤x∧x≤65535):=hide (affR_small hX).2
  clear hX
  obtain ⟨ts,tc,hwv⟩:=wV_form F L
  go_enter Tryz.func6,Tryz.ntmps6
  go_wp2_with fail
  refine (unhide HR).mono ?_
  rintro e w1 ⟨b1,B,P,B',P',hB,rfl,hF,hF'⟩
  have HB1:=hide b1
  have HF:=hide hF
  have HF':=hide hF'
  clear b1 hF hF' hB
  go_wp2_with fail
  refine (unhide HW _ (unhide HB1)).mono ?_
  rintro e w2 ⟨rfl,b2⟩
  have HB2:=hide (btr' (unhide HB1) b2)
  obtain ⟨u,w3,hrun,hu,b3⟩:=unhide HNW _ (unhide HB2)
  have HRUN:=hide hrun
  have HB3:=hide (btr' (unhide HB2) b3)
  have HWR:=hide (write_any (((unhide HF).below b2).below b3) u L hu hb hn (unhide HP _ (unhide HB3)))
  have HF2':=hide (((unhide HF').below b2).below b3)
  rw [hwv] at HWR
  clear hrun b2 b3 hu
  go_wp2_with (at_builtin;refine wAppend rfl _ _ 44 44 rfl _ _ rfl rfl u w3 (unhide HRUN) ?_)
  refine (unhide HWR).mono ?_
  rintro e w4 ⟨rfl,b4⟩
  have HB4:=hide (btr' (unhide HB3) b4)
  have HF3':=hide ((unhide HF2').below b4)
  clear b4
  go_wp2_with fail
  refine (unhide HIN _ (unhide HB4)).mono ?_
  rintro e w5 ⟨ui,rfl,hi,b5⟩
  have HB5:=hide (btr' (unhide HB4) b5)
  have HD:=hide (write_doc ((unhide HF3').below b5) ui L hi hb (unhide HSM) hn)
  rw [hwv] at HD
  obtain ⟨ai,ci,rfl,-⟩:=hi.form
  clear b5 hi
  go_wp2_with fail
  refine (unhide HD).mono ?_
  rintro e w6 ⟨rfl,b6⟩
  have HB6:=hide (btr' (unhide HB5) b6)
  clear b6
  go_wp2_with fail
  go_ret
  exact ⟨by simp,unhide HB6⟩
end Af
end Go.Proofs.YtmhegbeemgagkaaGreatDoor
