import Derived.Test.YtmhegbeemgagkaaGreatDoorShAl3
import Derived.Test.YtmhegbeemgagkaaGreatDoorGn37
import Derived.Test.YtmhegbeemgagkaaGreatDoorRows
import Derived.Lib.LaidTab
import Derived.Test.YtmhegbeemgagkaaGreatDoorGn12
set_option maxHeartbeats 8000000
set_option maxRecDepth 100000

namespace Go.Proofs.YtmhegbeemgagkaaGreatDoor
open Go.RowKit
namespace Tab

theorem gTab:Tryz.prog.globalNamed "internal/strconv.uint64pow10"=some 1:=by kernel_rfl
theorem gTabType:(Tryz.prog.globals[1]?).map (·.type)=some 261:=by kernel_rfl
theorem cellsT:Tryz.prog.cellsOf 261=20:=by kernel_rfl
theorem cellsE:Tryz.prog.cellsOf 207=1:=by kernel_rfl
theorem tail {P:Program} {x:String × DataW Unit} {r:List (String × DataW Unit)} {w:World} (h:laidMet P (x :: r) w):laidMet P r w:=by
 obtain ⟨ps,⟨g,t,cs,fuel,p,q,_,_,_,_,hq,rfl⟩,hnd,hc⟩:=h
 exact ⟨q,hq,(List.nodup_append.1 hnd).2.1,fun b off hm => hc b off (List.mem_append_right _ hm)⟩
def listed:List (String × DataW Unit):=[("math/bits.deBruijn32tab",Rows.laid_math_bits_deBruijn32tab),("math/bits.deBruijn64tab",Rows.laid_math_bits_deBruijn64tab),("internal/strconv.uint64pow10",Rows.laid_internal_strconv_uint64pow10),("unicode/utf8.acceptRanges",Rows.laid_unicode_utf8_acceptRanges),("unicode/utf8.first",Rows.laid_unicode_utf8_first)]
theorem pow10 {W:World} (h:laidMetH Tryz.prog listed W):Lib.TabIs Tryz.prog W "internal/strconv.uint64pow10" .u64 Lib.pow10Tab:=by
 have h1:laidMet Tryz.prog listed W:=h
 have h2:laidMet Tryz.prog [("internal/strconv.uint64pow10",Lib.tabData .u64 Lib.pow10Tab),("unicode/utf8.acceptRanges",Rows.laid_unicode_utf8_acceptRanges),("unicode/utf8.first",Rows.laid_unicode_utf8_first)] W:=tail (tail h1)
 exact Lib.tabIs_of_head gTab gTabType Tryz.underlying261 Tryz.underlying207 cellsE cellsT h2
theorem lt_of_var {P:Program} {W:World} {n:String} {g:Nat} {cs:Array Value} (hg:P.globalNamed n=some g) (hv:W.var? P n=some cs):g < W.heap.size:=by
 unfold World.var? at hv
 simp only [hg,Option.bind_some] at hv
 rcases Nat.lt_or_ge g W.heap.size with h | h
 ·exact h
 ·rw [Array.getElem?_eq_none h] at hv
  cases hv
theorem pow10_below {W W':World} (h:Lib.TabIs Tryz.prog W "internal/strconv.uint64pow10" .u64 Lib.pow10Tab) (hB:Below W.heap.size W W'):Lib.TabIs Tryz.prog W' "internal/strconv.uint64pow10" .u64 Lib.pow10Tab :=
 var?_below hB gTab (lt_of_var gTab h) h
theorem below_grow (B:Nat) (w:World) (hB:B≤w.heap.size) (k:Nat) (os:Array Obj):Below B w (Go.Sort.grow (w.drewN k) os) :=
 ⟨rfl,rfl,rfl,by show w.heap.size≤(w.heap ++ os).size;rw [Array.size_append];omega,fun j hj => by
  show (w.heap ++ os)[j]?=w.heap[j]?
  rw [Array.getElem?_append_left (by omega)]⟩
theorem decimal_any (n:Int) (h0:-9223372036854775808≤n) (h1:n≤9223372036854775807) (w:World) (htab:Lib.TabIs Tryz.prog w "internal/strconv.uint64pow10" .u64 Lib.pow10Tab) :
  Calls Tryz.prog 48 #[.int .i64 n] w fun e w' => e=.returned (.string ⟨(Lib.itoa n).toArray⟩)∧Below w.heap.size w w':=by
 have H:=DecW.hide htab
 clear htab
 go_enter Tryz.func48,Tryz.ntmps48
 go_wp2_with fail
 refine (Tryz.strconv_Itoa n h0 h1 _ (DecW.unhide H)).mono ?_
 rintro e w' ⟨rfl,k,os,rfl⟩
 go_wp2
 go_ret
 exact ⟨rfl,below_grow _ _ (Nat.le_refl _) _ _⟩
end Tab
open Go.Sort
namespace So
open Cut Shw

def Pow (w:World):Prop:=Lib.TabIs Tryz.prog w "internal/strconv.uint64pow10" .u64 Lib.pow10Tab
theorem Pow.below {w W:World} (h:Pow w) (hB:Go.RowKit.Below w.heap.size w W):Pow W:=Tab.pow10_below h hB
theorem conv_new (L:List UInt8) (W:World):(convert 134 9 (.slice (some ⟨W.heap.size,0,none⟩) L.length L.length)).run Tryz.prog (W.alloc (.cells (DecW.bytes L).toArray 5))=.ok (.string (mk L)) (W.alloc (.cells (DecW.bytes L).toArray 5)) :=
 run_convert_bytes_back _ 134 9 5 ⟨W.heap.size,0,none⟩ L.length L Tryz.underlying134 Tryz.underlying5 Tryz.underlying9 (fun j hj => by
  rw [DecW.add_zero_off,World.cell?_alloc_at _ _ _ _ rfl]
  simp [DecW.bytes,hj])
theorem b8 (f:Int) (h0:0≤f) (h1:f≤65535):((UInt8.ofNat (f.toNat % 256)).toNat:Int)=f % 256:=by rw [byte_nat (by omega)];omega
theorem b8h (f:Int) (h0:0≤f) (h1:f≤65535):((UInt8.ofNat (f.toNat / 256)).toNat:Int)=f / 256:=by rw [byte_nat (by omega)];omega
theorem write1 (f:Int) (h0:0≤f) (h1:f≤65535) (w:World) :
  Calls Tryz.prog 76 #[.int .i64 1,.int .u16 f] w fun e w' => e=.returned (.string (mk (wr 1 f)))∧Go.RowKit.Below w.heap.size w w':=by
 have hc:∀ W:World,(convert 134 9 (.slice (some ⟨W.heap.size,0,none⟩) 1 1)).run Tryz.prog (W.alloc (.cells #[.int .u8 (f % 256)] 5))=.ok (.string (mk (wr 1 f))) (W.alloc (.cells #[.int .u8 (f % 256)] 5)):=fun W => by
  have h:=conv_new [UInt8.ofNat (f.toNat % 256)] W
  simp only [DecW.bytes,List.map_cons,List.map_nil,List.length_cons,List.length_nil,b8 f h0 h1] at h
  exact h
 generalize mk (wr 1 f)=r at *
 go_enter Tryz.func76,Tryz.ntmps76
 go_wp2
 go_ret
 exact ⟨rfl,(Go.RowKit.Below.refl _ w).alloc (Nat.le_refl _) _⟩
theorem write2 (f:Int) (h0:0≤f) (h1:f≤65535) (w:World) :
  Calls Tryz.prog 76 #[.int .i64 2,.int .u16 f] w fun e w' => e=.returned (.string (mk (wr 2 f)))∧Go.RowKit.Below w.heap.size w w':=by
 have hc:∀ W:World,(convert 134 9 (.slice (some ⟨W.heap.size,0,none⟩) 2 2)).run Tryz.prog (W.alloc (.cells #[.int .u8 (f / 256),.int .u8 (f % 256)] 5))=.ok (.string (mk (wr 2 f))) (W.alloc (.cells #[.int .u8 (f / 256),.int .u8 (f % 256)] 5)):=fun W => by
  have h:=conv_new [UInt8.ofNat (f.toNat / 256),UInt8.ofNat (f.toNat % 256)] W
  simp only [DecW.bytes,List.map_cons,List.map_nil,List.length_cons,List.length_nil,b8 f h0 h1,b8h f h0 h1] at h
  exact h
 have hq:0≤f / 256∧f / 256≤255:=by omega
 obtain ⟨hq0,hq1⟩:=hq
 generalize mk (wr 2 f)=r at *
 go_enter Tryz.func76,Tryz.ntmps76
 go_wp2
 go_ret
 exact ⟨rfl,(Go.RowKit.Below.refl _ w).alloc (Nat.le_refl _) _⟩
theorem write3 (f:Int) (h0:0≤f) (h1:f≤65535) (w:World) (hP:Pow w) :
  Calls Tryz.prog 76 #[.int .i64 3,.int .u16 f] w fun e w' => e=.returned (.string (mk (wr 3 f)))∧Go.RowKit.Below w.heap.size w w':=by
 have hd:Calls Tryz.prog 48 #[.int .i64 f] w fun e w' => e=.returned (.string (mk (wr 3 f)))∧Go.RowKit.Below w.heap.size w w':=Tab.decimal_any f (by omega) (by omega) w hP
 have HD:=hide hd
 clear hd hP
 generalize mk (wr 3 f)=r at *
 go_enter Tryz.func76,Tryz.ntmps76
 go_wp2_with (go_at_call 48;refine (unhide HD).mono ?_;rintro e w1 ⟨rfl,hB⟩;have HB:=hide hB;clear hB)
 go_ret
 exact ⟨rfl,unhide HB⟩
theorem write_any (kind f:Int) (hk:One.isK kind=true) (h0:0≤f) (h1:f≤65535) (w:World) (hP:Pow w) :
  Calls Tryz.prog 76 #[.int .i64 kind,.int .u16 f] w fun e w' => e=.returned (.string (mk (wr kind f)))∧Go.RowKit.Below w.heap.size w w':=by
 have h3:kind=1∨kind=2∨kind=3:=by unfold One.isK at hk;simp at hk;omega
 rcases h3 with rfl | rfl | rfl
 ·exact write1 f h0 h1 w
 ·exact write2 f h0 h1 w
 ·exact write3 f h0 h1 w hP

def pcs (kind:Int) (Z:List Int):List ByteArray:=Z.map fun x => mk (wr kind x)
theorem pcs_data (kind:Int) (Z:List Int):(pcs kind Z).map (·.data.toList)=Z.map (wr kind):=by
 unfold pcs
 rw [List.map_map]
 apply List.map_congr_left
 intro x _
 exact dl_mk (wr kind x)
theorem join_empty (ao:Option Addr) (c:Nat) (sep:ByteArray) (w:World):Calls Tryz.prog 77 #[.slice ao 0 c,.string sep] w fun e w' => e=.returned (.string ⟨#[]⟩)∧w'=w:=by
 go_enter Tryz.func77,Tryz.ntmps77
 go_wp2
 go_ret
 exact ⟨rfl,rfl⟩
theorem join_pcs {n₀:Nat} (kind:Int) (Z:List Int) (sep:ByteArray) (hsep:sep.data.toList=sepK kind) (v:Value) (w:World) (hb:∀ x ∈ Z,0≤x∧x≤65535) (hn:Z.length≤64) (h:SRow n₀ w v Z.length (pcs kind Z)) :
  Calls Tryz.prog 77 #[v,.string sep] w fun e w' => e=.returned (.string (mk (text kind Z)))∧Go.RowKit.Below w.heap.size w w':=by
 have hl:(pcs kind Z).length=Z.length:=by simp [pcs]
 rw [← hl] at h
 obtain ⟨ao,cap,rfl,h1,h2⟩:=h.strs
 by_cases h0:0 < Z.length
 ·obtain ⟨g,off,rfl,hg,hc⟩:=h2 (by omega)
  have ht:=text_len kind Z.length Z rfl hb
  have hj:=Tryz.strings_Join g off cap (pcs kind Z) sep w hc hg (by omega) h1 (by
   rw [pcs_data,hsep]
   show (text kind Z).length≤_
   omega)
  rw [pcs_data,hsep] at hj
  exact hj
 ·have:Z=[]:=List.eq_nil_of_length_eq_zero (by omega)
  subst this
  refine (join_empty ao cap sep w).mono ?_
  rintro e w' ⟨rfl,rfl⟩
  exact ⟨rfl,Go.RowKit.Below.refl _ _⟩
theorem pcs_snoc (kind:Int) {Z:List Int} {k:Nat} {x:Int} (hx:Z[k]?=some x):pcs kind (Z.take (k + 1))=pcs kind (Z.take k) ++ [mk (wr kind x)]:=by
 rw [take_snoc hx]
 simp [pcs]
theorem all_ok {kind:Int} {Z:List Int} (h:∀ x ∈ Z,okF kind x=true):Z.all (okF kind)=true:=List.all_eq_true.2 h
theorem not_ok {kind:Int} {Z:List Int} {k:Nat} {x:Int} (hx:Z[k]?=some x) (h:okF kind x=false):Z.all (okF kind)=false:=by
 rw [List.all_eq_false]
 exact ⟨x,List.mem_of_getElem? hx,by simp [h]⟩
theorem one_wr (kind x:Int) (hk:One.isK kind=true) (h0:0≤x) (h1:x≤65535) (W:World) :
  Calls Tryz.prog 69 #[.int .i64 kind,.string (mk (wr kind x))] W fun e w' => (∃ g er:Int,e=.returned (.tuple #[.int .u16 g,.int .i64 er])∧((okF kind x=true∧g=x∧er=0)∨(okF kind x=false∧(er=31∨(er=0∧(g != x)=true)))))∧Go.RowKit.Below W.heap.size W w':=by
 have hl:=wr_len kind x h0 h1
 refine (One.one_any kind (mk (wr kind x)) W (by rw [← dl_len,dl_mk];unfold maxLen;omega)).mono ?_
 rintro e w' ⟨rfl,n,rfl⟩
 refine ⟨⟨_,_,rfl,?_⟩,⟨rfl,rfl,rfl,Nat.le_refl _,fun _ _ => rfl⟩⟩
 have e1:(mk (wr kind x)).data.toList=wr kind x:=dl_mk _
 rw [e1,One.oneF,One.oneE,if_pos hk,if_pos hk]
 unfold okF
 by_cases hv:One.val kind (wr kind x)=0
 ·right
  rw [if_pos hv,hv]
  exact ⟨by simp,.inl rfl⟩
 ·rw [if_neg hv]
  by_cases hx:One.val kind (wr kind x)=x
  ·left
   exact ⟨by simp [hx];rwa [hx] at hv,hx,rfl⟩
  ·right
   exact ⟨by simp [hx],.inr ⟨rfl,by rw [bne_iff_ne];exact hx⟩⟩
theorem show_bad (kind:Int) (v:Value) (w:World) (hk:One.isK kind=false) :
  Calls Tryz.prog 46 #[.int .i64 kind,v] w fun e w' => e=.returned (.tuple #[.string ⟨#[]⟩,.int .i64 30])∧w'=w:=by
 have HKK:=hide (fun W => One.kind_any kind W)
 rw [hk] at HKK
 go_enter Tryz.func46,Tryz.ntmps46
 go_wp2_with (go_at_call 67;refine (unhide HKK _).mono ?_;rintro e w0 ⟨rfl,hw0⟩;obtain rfl:=hw0.symm)
 go_ret2
 exact ⟨rfl,rfl⟩
theorem show_good (kind:Int) (v:Value) (L:List Int) (w:World) (hk:One.isK kind=true) (hA:FArg w v L) (hb:∀ x ∈ L,0≤x∧x≤65535) (hn:L.length≤1048576) (hP:Pow w) :
  Calls Tryz.prog 46 #[.int .i64 kind,v] w fun e w' => e=.returned (.tuple #[.string (mk (showT kind (setOf L))),.int .i64 (showE kind (setOf L))])∧Go.RowKit.Below w.heap.size w w':=by
 obtain ⟨i0,hi,hz0,hz1,hz2⟩:=info_parts infoS
 have HKK:=hide (fun W => One.kind_any kind W)
 rw [hk] at HKK
 have HO:=hide (of_set v L w hA (by omega))
 have hzl:=(setOf_set L).len
 have hzb:=set_bounds hb
 clear hA hb
 generalize setOf L=Z at *
 have HWR:Hid (∀ (k:Nat) x W,Z[k]?=some x→Go.RowKit.Below w.heap.size w W→Calls Tryz.prog 76 #[.int .i64 kind,.int .u16 x] W fun e w' => e=.returned (.string (mk (wr kind x)))∧Go.RowKit.Below W.heap.size W w'):=fun k x W hx hB => by
  have:=hzb x (List.mem_of_getElem? hx)
  exact write_any kind x hk this.1 this.2 W (hP.below hB)
 have HON:Hid (∀ (k:Nat) x W,Z[k]?=some x→Calls Tryz.prog 69 #[.int .i64 kind,.string (mk (wr kind x))] W fun e w' => (∃ g er:Int,e=.returned (.tuple #[.int .u16 g,.int .i64 er])∧((okF kind x=true∧g=x∧er=0)∨(okF kind x=false∧(er=31∨(er=0∧(g != x)=true)))))∧Go.RowKit.Below W.heap.size W w'):=fun k x W hx => by
  have:=hzb x (List.mem_of_getElem? hx)
  exact one_wr kind x hk this.1 this.2 W
 have HPS:=hide (fun (k:Nat) (x:Int) => @pcs_snoc kind Z k x)
 have HNO:=hide (fun (k:Nat) (x:Int) => @not_ok kind Z k x)
 have H31:Hid (Z.all (okF kind)=false→showE kind Z=31∧mk (showT kind Z)=⟨#[]⟩):=fun h => by
  have e:showE kind Z=31:=by unfold showE;rw [if_pos hk,h];rfl
  refine ⟨e,?_⟩
  unfold showT
  rw [e]
  rfl
 have H32:Hid ((∀ x ∈ Z,okF kind x=true)→64 < Z.length→showE kind Z=32∧mk (showT kind Z)=⟨#[]⟩):=fun h h2 => by
  have e:showE kind Z=32:=by unfold showE;rw [if_pos hk,all_ok h,if_pos rfl,if_pos h2]
  refine ⟨e,?_⟩
  unfold showT
  rw [e]
  rfl
 have H0:Hid ((∀ x ∈ Z,okF kind x=true)→¬ 64 < Z.length→showE kind Z=0∧showT kind Z=text kind Z):=fun h h2 => by
  have e:showE kind Z=0:=by unfold showE;rw [if_pos hk,all_ok h,if_pos rfl,if_neg h2]
  refine ⟨e,?_⟩
  unfold showT
  rw [e]
  rfl
 have HJ:Hid (∀ sep:ByteArray,sep.data.toList=sepK kind→∀ B W u,¬ 64 < Z.length→SRow B W u Z.length (pcs kind (Z.take Z.length))→Calls Tryz.prog 77 #[u,.string sep] W fun e w' => e=.returned (.string (mk (text kind Z)))∧Go.RowKit.Below W.heap.size W w'):=fun sep hs B W u hl h => by
  rw [List.take_length] at h
  exact join_pcs kind Z sep hs u W hzb (by omega) h
 have HTL:Hid (Z.take Z.length=Z):=List.take_length
 have HFA:Hid (∀ n W u,FRow n W u Z→∃ ao cap,u=.slice ao Z.length cap∧∀ (k:Nat) x,Z[k]?=some x→∃ g off,ao=some ⟨g,off,none⟩∧g < W.heap.size∧W.cell? ⟨g,off + k,none⟩=some (.int .u16 x)):=fun n W u h => by
  obtain ⟨ao,cap,e,_,_,_,h2⟩:=h.arg
  refine ⟨ao,cap,e,fun k x hx => ?_⟩
  obtain ⟨g,off,e2,hg,hc⟩:=h2 (by have:=(List.getElem?_eq_some_iff.1 hx).1;omega)
  exact ⟨g,off,e2,hg,hc k x hx⟩
 have HSF:Hid (∀ (B:Nat) (W:World) u (k:Nat),k≤Z.length→SRow B W u k (pcs kind (Z.take k))→∃ ao cap,u=.slice ao k cap):=fun B W u k hkz h => by
  have e:(pcs kind (Z.take k)).length=k:=by simp [pcs];omega
  have h2:SRow B W u (pcs kind (Z.take k)).length (pcs kind (Z.take k)):=by rw [e];exact h
  obtain ⟨ao,cap,e2,_⟩:=h2.strs
  exact ⟨ao,cap,by rw [e2,e]⟩
 have HKE:Hid (∀ B W W' u k P,SRow B W u k P→Go.RowKit.Below W.heap.size W W'→SRow B W' u k P):=fun B W W' u k P h hB => by
  obtain ⟨h1,h2 | ⟨g,cap,cur,e,hg,hh,r⟩⟩:=h
  ·exact ⟨h1,.inl h2⟩
  ·exact ⟨h1,.inr ⟨g,cap,cur,e,hg,by rw [hB.block g (Array.getElem?_eq_some_iff.1 hh).1];exact hh,r⟩⟩
 have HSEP:Hid ((kind=3→(⟨#[44]⟩:ByteArray).data.toList=sepK kind)∧(kind≠3→(⟨#[]⟩:ByteArray).data.toList=sepK kind)):=⟨fun h => by rw [sepK,if_pos h],fun h => by rw [sepK,if_neg h]⟩
 clear hP hzb hk
 generalize showE kind Z=E at *
 generalize hTT:mk (showT kind Z)=TT at *
 have HTT:=hide hTT
 clear hTT
 generalize hnn:Z.length=n at *
 have HN:=hide hnn
 clear hnn
 have hnz:(n:Int)≤1048576:=by omega
 go_enter Tryz.func46,Tryz.ntmps46
 go_wp2_with (first
  | (go_at_call 67;refine (unhide HKK _).mono ?_;rintro e w0 ⟨rfl,hw0⟩;obtain rfl:=hw0.symm)
  | (go_at_call 43;refine (unhide HO).mono ?_;rintro e w1 ⟨z,rfl,hF,hB⟩;obtain ⟨ao,cap,rfl,hcell⟩:=unhide HFA _ _ _ hF;have HC:=hide hcell;have HB1:=hide hB;clear hF hB hcell HO))
 go_loopg [6,19] n (fun kk s6 s19 wr => ∃ k:Nat,s19=.int .i64 k∧k + kk=n∧Hid (SRow w1.heap.size wr s6 k (pcs kind (Z.take k)))∧Hid (∀ x ∈ Z.take k,okF kind x=true)∧Hid (Go.RowKit.Below w1.heap.size w1 wr))
 case atStart => exact ⟨0,rfl,by omega,World.ownsRow_nil _ _ _ _,hide (fun x hx => by simp at hx),Go.RowKit.Below.refl _ _⟩
 case round =>
  obtain ⟨k,rfl,hk,HR,HOKS,HBL⟩:=hrel
  have HB:Hid (Go.RowKit.Below w.heap.size w wr):=(unhide HB1).trans ((unhide HBL).mono (unhide HB1).size)
  by_cases hlt:k < n
  ·have hltz:(k:Int) < (n:Int):=by omega
   obtain ⟨x,hx⟩:∃ x,Z[k]?=some x:=⟨_,List.getElem?_eq_getElem (by rw [unhide HN];exact hlt)⟩
   obtain ⟨g,off,rfl,hg,hc⟩:=unhide HC k x hx
   have hcw:=((unhide HBL).cell (p:=⟨g,off + k,none⟩) hg).trans hc
   have HWX:=hide (unhide HWR k x wr hx (unhide HB))
   have HOX:=hide (fun W => unhide HON k x W hx)
   have HPX:=hide (unhide HPS k x hx)
   have HNX:=hide (unhide HNO k x hx)
   have HTS:Hid (okF kind x=true→∀ y ∈ Z.take (k + 1),okF kind y=true):=fun h y hy => by
    rw [take_snoc hx] at hy
    rcases List.mem_append.1 hy with hy | hy
    ·exact unhide HOKS y hy
    ·simp at hy;subst hy;exact h
   clear hx hc hg
   generalize mk (Shw.wr kind x)=p at *
   have HSP:Hid (∀ W u,W.ownsRow w1.heap.size 9 1 u (k + 1) ((pcs kind (Z.take k)).map Value.string ++ [.string p])→SRow w1.heap.size W u (k + 1) (pcs kind (Z.take (k + 1)))):=fun W u h => by
    rw [unhide HPX]
    unfold SRow
    simpa using h
   go_wp2_with (first
    | (go_at_call 76;refine (unhide HWX).mono ?_;rintro e w2 ⟨rfl,hB2⟩;have HB2:=hide hB2;clear hB2 HWX)
    | (go_at_call 69;refine (unhide HOX _).mono ?_;rintro e w3 ⟨⟨gv,er,rfl,hcase⟩,hB3⟩;have HCASE:=hide hcase;have HB3:=hide ((unhide HB2).trans (hB3.mono (unhide HB2).size));have HR3:=hide (unhide HKE _ _ _ _ _ _ (unhide HR) (unhide HB3));have HBL3:=hide ((unhide HBL).trans ((unhide HB3).mono (unhide HBL).size));clear hB3 hcase HOX;obtain ⟨hok,rfl,rfl⟩ | ⟨hok,rfl | ⟨rfl,hgx⟩⟩:=unhide HCASE)
    | (at_builtin;refine wpList_append_own _ rfl _ _ 88 rfl w1.heap.size 9 i0 (.string ByteArray.empty) 1 16 Tryz.underlying88 hi hz0 hz1 hz2 rfl (by decide) _ _ _ rfl (World.ownsRow.alloc (unhide HR3) _) ⟨w3.heap.size,0,none⟩ 1 1 [.string p] rfl rfl (cell_one_new _ _ _) (fun x hx => by simp at hx;subst hx;rfl) (by unfold maxLen;omega) (by omega) (by have:=(unhide HBL3).size;simp;omega) ?_;intro v' w4 hown' hgrow _;have HO1:=hide (unhide HSP _ _ hown');have HBL4:=hide (irow_push (unhide HR3) (unhide HBL3) hgrow);clear hown' hgrow))
   ·go_roundg (n - (k + 1))
    case rel => exact ⟨k + 1,by go_num,by omega,HO1,hide (unhide HTS hok),HBL4⟩
    case measure => omega
   ·have HX:=hide (unhide H31 (unhide HNX hok))
    go_ret2
    rw [(unhide HX).1,(unhide HX).2]
    exact ⟨rfl,(unhide HB).trans ((unhide HB3).mono (unhide HB).size)⟩
   ·have HX:=hide (unhide H31 (unhide HNX hok))
    go_ret2
    rw [(unhide HX).1,(unhide HX).2]
    exact ⟨rfl,(unhide HB).trans ((unhide HB3).mono (unhide HB).size)⟩
  ·obtain rfl:k=n:=by omega
   have hltz:¬ (k:Int) < (k:Int):=by omega
   obtain ⟨ao6,cap6,rfl⟩:=unhide HSF _ _ _ k (Nat.le_refl _) (unhide HR)
   have HALL:Hid (∀ x ∈ Z,okF kind x=true):=by
    have h:=unhide HOKS
    rwa [unhide HTL] at h
   by_cases h64:64 < k
   ·have h64z:(64:Int) < (k:Int):=by omega
    have HX:=hide (unhide H32 (unhide HALL) h64)
    go_wp2
    go_ret2
    rw [(unhide HX).1,(unhide HX).2]
    exact ⟨rfl,unhide HB⟩
   ·have h64z:¬ (64:Int) < (k:Int):=by omega
    have HX:=hide (unhide H0 (unhide HALL) h64)
    by_cases h3:kind=3
    ·have HJX:=hide (unhide HJ ⟨#[44]⟩ ((unhide HSEP).1 h3) _ _ _ h64 (unhide HR))
     have h3z:(kind == 3)=true:=by rw [beq_iff_eq];exact h3
     clear h3
     go_wp2_with (go_at_call 77;refine (unhide HJX).mono ?_;rintro e w5 ⟨rfl,hB5⟩;have HB5:=hide hB5;clear hB5)
     go_ret2
     rw [(unhide HX).1,← unhide HTT,(unhide HX).2]
     exact ⟨rfl,(unhide HB).trans ((unhide HB5).mono (unhide HB).size)⟩
    ·have HJX:=hide (unhide HJ ⟨#[]⟩ ((unhide HSEP).2 h3) _ _ _ h64 (unhide HR))
     have h3z:(kind == 3)=false:=by rw [beq_eq_false_iff_ne];exact h3
     clear h3
     go_wp2_with (go_at_call 77;refine (unhide HJX).mono ?_;rintro e w5 ⟨rfl,hB5⟩;have HB5:=hide hB5;clear hB5)
     go_ret2
     rw [(unhide HX).1,← unhide HTT,(unhide HX).2]
     exact ⟨rfl,(unhide HB).trans ((unhide HB5).mono (unhide HB).size)⟩

theorem mk_append (a b:List UInt8):mk a ++ mk b=mk (a ++ b):=by
 apply ByteArray.ext
 simp [mk]
theorem mk_size (l:List UInt8):(mk l).size=l.length:=by rw [← dl_len,dl_mk]
theorem conv1 (x:Int) (h0:0≤x) (h1:x≤255) (W:World):(convert 134 9 (.slice (some ⟨W.heap.size,0,none⟩) 1 1)).run Tryz.prog (W.alloc (.cells #[.int .u8 x] 5))=.ok (.string (mk (Shw.wr 1 x))) (W.alloc (.cells #[.int .u8 x] 5)):=by
 have h:=conv_new [UInt8.ofNat (x.toNat % 256)] W
 have e:x % 256=x:=by omega
 simp only [DecW.bytes,List.map_cons,List.map_nil,List.length_cons,List.length_nil,b8 x h0 (by omega),e] at h
 exact h
theorem conv2 (x:Int) (h0:0≤x) (h1:x≤65535) (W:World):(convert 134 9 (.slice (some ⟨W.heap.size,0,none⟩) 2 2)).run Tryz.prog (W.alloc (.cells #[.int .u8 (x / 256),.int .u8 (x % 256)] 5))=.ok (.string (mk (Shw.wr 2 x))) (W.alloc (.cells #[.int .u8 (x / 256),.int .u8 (x % 256)] 5)):=by
 have h:=conv_new [UInt8.ofNat (x.toNat / 256),UInt8.ofNat (x.toNat % 256)] W
 simp only [DecW.bytes,List.map_cons,List.map_nil,List.length_cons,List.length_nil,b8 x h0 h1,b8h x h0 h1] at h
 exact h
theorem conv2d (x:Int) (h0:0≤x) (h1:x≤65535) (W:World):(convert 134 9 (.slice (some ⟨W.heap.size,0,none⟩) 2 2)).run Tryz.prog (W.alloc (.cells #[.int .u8 (x / 256),.int .u8 (x % 256)] 5)).drew=.ok (.string (mk (Shw.wr 2 x))) (W.alloc (.cells #[.int .u8 (x / 256),.int .u8 (x % 256)] 5)).drew:=by
 have h:=run_convert_bytes_back (P:=Tryz.prog) (W.alloc (.cells #[.int .u8 (x / 256),.int .u8 (x % 256)] 5)).drew 134 9 5 ⟨W.heap.size,0,none⟩ 2 [UInt8.ofNat (x.toNat / 256),UInt8.ofNat (x.toNat % 256)] Tryz.underlying134 Tryz.underlying5 Tryz.underlying9 (fun j hj => by
  rw [DecW.add_zero_off]
  show (W.alloc (.cells #[.int .u8 (x / 256),.int .u8 (x % 256)] 5)).cell? ⟨W.heap.size,j,none⟩=_
  rw [World.cell?_alloc_at _ _ _ _ rfl]
  match j,hj with
  | 0,_ => simp only [List.getElem_cons_zero,b8h x h0 h1];rfl
  | 1,_ => simp only [List.getElem_cons_succ,List.getElem_cons_zero,b8 x h0 h1];rfl)
 exact h
theorem refShow_bad (kind:Int) (v:Value) (w:World) (hk:One.isK kind=false) :
  Calls Tryz.prog 49 #[.int .i64 kind,v] w fun e w' => e=.returned (.tuple #[.string ⟨#[]⟩,.int .i64 30])∧w'=w:=by
 have h2:kind < 1∨3 < kind:=by
  unfold One.isK at hk
  simp at hk
  omega
 by_cases h1:kind < 1
 ·go_enter Tryz.func49,Tryz.ntmps49
  go_wp2
  go_ret2
  exact ⟨rfl,rfl⟩
 ·have h3:3 < kind:=by omega
  clear h2
  go_enter Tryz.func49,Tryz.ntmps49
  go_wp2
  go_ret2
  exact ⟨rfl,rfl⟩

theorem refShow1 {n₀:Nat} (v:Value) (L:List Int) (w:World) (hI:IRow n₀ w v L) (hb:∀ x ∈ L,0≤x∧x≤65535) (hn:L.length≤1048576) :
  Calls Tryz.prog 49 #[.int .i64 1,v] w fun e w' => e=.returned (.tuple #[.string (mk (showT 1 (setOf L))),.int .i64 (showE 1 (setOf L))])∧Go.RowKit.Below w.heap.size w w':=by
 have HO:=hide (refOf_any v L w hI (fun x hx => (hb x hx).1) (by omega))
 have hzl:=(setOf_set L).len
 have hzb:=set_bounds hb
 clear hI hb
 generalize setOf L=Z at *
 have HZB:=hide hzb
 have HV:Hid (∀ (k:Nat) x W,Z[k]?=some x→Calls Tryz.prog 74 #[.int .i64 1,.string (mk (Shw.wr 1 x))] W fun e w' => e=.returned (.int .i64 (One.val 1 (Shw.wr 1 x)))∧Go.RowKit.Below W.heap.size W w'):=fun k x W hx => by
  have hbx:=hzb x (List.mem_of_getElem? hx)
  have hl:=wr_len 1 x hbx.1 hbx.2
  refine (One.value_any 1 (mk (Shw.wr 1 x)) W (by rw [mk_size];unfold maxLen;omega)).mono ?_
  rintro e w' ⟨rfl,n,rfl⟩
  have e1:(mk (Shw.wr 1 x)).data.toList=Shw.wr 1 x:=dl_mk _
  rw [e1]
  exact ⟨rfl,⟨rfl,rfl,rfl,Nat.le_refl _,fun _ _ => rfl⟩⟩
 have HNO:=hide (fun (k:Nat) (x:Int) => @not_ok 1 Z k x)
 have H31:Hid (Z.all (okF 1)=false→showE 1 Z=31∧mk (showT 1 Z)=⟨#[]⟩):=fun h => by
  have e:showE 1 Z=31:=by unfold showE;rw [if_pos (show One.isK 1=true from rfl),h];rfl
  refine ⟨e,?_⟩
  unfold showT
  rw [e]
  rfl
 have H32:Hid ((∀ x ∈ Z,okF 1 x=true)→64 < Z.length→showE 1 Z=32∧mk (showT 1 Z)=⟨#[]⟩):=fun h h2 => by
  have e:showE 1 Z=32:=by unfold showE;rw [if_pos (show One.isK 1=true from rfl),all_ok h,if_pos rfl,if_pos h2]
  refine ⟨e,?_⟩
  unfold showT
  rw [e]
  rfl
 have H0:Hid ((∀ x ∈ Z,okF 1 x=true)→¬ 64 < Z.length→showE 1 Z=0∧showT 1 Z=text 1 Z):=fun h h2 => by
  have e:showE 1 Z=0:=by unfold showE;rw [if_pos (show One.isK 1=true from rfl),all_ok h,if_pos rfl,if_neg h2]
  refine ⟨e,?_⟩
  unfold showT
  rw [e]
  rfl
 have HTL:Hid (Z.take Z.length=Z):=List.take_length
 have HTN:Hid (∀ (k:Nat) x,Z[k]?=some x→k < 64→mk (text 1 (Z.take (min (k + 1) 64)))=if k=0 then mk (Shw.wr 1 x) else mk (text 1 (Z.take (min k 64))) ++ (mk (sepK 1) ++ mk (Shw.wr 1 x))):=fun k x hx h => by
  have e1:min (k + 1) 64=k + 1:=by omega
  have e2:min k 64=k:=by omega
  rw [e1,e2,take_snoc hx,text_snoc,mk_append,mk_append]
  have hkl:k < Z.length:=(List.getElem?_eq_some_iff.1 hx).1
  by_cases h0:k=0
  ·rw [if_pos h0,h0];rfl
  ·rw [if_neg h0,if_neg (fun e => by have h9:=congrArg List.length e;rw [List.length_take,List.length_nil] at h9;omega)]
 have HSZ:Hid (∀ k:Nat,(mk (text 1 (Z.take (min k 64)))).size≤1344):=fun k => by
  have h:=text_len 1 _ (Z.take (min k 64)) rfl (fun x hx => hzb x (List.mem_of_mem_take hx))
  rw [mk_size]
  simp at h
  omega
 have HWL:Hid (∀ (k:Nat) x,Z[k]?=some x→(mk (Shw.wr 1 x)).size≤20):=fun k x hx => by
  have hbx:=hzb x (List.mem_of_getElem? hx)
  rw [mk_size]
  exact wr_len 1 x hbx.1 hbx.2
 have HFM:Hid (∀ n W u,IRow n W u Z→∃ ao cap,u=.slice ao Z.length cap∧∀ (k:Nat) x,Z[k]?=some x→∃ g,ao=some ⟨g,0,none⟩∧g < W.heap.size∧W.cell? ⟨g,k,none⟩=some (.int .i64 x)):=fun n W u h => by
  obtain ⟨ao,cap,e,_,h2⟩:=h.form
  exact ⟨ao,cap,e,h2⟩
 clear hzb
 generalize hTT:mk (showT 1 Z)=TT at *
 have HTT:=hide hTT
 clear hTT
 generalize showE 1 Z=E at *
 generalize hnn:Z.length=n at *
 have HN:=hide hnn
 clear hnn
 have hnz:(n:Int)≤1048576:=by omega
 go_enter Tryz.func49,Tryz.ntmps49
 go_wp2_with (go_at_call 75;refine (unhide HO).mono ?_;rintro e w1 ⟨z,rfl,hF,hB⟩;obtain ⟨ao,cap,rfl,hcell⟩:=unhide HFM _ _ _ hF;have HC:=hide hcell;have HB1:=hide hB;clear hF hB hcell HO)
 go_loopg [6,8] n (fun kk s6 s8 wr => ∃ k:Nat,s8=.int .i64 k∧k + kk=n∧s6=.string (mk (text 1 (Z.take (min k 64))))∧Hid (∀ x ∈ Z.take k,okF 1 x=true)∧Hid (Go.RowKit.Below w1.heap.size w1 wr))
 case atStart => exact ⟨0,rfl,by omega,rfl,hide (fun x hx => by simp at hx),Go.RowKit.Below.refl _ _⟩
 case round =>
  obtain ⟨k,rfl,hk,rfl,HOKS,HBL⟩:=hrel
  have HB:Hid (Go.RowKit.Below w.heap.size w wr):=(unhide HB1).trans ((unhide HBL).mono (unhide HB1).size)
  have hAs:=unhide HSZ k
  obtain ⟨A,hA⟩:∃ A,A=mk (text 1 (Z.take (min k 64))):=⟨_,rfl⟩
  rw [← hA] at hAs ⊢
  have HA:=hide hA
  clear hA
  by_cases hlt:k < n
  ·have hltz:(k:Int) < (n:Int):=by omega
   obtain ⟨x,hx⟩:∃ x,Z[k]?=some x:=⟨_,List.getElem?_eq_getElem (by rw [unhide HN];exact hlt)⟩
   obtain ⟨g,rfl,hg,hc⟩:=unhide HC k x hx
   have hcw:=((unhide HBL).cell (p:=⟨g,k,none⟩) hg).trans hc
   obtain ⟨hx0,hx1⟩:=unhide HZB x (List.mem_of_getElem? hx)
   have HVX:=hide (fun W => unhide HV k x W hx)
   have HNX:=hide (unhide HNO k x hx)
   have hps:=unhide HWL k x hx
   have HTX:=hide (unhide HTN k x hx)
   have HOKX:=hide (ok1 hx0 hx1)
   have HTS:Hid (okF 1 x=true→∀ y ∈ Z.take (k + 1),okF 1 y=true):=fun h y hy => by
    rw [take_snoc hx] at hy
    rcases List.mem_append.1 hy with hy | hy
    ·exact unhide HOKS y hy
    ·simp at hy;subst hy;exact h
   clear hx hc hg
   by_cases h255:255 < x
   ·have hbad:okF 1 x=false:=by rw [unhide HOKX];simp [h255]
    have HX:=hide (unhide H31 (unhide HNX hbad))
    clear hbad
    go_wp2
    go_ret2
    rw [(unhide HX).1,(unhide HX).2]
    exact ⟨rfl,unhide HB⟩
   ·have HBZ:Hid (∀ W,Go.RowKit.Below wr.heap.size wr W→Go.RowKit.Below w1.heap.size w1 W∧Go.RowKit.Below w.heap.size w W):=fun W h => ⟨(unhide HBL).trans (h.mono (unhide HBL).size),(unhide HB).trans (h.mono (unhide HB).size)⟩
    obtain ⟨p,hp⟩:∃ p,p=mk (Shw.wr 1 x):=⟨_,rfl⟩
    obtain ⟨vx,hv⟩:∃ vx,vx=One.val 1 (Shw.wr 1 x):=⟨_,rfl⟩
    rw [← hp,← hv] at HVX
    rw [← hp] at hps HTX
    have HOKZ:Hid (vx=0→okF 1 x=false):=fun h => by rw [unhide HOKX,← hv,h];simp
    have HOKN:Hid (vx≠0→okF 1 x=true):=fun h => by rw [unhide HOKX,← hv];simp [h255,h]
    have hcv:∀ W:World,(convert 134 9 (.slice (some ⟨W.heap.size,0,none⟩) 1 1)).run Tryz.prog (W.alloc (.cells #[.int .u8 x] 5))=.ok (.string p) (W.alloc (.cells #[.int .u8 x] 5)):=fun W => by rw [hp];exact conv1 x hx0 (by omega) W
    have HP:Hid (mk (Shw.wr 1 x)=p):=hp.symm
    clear hp hv
    by_cases hvz:vx=0
    ·subst hvz
     have HX:=hide (unhide H31 (unhide HNX (unhide HOKZ rfl)))
     go_wp2_with ((go_at_call 74;refine (unhide HVX _).mono ?_;rintro e w2 ⟨rfl,hB2⟩;have HB2:=hide ((((Go.RowKit.Below.refl _ wr).alloc (Nat.le_refl _) _).trans (hB2.mono (by simp))));clear hB2))
     go_ret2
     rw [(unhide HX).1,(unhide HX).2]
     exact ⟨rfl,(unhide HBZ _ (unhide HB2)).2⟩
    ·have hvne:(vx == 0)=false:=by rw [beq_eq_false_iff_ne];exact hvz
     have HOKT:=hide (unhide HTS (unhide HOKN hvz))
     clear hvz
     by_cases hk0:k=0
     ·subst hk0
      have HTX0:Hid (A ++ p=mk (text 1 (Z.take (min (0 + 1) 64)))):=by
       rw [Hid,unhide HTX (by omega),if_pos rfl,unhide HA]
       show mk [] ++ p=p
       rw [← unhide HP,mk_append]
       rfl
      have hadd:∀ W:World,(Op.stringOp .add A p).run Tryz.prog W=.ok (.string (A ++ p)) W:=fun W => run_string_add_sum W A p (by omega)
      generalize A ++ p=C at *
      go_wp2_with ((go_at_call 74;refine (unhide HVX _).mono ?_;rintro e w2 ⟨rfl,hB2⟩;have HB2:=hide ((((Go.RowKit.Below.refl _ wr).alloc (Nat.le_refl _) _).trans (hB2.mono (by simp))));clear hB2))
      go_roundg (n - (0 + 1))
      case rel => exact ⟨0 + 1,by go_num,by omega,by rw [unhide HTX0],HOKT,hide (unhide HBZ _ (unhide HB2)).1⟩
      case measure => omega
     ·have hk0z:(0:Int) < (k:Int):=by omega
      by_cases h64:k < 64
      ·have h64z:(k:Int) < 64:=by omega
       have HTXK:Hid (A ++ p=mk (text 1 (Z.take (min (k + 1) 64)))):=by
        rw [Hid,unhide HTX h64,if_neg hk0,unhide HA]
        show _=_ ++ (mk [] ++ p)
        rw [← unhide HP,mk_append]
        rfl
       have hadd:∀ W:World,(Op.stringOp .add A p).run Tryz.prog W=.ok (.string (A ++ p)) W:=fun W => run_string_add_sum W A p (by omega)
       generalize A ++ p=C at *
       go_wp2_with ((go_at_call 74;refine (unhide HVX _).mono ?_;rintro e w2 ⟨rfl,hB2⟩;have HB2:=hide ((((Go.RowKit.Below.refl _ wr).alloc (Nat.le_refl _) _).trans (hB2.mono (by simp))));clear hB2))
       go_roundg (n - (k + 1))
       case rel => exact ⟨k + 1,by go_num,by omega,by rw [unhide HTXK],HOKT,hide (unhide HBZ _ (unhide HB2)).1⟩
       case measure => omega
      ·have h64z:¬ (k:Int) < 64:=by omega
       have HTXK:Hid (A=mk (text 1 (Z.take (min (k + 1) 64)))):=by
        have e:min (k + 1) 64=min k 64:=by omega
        rw [Hid,e];exact unhide HA
       clear HTX
       go_wp2_with ((go_at_call 74;refine (unhide HVX _).mono ?_;rintro e w2 ⟨rfl,hB2⟩;have HB2:=hide ((((Go.RowKit.Below.refl _ wr).alloc (Nat.le_refl _) _).trans (hB2.mono (by simp))));clear hB2))
       go_roundg (n - (k + 1))
       case rel => exact ⟨k + 1,by go_num,by omega,by rw [← unhide HTXK],HOKT,hide (unhide HBZ _ (unhide HB2)).1⟩
       case measure => omega
  ·obtain rfl:k=n:=by omega
   have hltz:¬ (k:Int) < (k:Int):=by omega
   have HALL:Hid (∀ x ∈ Z,okF 1 x=true):=by
    have h:=unhide HOKS
    rwa [unhide HTL] at h
   by_cases h64:64 < k
   ·have h64z:(64:Int) < (k:Int):=by omega
    have HX:=hide (unhide H32 (unhide HALL) h64)
    go_wp2
    go_ret2
    rw [(unhide HX).1,(unhide HX).2]
    exact ⟨rfl,unhide HB⟩
   ·have h64z:¬ (64:Int) < (k:Int):=by omega
    have HX:=hide (unhide H0 (unhide HALL) h64)
    have HAE:Hid (A=TT):=by
     have e:min k 64=k:=by omega
     rw [Hid,unhide HA,e,unhide HTL,← unhide HTT,(unhide HX).2]
    go_wp2
    go_ret2
    rw [(unhide HX).1,← unhide HAE]
    exact ⟨rfl,unhide HB⟩

theorem refShow2 {n₀:Nat} (v:Value) (L:List Int) (w:World) (hI:IRow n₀ w v L) (hb:∀ x ∈ L,0≤x∧x≤65535) (hn:L.length≤1048576) :
  Calls Tryz.prog 49 #[.int .i64 2,v] w fun e w' => e=.returned (.tuple #[.string (mk (showT 2 (setOf L))),.int .i64 (showE 2 (setOf L))])∧Go.RowKit.Below w.heap.size w w':=by
 have HO:=hide (refOf_any v L w hI (fun x hx => (hb x hx).1) (by omega))
 have hzl:=(setOf_set L).len
 have hzb:=set_bounds hb
 clear hI hb
 generalize setOf L=Z at *
 have HZB:=hide hzb
 have HV:Hid (∀ (k:Nat) x W,Z[k]?=some x→Calls Tryz.prog 74 #[.int .i64 2,.string (mk (Shw.wr 2 x))] W fun e w' => e=.returned (.int .i64 (One.val 2 (Shw.wr 2 x)))∧Go.RowKit.Below W.heap.size W w'):=fun k x W hx => by
  have hbx:=hzb x (List.mem_of_getElem? hx)
  have hl:=wr_len 2 x hbx.1 hbx.2
  refine (One.value_any 2 (mk (Shw.wr 2 x)) W (by rw [mk_size];unfold maxLen;omega)).mono ?_
  rintro e w' ⟨rfl,n,rfl⟩
  have e1:(mk (Shw.wr 2 x)).data.toList=Shw.wr 2 x:=dl_mk _
  rw [e1]
  exact ⟨rfl,⟨rfl,rfl,rfl,Nat.le_refl _,fun _ _ => rfl⟩⟩
 have HNO:=hide (fun (k:Nat) (x:Int) => @not_ok 2 Z k x)
 have H31:Hid (Z.all (okF 2)=false→showE 2 Z=31∧mk (showT 2 Z)=⟨#[]⟩):=fun h => by
  have e:showE 2 Z=31:=by unfold showE;rw [if_pos (show One.isK 2=true from rfl),h];rfl
  refine ⟨e,?_⟩
  unfold showT
  rw [e]
  rfl
 have H32:Hid ((∀ x ∈ Z,okF 2 x=true)→64 < Z.length→showE 2 Z=32∧mk (showT 2 Z)=⟨#[]⟩):=fun h h2 => by
  have e:showE 2 Z=32:=by unfold showE;rw [if_pos (show One.isK 2=true from rfl),all_ok h,if_pos rfl,if_pos h2]
  refine ⟨e,?_⟩
  unfold showT
  rw [e]
  rfl
 have H0:Hid ((∀ x ∈ Z,okF 2 x=true)→¬ 64 < Z.length→showE 2 Z=0∧showT 2 Z=text 2 Z):=fun h h2 => by
  have e:showE 2 Z=0:=by unfold showE;rw [if_pos (show One.isK 2=true from rfl),all_ok h,if_pos rfl,if_neg h2]
  refine ⟨e,?_⟩
  unfold showT
  rw [e]
  rfl
 have HTL:Hid (Z.take Z.length=Z):=List.take_length
 have HTN:Hid (∀ (k:Nat) x,Z[k]?=some x→k < 64→mk (text 2 (Z.take (min (k + 1) 64)))=if k=0 then mk (Shw.wr 2 x) else mk (text 2 (Z.take (min k 64))) ++ (mk (sepK 2) ++ mk (Shw.wr 2 x))):=fun k x hx h => by
  have e1:min (k + 1) 64=k + 1:=by omega
  have e2:min k 64=k:=by omega
  rw [e1,e2,take_snoc hx,text_snoc,mk_append,mk_append]
  have hkl:k < Z.length:=(List.getElem?_eq_some_iff.1 hx).1
  by_cases h0:k=0
  ·rw [if_pos h0,h0];rfl
  ·rw [if_neg h0,if_neg (fun e => by have h9:=congrArg List.length e;rw [List.length_take,List.length_nil] at h9;omega)]
 have HSZ:Hid (∀ k:Nat,(mk (text 2 (Z.take (min k 64)))).size≤1344):=fun k => by
  have h:=text_len 2 _ (Z.take (min k 64)) rfl (fun x hx => hzb x (List.mem_of_mem_take hx))
  rw [mk_size]
  simp at h
  omega
 have HWL:Hid (∀ (k:Nat) x,Z[k]?=some x→(mk (Shw.wr 2 x)).size≤20):=fun k x hx => by
  have hbx:=hzb x (List.mem_of_getElem? hx)
  rw [mk_size]
  exact wr_len 2 x hbx.1 hbx.2
 have HFM:Hid (∀ n W u,IRow n W u Z→∃ ao cap,u=.slice ao Z.length cap∧∀ (k:Nat) x,Z[k]?=some x→∃ g,ao=some ⟨g,0,none⟩∧g < W.heap.size∧W.cell? ⟨g,k,none⟩=some (.int .i64 x)):=fun n W u h => by
  obtain ⟨ao,cap,e,_,h2⟩:=h.form
  exact ⟨ao,cap,e,h2⟩
 clear hzb
 generalize hTT:mk (showT 2 Z)=TT at *
 have HTT:=hide hTT
 clear hTT
 generalize showE 2 Z=E at *
 generalize hnn:Z.length=n at *
 have HN:=hide hnn
 clear hnn
 have hnz:(n:Int)≤1048576:=by omega
 go_enter Tryz.func49,Tryz.ntmps49
 go_wp2_with (go_at_call 75;refine (unhide HO).mono ?_;rintro e w1 ⟨z,rfl,hF,hB⟩;obtain ⟨ao,cap,rfl,hcell⟩:=unhide HFM _ _ _ hF;have HC:=hide hcell;have HB1:=hide hB;clear hF hB hcell HO)
 go_loopg [6,8] n (fun kk s6 s8 wr => ∃ k:Nat,s8=.int .i64 k∧k + kk=n∧s6=.string (mk (text 2 (Z.take (min k 64))))∧Hid (∀ x ∈ Z.take k,okF 2 x=true)∧Hid (Go.RowKit.Below w1.heap.size w1 wr))
 case atStart => exact ⟨0,rfl,by omega,rfl,hide (fun x hx => by simp at hx),Go.RowKit.Below.refl _ _⟩
 case round =>
  obtain ⟨k,rfl,hk,rfl,HOKS,HBL⟩:=hrel
  have HB:Hid (Go.RowKit.Below w.heap.size w wr):=(unhide HB1).trans ((unhide HBL).mono (unhide HB1).size)
  have hAs:=unhide HSZ k
  obtain ⟨A,hA⟩:∃ A,A=mk (text 2 (Z.take (min k 64))):=⟨_,rfl⟩
  rw [← hA] at hAs ⊢
  have HA:=hide hA
  clear hA
  by_cases hlt:k < n
  ·have hltz:(k:Int) < (n:Int):=by omega
   obtain ⟨x,hx⟩:∃ x,Z[k]?=some x:=⟨_,List.getElem?_eq_getElem (by rw [unhide HN];exact hlt)⟩
   obtain ⟨g,rfl,hg,hc⟩:=unhide HC k x hx
   have hcw:=((unhide HBL).cell (p:=⟨g,k,none⟩) hg).trans hc
   obtain ⟨hx0,hx1⟩:=unhide HZB x (List.mem_of_getElem? hx)
   have HVX:=hide (fun W => unhide HV k x W hx)
   have HNX:=hide (unhide HNO k x hx)
   have hps:=unhide HWL k x hx
   have HTX:=hide (unhide HTN k x hx)
   have HOKX:=hide (ok2 hx0 hx1)
   have HTS:Hid (okF 2 x=true→∀ y ∈ Z.take (k + 1),okF 2 y=true):=fun h y hy => by
    rw [take_snoc hx] at hy
    rcases List.mem_append.1 hy with hy | hy
    ·exact unhide HOKS y hy
    ·simp at hy;subst hy;exact h
   clear hx hc hg
   have HBZ:Hid (∀ W,Go.RowKit.Below wr.heap.size wr W→Go.RowKit.Below w1.heap.size w1 W∧Go.RowKit.Below w.heap.size w W):=fun W h => ⟨(unhide HBL).trans (h.mono (unhide HBL).size),(unhide HB).trans (h.mono (unhide HB).size)⟩
   obtain ⟨p,hp⟩:∃ p,p=mk (Shw.wr 2 x):=⟨_,rfl⟩
   obtain ⟨vx,hv⟩:∃ vx,vx=One.val 2 (Shw.wr 2 x):=⟨_,rfl⟩
   rw [← hp,← hv] at HVX
   rw [← hp] at hps HTX
   have HOKZ:Hid (vx=0→okF 2 x=false):=fun h => by rw [unhide HOKX,← hv,h];simp
   have HOKN:Hid (vx≠0→okF 2 x=true):=fun h => by rw [unhide HOKX,← hv];simp [h]
   have hcv:∀ W:World,(convert 134 9 (.slice (some ⟨W.heap.size,0,none⟩) 2 2)).run Tryz.prog (W.alloc (.cells #[.int .u8 (x / 256),.int .u8 (x % 256)] 5))=.ok (.string p) (W.alloc (.cells #[.int .u8 (x / 256),.int .u8 (x % 256)] 5)):=fun W => by rw [hp];exact conv2 x hx0 hx1 W
   have hcvd:∀ W:World,(convert 134 9 (.slice (some ⟨W.heap.size,0,none⟩) 2 2)).run Tryz.prog (W.alloc (.cells #[.int .u8 (x / 256),.int .u8 (x % 256)] 5)).drew=.ok (.string p) (W.alloc (.cells #[.int .u8 (x / 256),.int .u8 (x % 256)] 5)).drew:=fun W => by rw [hp];exact conv2d x hx0 hx1 W
   have hq0:0≤x / 256:=by omega
   have hq1:x / 256≤255:=by omega
   have hr0:0≤x % 256:=by omega
   have hr1:x % 256≤255:=by omega
   have HP:Hid (mk (Shw.wr 2 x)=p):=hp.symm
   clear hp hv
   by_cases hvz:vx=0
   ·subst hvz
    have HX:=hide (unhide H31 (unhide HNX (unhide HOKZ rfl)))
    go_wp2_with fail
    go_region
    go_wp2_with ((go_at_call 74;refine (unhide HVX _).mono ?_;rintro e w2 ⟨rfl,hB2⟩;have HB2:=hide (((((Go.RowKit.Below.refl _ wr).alloc (Nat.le_refl _) _).drew).trans (hB2.mono (by show wr.heap.size≤(wr.alloc _).heap.size;simp))));clear hB2))
    go_ret2
    rw [(unhide HX).1,(unhide HX).2]
    exact ⟨rfl,(unhide HBZ _ (unhide HB2)).2⟩
   ·have hvne:(vx == 0)=false:=by rw [beq_eq_false_iff_ne];exact hvz
    have HOKT:=hide (unhide HTS (unhide HOKN hvz))
    clear hvz
    by_cases hk0:k=0
    ·subst hk0
     have HTX0:Hid (A ++ p=mk (text 2 (Z.take (min (0 + 1) 64)))):=by
      rw [Hid,unhide HTX (by omega),if_pos rfl,unhide HA]
      show mk [] ++ p=p
      rw [← unhide HP,mk_append]
      rfl
     have hadd:∀ W:World,(Op.stringOp .add A p).run Tryz.prog W=.ok (.string (A ++ p)) W:=fun W => run_string_add_sum W A p (by omega)
     generalize A ++ p=C at *
     go_wp2_with fail
     go_region
     go_wp2_with ((go_at_call 74;refine (unhide HVX _).mono ?_;rintro e w2 ⟨rfl,hB2⟩;have HB2:=hide (((((Go.RowKit.Below.refl _ wr).alloc (Nat.le_refl _) _).drew).trans (hB2.mono (by show wr.heap.size≤(wr.alloc _).heap.size;simp))));clear hB2))
     go_roundg (n - (0 + 1))
     case rel => exact ⟨0 + 1,by go_num,by omega,by rw [unhide HTX0],HOKT,hide (unhide HBZ _ (unhide HB2)).1⟩
     case measure => omega
    ·have hk0z:(0:Int) < (k:Int):=by omega
     by_cases h64:k < 64
     ·have h64z:(k:Int) < 64:=by omega
      have HTXK:Hid (A ++ p=mk (text 2 (Z.take (min (k + 1) 64)))):=by
       rw [Hid,unhide HTX h64,if_neg hk0,unhide HA]
       show _=_ ++ (mk [] ++ p)
       rw [← unhide HP,mk_append]
       rfl
      have hadd:∀ W:World,(Op.stringOp .add A p).run Tryz.prog W=.ok (.string (A ++ p)) W:=fun W => run_string_add_sum W A p (by omega)
      generalize A ++ p=C at *
      go_wp2_with fail
      go_region
      go_wp2_with ((go_at_call 74;refine (unhide HVX _).mono ?_;rintro e w2 ⟨rfl,hB2⟩;have HB2:=hide (((((Go.RowKit.Below.refl _ wr).alloc (Nat.le_refl _) _).drew).trans (hB2.mono (by show wr.heap.size≤(wr.alloc _).heap.size;simp))));clear hB2))
      go_roundg (n - (k + 1))
      case rel => exact ⟨k + 1,by go_num,by omega,by rw [unhide HTXK],HOKT,hide (unhide HBZ _ (unhide HB2)).1⟩
      case measure => omega
     ·have h64z:¬ (k:Int) < 64:=by omega
      have HTXK:Hid (A=mk (text 2 (Z.take (min (k + 1) 64)))):=by
       have e:min (k + 1) 64=min k 64:=by omega
       rw [Hid,e];exact unhide HA
      clear HTX
      go_wp2_with fail
      go_region
      go_wp2_with ((go_at_call 74;refine (unhide HVX _).mono ?_;rintro e w2 ⟨rfl,hB2⟩;have HB2:=hide (((((Go.RowKit.Below.refl _ wr).alloc (Nat.le_refl _) _).drew).trans (hB2.mono (by show wr.heap.size≤(wr.alloc _).heap.size;simp))));clear hB2))
      go_roundg (n - (k + 1))
      case rel => exact ⟨k + 1,by go_num,by omega,by rw [← unhide HTXK],HOKT,hide (unhide HBZ _ (unhide HB2)).1⟩
      case measure => omega
  ·obtain rfl:k=n:=by omega
   have hltz:¬ (k:Int) < (k:Int):=by omega
   have HALL:Hid (∀ x ∈ Z,okF 2 x=true):=by
    have h:=unhide HOKS
    rwa [unhide HTL] at h
   by_cases h64:64 < k
   ·have h64z:(64:Int) < (k:Int):=by omega
    have HX:=hide (unhide H32 (unhide HALL) h64)
    go_wp2
    go_ret2
    rw [(unhide HX).1,(unhide HX).2]
    exact ⟨rfl,unhide HB⟩
   ·have h64z:¬ (64:Int) < (k:Int):=by omega
    have HX:=hide (unhide H0 (unhide HALL) h64)
    have HAE:Hid (A=TT):=by
     have e:min k 64=k:=by omega
     rw [Hid,unhide HA,e,unhide HTL,← unhide HTT,(unhide HX).2]
    go_wp2
    go_ret2
    rw [(unhide HX).1,← unhide HAE]
    exact ⟨rfl,unhide HB⟩

theorem refShow3 {n₀:Nat} (v:Value) (L:List Int) (w:World) (hI:IRow n₀ w v L) (hb:∀ x ∈ L,0≤x∧x≤65535) (hn:L.length≤1048576) :
  Calls Tryz.prog 49 #[.int .i64 3,v] w fun e w' => e=.returned (.tuple #[.string (mk (showT 3 (setOf L))),.int .i64 (showE 3 (setOf L))])∧Go.RowKit.Below w.heap.size w w':=by
 have HO:=hide (refOf_any v L w hI (fun x hx => (hb x hx).1) (by omega))
 have hzl:=(setOf_set L).len
 have hzb:=set_bounds hb
 clear hI hb
 generalize setOf L=Z at *
 have HZB:=hide hzb
 have HV:Hid (∀ (k:Nat) x W,Z[k]?=some x→Calls Tryz.prog 74 #[.int .i64 3,.string (mk (Shw.wr 3 x))] W fun e w' => e=.returned (.int .i64 (One.val 3 (Shw.wr 3 x)))∧Go.RowKit.Below W.heap.size W w'):=fun k x W hx => by
  have hbx:=hzb x (List.mem_of_getElem? hx)
  have hl:=wr_len 3 x hbx.1 hbx.2
  refine (One.value_any 3 (mk (Shw.wr 3 x)) W (by rw [mk_size];unfold maxLen;omega)).mono ?_
  rintro e w' ⟨rfl,n,rfl⟩
  have e1:(mk (Shw.wr 3 x)).data.toList=Shw.wr 3 x:=dl_mk _
  rw [e1]
  exact ⟨rfl,⟨rfl,rfl,rfl,Nat.le_refl _,fun _ _ => rfl⟩⟩
 have HNO:=hide (fun (k:Nat) (x:Int) => @not_ok 3 Z k x)
 have H31:Hid (Z.all (okF 3)=false→showE 3 Z=31∧mk (showT 3 Z)=⟨#[]⟩):=fun h => by
  have e:showE 3 Z=31:=by unfold showE;rw [if_pos (show One.isK 3=true from rfl),h];rfl
  refine ⟨e,?_⟩
  unfold showT
  rw [e]
  rfl
 have H32:Hid ((∀ x ∈ Z,okF 3 x=true)→64 < Z.length→showE 3 Z=32∧mk (showT 3 Z)=⟨#[]⟩):=fun h h2 => by
  have e:showE 3 Z=32:=by unfold showE;rw [if_pos (show One.isK 3=true from rfl),all_ok h,if_pos rfl,if_pos h2]
  refine ⟨e,?_⟩
  unfold showT
  rw [e]
  rfl
 have H0:Hid ((∀ x ∈ Z,okF 3 x=true)→¬ 64 < Z.length→showE 3 Z=0∧showT 3 Z=text 3 Z):=fun h h2 => by
  have e:showE 3 Z=0:=by unfold showE;rw [if_pos (show One.isK 3=true from rfl),all_ok h,if_pos rfl,if_neg h2]
  refine ⟨e,?_⟩
  unfold showT
  rw [e]
  rfl
 have HTL:Hid (Z.take Z.length=Z):=List.take_length
 have HTN:Hid (∀ (k:Nat) x,Z[k]?=some x→k < 64→mk (text 3 (Z.take (min (k + 1) 64)))=if k=0 then mk (Shw.wr 3 x) else mk (text 3 (Z.take (min k 64))) ++ (mk (sepK 3) ++ mk (Shw.wr 3 x))):=fun k x hx h => by
  have e1:min (k + 1) 64=k + 1:=by omega
  have e2:min k 64=k:=by omega
  rw [e1,e2,take_snoc hx,text_snoc,mk_append,mk_append]
  have hkl:k < Z.length:=(List.getElem?_eq_some_iff.1 hx).1
  by_cases h0:k=0
  ·rw [if_pos h0,h0];rfl
  ·rw [if_neg h0,if_neg (fun e => by have h9:=congrArg List.length e;rw [List.length_take,List.length_nil] at h9;omega)]
 have HSZ:Hid (∀ k:Nat,(mk (text 3 (Z.take (min k 64)))).size≤1344):=fun k => by
  have h:=text_len 3 _ (Z.take (min k 64)) rfl (fun x hx => hzb x (List.mem_of_mem_take hx))
  rw [mk_size]
  simp at h
  omega
 have HWL:Hid (∀ (k:Nat) x,Z[k]?=some x→(mk (Shw.wr 3 x)).size≤20):=fun k x hx => by
  have hbx:=hzb x (List.mem_of_getElem? hx)
  rw [mk_size]
  exact wr_len 3 x hbx.1 hbx.2
 have HFM:Hid (∀ n W u,IRow n W u Z→∃ ao cap,u=.slice ao Z.length cap∧∀ (k:Nat) x,Z[k]?=some x→∃ g,ao=some ⟨g,0,none⟩∧g < W.heap.size∧W.cell? ⟨g,k,none⟩=some (.int .i64 x)):=fun n W u h => by
  obtain ⟨ao,cap,e,_,h2⟩:=h.form
  exact ⟨ao,cap,e,h2⟩
 clear hzb
 generalize hTT:mk (showT 3 Z)=TT at *
 have HTT:=hide hTT
 clear hTT
 generalize showE 3 Z=E at *
 generalize hnn:Z.length=n at *
 have HN:=hide hnn
 clear hnn
 have hnz:(n:Int)≤1048576:=by omega
 go_enter Tryz.func49,Tryz.ntmps49
 go_wp2_with (go_at_call 75;refine (unhide HO).mono ?_;rintro e w1 ⟨z,rfl,hF,hB⟩;obtain ⟨ao,cap,rfl,hcell⟩:=unhide HFM _ _ _ hF;have HC:=hide hcell;have HB1:=hide hB;clear hF hB hcell HO)
 go_loopg [6,8] n (fun kk s6 s8 wr => ∃ k:Nat,s8=.int .i64 k∧k + kk=n∧s6=.string (mk (text 3 (Z.take (min k 64))))∧Hid (∀ x ∈ Z.take k,okF 3 x=true)∧Hid (Go.RowKit.Below w1.heap.size w1 wr))
 case atStart => exact ⟨0,rfl,by omega,rfl,hide (fun x hx => by simp at hx),Go.RowKit.Below.refl _ _⟩
 case round =>
  obtain ⟨k,rfl,hk,rfl,HOKS,HBL⟩:=hrel
  have HB:Hid (Go.RowKit.Below w.heap.size w wr):=(unhide HB1).trans ((unhide HBL).mono (unhide HB1).size)
  have hAs:=unhide HSZ k
  obtain ⟨A,hA⟩:∃ A,A=mk (text 3 (Z.take (min k 64))):=⟨_,rfl⟩
  rw [← hA] at hAs ⊢
  have HA:=hide hA
  clear hA
  by_cases hlt:k < n
  ·have hltz:(k:Int) < (n:Int):=by omega
   obtain ⟨x,hx⟩:∃ x,Z[k]?=some x:=⟨_,List.getElem?_eq_getElem (by rw [unhide HN];exact hlt)⟩
   obtain ⟨g,rfl,hg,hc⟩:=unhide HC k x hx
   have hcw:=((unhide HBL).cell (p:=⟨g,k,none⟩) hg).trans hc
   obtain ⟨hx0,hx1⟩:=unhide HZB x (List.mem_of_getElem? hx)
   have HVX:=hide (fun W => unhide HV k x W hx)
   have HNX:=hide (unhide HNO k x hx)
   have hps:=unhide HWL k x hx
   have HTX:=hide (unhide HTN k x hx)
   have HOKX:=hide (ok3 hx0 hx1)
   have HTS:Hid (okF 3 x=true→∀ y ∈ Z.take (k + 1),okF 3 y=true):=fun h y hy => by
    rw [take_snoc hx] at hy
    rcases List.mem_append.1 hy with hy | hy
    ·exact unhide HOKS y hy
    ·simp at hy;subst hy;exact h
   clear hx hc hg
   have HBZ:Hid (∀ W,Go.RowKit.Below wr.heap.size wr W→Go.RowKit.Below w1.heap.size w1 W∧Go.RowKit.Below w.heap.size w W):=fun W h => ⟨(unhide HBL).trans (h.mono (unhide HBL).size),(unhide HB).trans (h.mono (unhide HB).size)⟩
   obtain ⟨p,hp⟩:∃ p,p=mk (Shw.wr 3 x):=⟨_,rfl⟩
   obtain ⟨vx,hv⟩:∃ vx,vx=One.val 3 (Shw.wr 3 x):=⟨_,rfl⟩
   rw [← hp,← hv] at HVX
   rw [← hp] at hps HTX
   have HOKZ:Hid (vx=0→okF 3 x=false):=fun h => by rw [unhide HOKX,← hv,h];simp
   have HOKN:Hid (vx≠0→okF 3 x=true):=fun h => by rw [unhide HOKX,← hv];simp [h]
   have HDX:Hid (∀ W,Calls Tryz.prog 51 #[.int .i64 x] W fun e w' => e=.returned (.string p)∧Go.RowKit.Below W.heap.size W w'):=fun W => by rw [hp];exact DecW.dec_any x (by omega) (by omega) W
   have HP:Hid (mk (Shw.wr 3 x)=p):=hp.symm
   clear hp hv
   by_cases hvz:vx=0
   ·subst hvz
    have HX:=hide (unhide H31 (unhide HNX (unhide HOKZ rfl)))
    go_wp2_with (first
     | (go_at_call 51;refine (unhide HDX _).mono ?_;rintro e w3 ⟨rfl,hB3⟩;have HB3:=hide hB3;clear hB3)
     | (go_at_call 74;refine (unhide HVX _).mono ?_;rintro e w2 ⟨rfl,hB2⟩;have HB2:=hide ((unhide HB3).trans (hB2.mono (unhide HB3).size));clear hB2))
    go_ret2
    rw [(unhide HX).1,(unhide HX).2]
    exact ⟨rfl,(unhide HBZ _ (unhide HB2)).2⟩
   ·have hvne:(vx == 0)=false:=by rw [beq_eq_false_iff_ne];exact hvz
    have HOKT:=hide (unhide HTS (unhide HOKN hvz))
    clear hvz
    by_cases hk0:k=0
    ·subst hk0
     have HTX0:Hid (A ++ p=mk (text 3 (Z.take (min (0 + 1) 64)))):=by
      rw [Hid,unhide HTX (by omega),if_pos rfl,unhide HA]
      show mk [] ++ p=p
      rw [← unhide HP,mk_append]
      rfl
     have hadd:∀ W:World,(Op.stringOp .add A p).run Tryz.prog W=.ok (.string (A ++ p)) W:=fun W => run_string_add_sum W A p (by omega)
     generalize A ++ p=C at *
     go_wp2_with (first
      | (go_at_call 51;refine (unhide HDX _).mono ?_;rintro e w3 ⟨rfl,hB3⟩;have HB3:=hide hB3;clear hB3)
      | (go_at_call 74;refine (unhide HVX _).mono ?_;rintro e w2 ⟨rfl,hB2⟩;have HB2:=hide ((unhide HB3).trans (hB2.mono (unhide HB3).size));clear hB2))
     go_roundg (n - (0 + 1))
     case rel => exact ⟨0 + 1,by go_num,by omega,by rw [unhide HTX0],HOKT,hide (unhide HBZ _ (unhide HB2)).1⟩
     case measure => omega
    ·have hk0z:(0:Int) < (k:Int):=by omega
     by_cases h64:k < 64
     ·have h64z:(k:Int) < 64:=by omega
      obtain ⟨q,hq⟩:∃ q,q=(⟨#[44]⟩:ByteArray) ++ p:=⟨_,rfl⟩
      have hqs:q.size≤21:=by rw [hq,ByteArray.size_append];show 1 + p.size≤21;omega
      have hadd0:∀ W:World,(Op.stringOp .add (⟨#[44]⟩:ByteArray) p).run Tryz.prog W=.ok (.string q) W:=fun W => by rw [hq];exact run_string_add_sum W ⟨#[44]⟩ p (by show 1 + p.size≤_;omega)
      have HTXK:Hid (A ++ q=mk (text 3 (Z.take (min (k + 1) 64)))):=by
       rw [Hid,unhide HTX h64,if_neg hk0,unhide HA,hq]
       rfl
      clear hq
      have hadd:∀ W:World,(Op.stringOp .add A q).run Tryz.prog W=.ok (.string (A ++ q)) W:=fun W => run_string_add_sum W A q (by omega)
      generalize A ++ q=C at *
      go_wp2_with (first
       | (go_at_call 51;refine (unhide HDX _).mono ?_;rintro e w3 ⟨rfl,hB3⟩;have HB3:=hide hB3;clear hB3)
       | (go_at_call 74;refine (unhide HVX _).mono ?_;rintro e w2 ⟨rfl,hB2⟩;have HB2:=hide ((unhide HB3).trans (hB2.mono (unhide HB3).size));clear hB2))
      go_roundg (n - (k + 1))
      case rel => exact ⟨k + 1,by go_num,by omega,by rw [unhide HTXK],HOKT,hide (unhide HBZ _ (unhide HB2)).1⟩
      case measure => omega
     ·have h64z:¬ (k:Int) < 64:=by omega
      have HTXK:Hid (A=mk (text 3 (Z.take (min (k + 1) 64)))):=by
       have e:min (k + 1) 64=min k 64:=by omega
       rw [Hid,e];exact unhide HA
      have hadd0:∀ W:World,(Op.stringOp .add (⟨#[44]⟩:ByteArray) p).run Tryz.prog W=.ok (.string ((⟨#[44]⟩:ByteArray) ++ p)) W:=fun W => run_string_add_sum W ⟨#[44]⟩ p (by show 1 + p.size≤_;omega)
      generalize (⟨#[44]⟩:ByteArray) ++ p=q at *
      go_wp2_with (first
       | (go_at_call 51;refine (unhide HDX _).mono ?_;rintro e w3 ⟨rfl,hB3⟩;have HB3:=hide hB3;clear hB3)
       | (go_at_call 74;refine (unhide HVX _).mono ?_;rintro e w2 ⟨rfl,hB2⟩;have HB2:=hide ((unhide HB3).trans (hB2.mono (unhide HB3).size));clear hB2))
      go_roundg (n - (k + 1))
      case rel => exact ⟨k + 1,by go_num,by omega,by rw [← unhide HTXK],HOKT,hide (unhide HBZ _ (unhide HB2)).1⟩
      case measure => omega
  ·obtain rfl:k=n:=by omega
   have hltz:¬ (k:Int) < (k:Int):=by omega
   have HALL:Hid (∀ x ∈ Z,okF 3 x=true):=by
    have h:=unhide HOKS
    rwa [unhide HTL] at h
   by_cases h64:64 < k
   ·have h64z:(64:Int) < (k:Int):=by omega
    have HX:=hide (unhide H32 (unhide HALL) h64)
    go_wp2
    go_ret2
    rw [(unhide HX).1,(unhide HX).2]
    exact ⟨rfl,unhide HB⟩
   ·have h64z:¬ (64:Int) < (k:Int):=by omega
    have HX:=hide (unhide H0 (unhide HALL) h64)
    have HAE:Hid (A=TT):=by
     have e:min k 64=k:=by omega
     rw [Hid,unhide HA,e,unhide HTL,← unhide HTT,(unhide HX).2]
    go_wp2
    go_ret2
    rw [(unhide HX).1,← unhide HAE]
    exact ⟨rfl,unhide HB⟩

theorem refShow_any {n₀:Nat} (kind:Int) (v:Value) (L:List Int) (w:World) (hI:IRow n₀ w v L) (hb:∀ x ∈ L,0≤x∧x≤65535) (hn:L.length≤1048576) :
  Calls Tryz.prog 49 #[.int .i64 kind,v] w fun e w' => e=.returned (.tuple #[.string (mk (showT kind (setOf L))),.int .i64 (showE kind (setOf L))])∧Go.RowKit.Below w.heap.size w w':=by
 cases hk:One.isK kind
 ·refine (refShow_bad kind v w hk).mono ?_
  rintro e w' ⟨rfl,rfl⟩
  have e1:showE kind (setOf L)=30:=by unfold showE;rw [hk];rfl
  have e2:showT kind (setOf L)=[]:=by unfold showT;rw [e1];rfl
  rw [e1,e2]
  exact ⟨rfl,Go.RowKit.Below.refl _ _⟩
 ·have h3:kind=1∨kind=2∨kind=3:=by unfold One.isK at hk;simp at hk;omega
  rcases h3 with rfl | rfl | rfl
  ·exact refShow1 v L w hI hb hn
  ·exact refShow2 v L w hI hb hn
  ·exact refShow3 v L w hI hb hn
theorem show_any (kind:Int) (v:Value) (L:List Int) (w:World) (hA:FArg w v L) (hb:∀ x ∈ L,0≤x∧x≤65535) (hn:L.length≤1048576) (hP:Pow w) :
  Calls Tryz.prog 46 #[.int .i64 kind,v] w fun e w' => e=.returned (.tuple #[.string (mk (showT kind (setOf L))),.int .i64 (showE kind (setOf L))])∧Go.RowKit.Below w.heap.size w w':=by
 cases hk:One.isK kind
 ·refine (show_bad kind v w hk).mono ?_
  rintro e w' ⟨rfl,rfl⟩
  have e1:showE kind (setOf L)=30:=by unfold showE;rw [hk];rfl
  have e2:showT kind (setOf L)=[]:=by unfold showT;rw [e1];rfl
  rw [e1,e2]
  exact ⟨rfl,Go.RowKit.Below.refl _ _⟩
 ·exact show_good kind v L w hk hA hb hn hP
end So
end Go.Proofs.YtmhegbeemgagkaaGreatDoor
