import Derived.Test.YtmhegbeemgagkaaGreatDoorGn04
import Derived.Test.YtmhegbeemgagkaaGreatDoorSoQ
import Derived.Test.YtmhegbeemgagkaaGreatDoorGn08
set_option maxHeartbeats 8000000
set_option maxRecDepth 100000
namespace Go.Proofs.YtmhegbeemgagkaaGreatDoor
open Go.Sort Go.RowKit
namespace So

def Cnt (w:World) (s:Nat) (W:World):Prop:=∃ n,W=grow (Sort.ahead w n) #[Obj.cells #[.int .i64 (s:Int)] 3]
section
variable {w W:World} {s:Nat}
theorem Cnt.cell (h:Cnt w s W):W.cell? ⟨w.heap.size,0,none⟩=some (.int .i64 (s:Int))∧W.frozen? ⟨w.heap.size,0,none⟩=false:=by
 obtain ⟨n,rfl⟩:=h
 exact ⟨grow_one_cell (Sort.ahead w n) _ 3,grow_one_frozen (Sort.ahead w n) _ 3⟩
theorem Cnt.drewN (h:Cnt w s W) (q:Nat):Cnt w s (W.drewN q):=by
 obtain ⟨n,rfl⟩:=h
 exact ⟨n + q,by rw [← ahead_ahead];rfl⟩
theorem Cnt.set (h:Cnt w s W) (t:Nat):Cnt w t (W.setCell ⟨w.heap.size,0,none⟩ (.int .i64 (t:Int))):=by
 obtain ⟨n,rfl⟩:=h
 exact ⟨n,setCell_grow_one (Sort.ahead w n) _ _ 3⟩
theorem Cnt.holds (h:Cnt w s W) {blk off:Nat} {d:Array Int} (hH:Holds encF w blk off d) (hb:blk < w.heap.size):Holds encF W blk off d:=by
 obtain ⟨n,rfl⟩:=h
 exact holds_grow encF _ _ blk off d (by simpa using hb) (holds_ahead encF w n blk off d hH)
theorem Cnt.grown (h:Cnt w s W):∃ n os,W=grow (Sort.ahead w n) os:=by
 obtain ⟨n,rfl⟩:=h
 exact ⟨n,_,rfl⟩
theorem Cnt.new (w:World):Cnt w 0 (w.alloc (.cells #[.int .i64 0] 3)):=⟨0,by rw [alloc_eq_grow,ahead_zero];rfl⟩
end

set_option maxRecDepth 1000000 in
theorem order2_any (blk off cap len x y s lo hi:Nat) (d:Array Int) (w W:World) (hlen:d.size=len) (hH:Holds encF w blk off d) (hblk:blk < w.heap.size) (hC:Cnt w s W) (hs:s≤1000) (hx:lo≤x∧x < hi) (hy:lo≤y∧y < hi) (hhi:hi≤len) (_hsz:len < 4611686018427387904) :
  Calls Tryz.prog 185 #[.slice (some ⟨blk,off,none⟩) len cap,.int .i64 x,.int .i64 y,.pointer (some ⟨w.heap.size,0,none⟩)] W fun e w' =>
   ∃ x' y' s':Nat,e=.returned (.tuple #[.int .i64 x',.int .i64 y'])∧(lo≤x'∧x' < hi)∧(lo≤y'∧y' < hi)∧s'≤s + 1∧Cnt w s' w':=by
 have hh:=hC.holds hH hblk
 obtain ⟨G,hG⟩:∃ G:Nat→Int,∀ t,G t=d[t]! := ⟨fun t => d[t]!,fun _ => rfl⟩
 have hc:∀ t,t < len→W.cell? ⟨blk,off + t,none⟩=some (.int .u16 (G t)):=fun t ht => by rw [hG];exact (hh t (by omega)).1
 obtain ⟨hn1,hn2⟩:=hC.cell
 have HC:=hide hC
 clear hG hh hH hC
 have hxl:x < len:=by omega
 have hyl:y < len:=by omega
 obtain ⟨B,hB⟩:∃ B,B=w.heap.size:=⟨_,rfl⟩
 have HSET:Hid (∀ q,Cnt w (s + 1) ((W.drewN q).setCell ⟨B,0,none⟩ (.int .i64 ((s:Int) + 1)))):=fun q => by
  have:=((unhide HC).drewN q).set (s + 1)
  rw [hB]
  exact this
 rw [← hB] at hn1 hn2 ⊢
 clear hB hblk
 go_enter Tryz.func185,Tryz.ntmps185
 go_wp2_with fail
 go_quiet (first | (go_at_call 129;refine Calls.quiet_of_same (less_any _ _ _)))
 go_wp2
 ·go_ret2
  exact ⟨y,x,s + 1,rfl,hy,hx,Nat.le_refl _,unhide HSET _⟩
 ·go_ret2
  exact ⟨x,y,s,rfl,hx,hy,by omega,(unhide HC).drewN _⟩

set_option maxRecDepth 1000000 in
theorem median_any (blk off cap len x y z s lo hi:Nat) (d:Array Int) (w W:World) (hlen:d.size=len) (hH:Holds encF w blk off d) (hblk:blk < w.heap.size) (hC:Cnt w s W) (hs:s≤900) (hx:lo≤x∧x < hi) (hy:lo≤y∧y < hi) (hz:lo≤z∧z < hi) (hhi:hi≤len) (hsz:len < 4611686018427387904) :
  Calls Tryz.prog 162 #[.slice (some ⟨blk,off,none⟩) len cap,.int .i64 x,.int .i64 y,.int .i64 z,.pointer (some ⟨w.heap.size,0,none⟩)] W fun e w' =>
   ∃ m s':Nat,e=.returned (.int .i64 m)∧(lo≤m∧m < hi)∧s'≤s + 3∧Cnt w s' w':=by
 have HO:=hide (fun (x y s:Nat) W h1 h2 h3 h4 => order2_any blk off cap len x y s lo hi d w W hlen hH hblk h1 h2 h3 h4 hhi hsz)
 have HC:=hide hC
 obtain ⟨B,hB⟩:∃ B,B=w.heap.size:=⟨_,rfl⟩
 rw [← hB] at HO ⊢
 clear hH hC hB hblk
 go_enter Tryz.func162,Tryz.ntmps162
 go_wp2_with (go_at_call 185;first
  | (refine (unhide HO x y s _ (unhide HC) (by omega) hx hy).mono ?_;rintro e w1 ⟨x1,y1,s1,rfl,hx1,hy1,hs1,hC1⟩;have HC1:=hide hC1;clear hC1 HC)
  | (refine (unhide HO y1 z s1 _ (unhide HC1) (by omega) hy1 hz).mono ?_;rintro e w2 ⟨x2,y2,s2,rfl,hx2,hy2,hs2,hC2⟩;have HC2:=hide hC2;clear hC2 HC1)
  | (refine (unhide HO x1 x2 s2 _ (unhide HC2) (by omega) hx1 hx2).mono ?_;rintro e w3 ⟨x3,y3,s3,rfl,hx3,hy3,hs3,hC3⟩;have HC3:=hide hC3;clear hC3 HC2))
 go_ret
 exact ⟨y3,s3,rfl,hy3,by omega,unhide HC3⟩

set_option maxRecDepth 1000000 in
theorem medianAdj_any (blk off cap len x s lo hi:Nat) (d:Array Int) (w W:World) (hlen:d.size=len) (hH:Holds encF w blk off d) (hblk:blk < w.heap.size) (hC:Cnt w s W) (hs:s≤900) (hx:lo + 1≤x∧x + 1 < hi) (hhi:hi≤len) (hsz:len < 4611686018427387904) :
  Calls Tryz.prog 161 #[.slice (some ⟨blk,off,none⟩) len cap,.int .i64 x,.pointer (some ⟨w.heap.size,0,none⟩)] W fun e w' =>
   ∃ m s':Nat,e=.returned (.int .i64 m)∧(lo≤m∧m < hi)∧s'≤s + 3∧Cnt w s' w':=by
 obtain ⟨p,hp⟩:∃ p:Nat,p=x - 1:=⟨_,rfl⟩
 obtain ⟨n,hn⟩:∃ n:Nat,n=x + 1:=⟨_,rfl⟩
 have hpz:(x:Int) - 1=(p:Int):=by omega
 have hnz:(x:Int) + 1=(n:Int):=by omega
 have HM:=hide (median_any blk off cap len p x n s lo hi d w W hlen hH hblk hC hs (by omega) (by omega) (by omega) hhi hsz)
 obtain ⟨B,hB⟩:∃ B,B=w.heap.size:=⟨_,rfl⟩
 rw [← hB] at HM ⊢
 clear hH hC hB hblk hp hn
 go_enter Tryz.func161,Tryz.ntmps161
 go_wp2_with (go_at_call 162;refine (unhide HM).mono ?_;rintro e w1 ⟨m,s',rfl,hm,hs',hC'⟩)
 go_ret
 exact ⟨m,s',rfl,hm,hs',hC'⟩

set_option maxRecDepth 1000000 in
theorem pivot_any (blk off cap len a b:Nat) (d:Array Int) (w:World) (hlen:d.size=len) (hH:Holds encF w blk off d) (hblk:blk < w.heap.size) (hab:a < b) (hb:b≤len) (hsz:len < 4611686018427387904) :
  Calls Tryz.prog 126 #[.slice (some ⟨blk,off,none⟩) len cap,.int .i64 a,.int .i64 b] w fun e w' =>
   ∃ (m:Nat) (h:Int),e=.returned (.tuple #[.int .i64 m,.int .i64 h])∧(a≤m∧m < b)∧∃ n os,w'=grow (Sort.ahead w n) os:=by
 obtain ⟨l,hl⟩:∃ l,l=b - a:=⟨_,rfl⟩
 obtain ⟨q,hq⟩:∃ q,q=l / 4:=⟨_,rfl⟩
 obtain ⟨i,hi⟩:∃ i,i=a + q:=⟨_,rfl⟩
 obtain ⟨j,hj⟩:∃ j,j=a + q * 2:=⟨_,rfl⟩
 obtain ⟨k,hk⟩:∃ k,k=a + q * 3:=⟨_,rfl⟩
 have hlz:(b:Int) - (a:Int)=(l:Int):=by omega
 have hqz:(l:Int).tdiv 4=(q:Int):=by rw [Int.tdiv_eq_ediv_of_nonneg (by omega)];omega
 have hqz2:(l:Int) / 4=(q:Int):=by omega
 have hiz:(a:Int) + (q:Int)=(i:Int):=by omega
 have hjz:(a:Int) + (q:Int) * 2=(j:Int):=by omega
 have hkz:(a:Int) + (q:Int) * 3=(k:Int):=by omega
 have hjr:a≤j∧j < b:=by omega
 have h8:8≤l→(a≤i∧i < b)∧(a≤k∧k < b):=by omega
 have h50:50≤l→(a + 1≤i∧i + 1 < b)∧(a + 1≤j∧j + 1 < b)∧(a + 1≤k∧k + 1 < b):=by omega
 have hql:q≤l:=by omega
 have hll:l≤len:=by omega
 have HA:=hide (fun (x s:Nat) W h1 h2 h3 => medianAdj_any blk off cap len x s a b d w W hlen hH hblk h1 h2 h3 hb hsz)
 have HM:=hide (fun (x y z s:Nat) W h1 h2 h3 h4 h5 => median_any blk off cap len x y z s a b d w W hlen hH hblk h1 h2 h3 h4 h5 hb hsz)
 have HN:=hide (Cnt.new w)
 clear hl hq hi hj hk hH
 go_enter Tryz.func126,Tryz.ntmps126
 by_cases c8:8≤l
 ·have c8z:(8:Int)≤(l:Int):=by omega
  by_cases c50:50≤l
  ·have c50z:(50:Int)≤(l:Int):=by omega
   obtain ⟨r1,r2,r3⟩:=h50 c50
   go_wp2_with (first
    | (go_at_call 161;first
     | (refine (unhide HA i 0 _ (unhide HN) (by omega) r1).mono ?_;rintro e w1 ⟨m1,s1,rfl,hm1,hs1,hC1⟩;have HC1:=hide hC1;clear hC1 HN)
     | (refine (unhide HA j s1 _ (unhide HC1) (by omega) r2).mono ?_;rintro e w2 ⟨m2,s2,rfl,hm2,hs2,hC2⟩;have HC2:=hide hC2;clear hC2 HC1)
     | (refine (unhide HA k s2 _ (unhide HC2) (by omega) r3).mono ?_;rintro e w3 ⟨m3,s3,rfl,hm3,hs3,hC3⟩;have HC3:=hide hC3;clear hC3 HC2))
    | (go_at_call 162;refine (unhide HM m1 m2 m3 s3 _ (unhide HC3) (by omega) hm1 hm2 hm3).mono ?_;rintro e w4 ⟨m4,s4,rfl,hm4,hs4,hC4⟩;have HC4:=hide hC4;obtain ⟨cc,_⟩:=hC4.cell;clear hC4 HC3))
   all_goals go_ret2
   all_goals exact ⟨m4,_,rfl,hm4,(unhide HC4).grown⟩
  ·have c50z:¬ (50:Int)≤(l:Int):=by omega
   obtain ⟨r1,r3⟩:=h8 c8
   go_wp2_with (go_at_call 162;refine (unhide HM i j k 0 _ (unhide HN) (by omega) r1 hjr r3).mono ?_;rintro e w4 ⟨m4,s4,rfl,hm4,hs4,hC4⟩;have HC4:=hide hC4;obtain ⟨cc,_⟩:=hC4.cell;clear hC4 HN)
   all_goals go_ret2
   all_goals exact ⟨m4,_,rfl,hm4,(unhide HC4).grown⟩
 ·have c8z:¬ (8:Int)≤(l:Int):=by omega
  go_wp2
  go_ret2
  exact ⟨j,⟨_,rfl⟩,hjr,(unhide HN).grown⟩

set_option maxRecDepth 1000000 in
set_option maxHeartbeats 32000000 in
theorem pdq_any:∀ (N blk off cap len a b limit:Nat) (d:Array Int) (w:World),b - a < N→d.size=len→Holds encF w blk off d→blk < w.heap.size→a≤b→b≤len→len < 4611686018427387904→limit < 4611686018427387904→Go.Sort.Below ltInt a b d →
  Calls Tryz.prog 100 #[.slice (some ⟨blk,off,none⟩) len cap,.int .i64 a,.int .i64 b,.int .i64 limit] w fun e w' =>
   e=.returned (.tuple #[])∧∃ d',At encF w blk off d' w'∧PermIn a b d d'∧SortedIn ltInt a b d':=by
 intro N
 induction N with
 | zero => intro _ _ _ _ _ _ _ _ _ h;exact absurd h (Nat.not_lt_zero _)
 | succ N ih =>
  intro blk off cap len a b limit d w hN hlen hH hblk hab hb hsz hlimit hBel
  have HAT:=hide (At.refl hH)
  have HH:=hide hH
  have HK0:=hide (Kont.start (by omega) hab hBel)
  have HIH:=hide ih
  clear hH hBel ih
  go_enter Tryz.func100,Tryz.ntmps100
  go_wp2
  go_loopg [1,2,3,8,9] (b - a) (fun k s1 s2 s3 s8 s9 wr => ∃ (i j lim:Nat) (wb wp:Bool) (dk:Array Int),s1=.int .i64 i∧s2=.int .i64 j∧s3=.int .i64 lim∧s8=.bool wb∧s9=.bool wp ∧
   i≤j∧j≤len∧j - i≤k∧k≤b - a∧lim≤limit∧dk.size=len∧Hid (Kont a b d i j dk)∧Hid (At encF w blk off dk wr))
  case atStart => exact ⟨a,b,limit,true,true,d,rfl,rfl,rfl,rfl,rfl,hab,hb,Nat.le_refl _,Nat.le_refl _,Nat.le_refl _,hlen,HK0,HAT⟩
  case round =>
   obtain ⟨i,j,lim,wb,wp,dk,rfl,rfl,rfl,rfl,rfl,hij,hjl,hk,hkN,hlim,hsk,HK,HX⟩:=hrel
   have HOL:=hide ((unhide HX).holds (unhide HH) (by omega) hblk)
   by_cases h12:j - i≤12
   ·have h12z:(j:Int) - (i:Int)≤12:=by omega
    have HC:=hide (insertion_any blk off cap len i j dk wr hsk (unhide HOL).1 (unhide HOL).2 hij hjl hsz)
    have HS:=hide (insertionSort_holds (lt:=ltInt) swo dk i j hij (by omega))
    go_wp2_with (go_at_call 123;refine (unhide HC).mono ?_;rintro e w1 ⟨rfl,h1⟩;have H1:=hide h1;clear h1)
    (try simp only [Exit.inBlock,Exit.then]);refine bodyPost_ret (results_none rfl _ _ _) rfl ?_
    obtain ⟨q1,q2⟩:=(unhide HK).go _ (unhide HS).1 (unhide HS).2
    exact ⟨rfl,_,(unhide HX).stepG hblk (unhide HS).1.1 (unhide H1),q1,q2⟩
   ·have h12z:¬ ((j:Int) - (i:Int)≤12):=by omega
    by_cases hl0:lim=0
    ·subst hl0
     have HC:=hide (heap_any blk off cap len i j dk wr hsk (unhide HOL).1 (unhide HOL).2 hij hjl hsz)
     have HS:=hide (heapSort_holds (lt:=ltInt) swo dk i j hij (by omega))
     go_wp2_with (go_at_call 124;refine (unhide HC).mono ?_;rintro e w1 ⟨rfl,h1⟩;have H1:=hide h1;clear h1)
     (try simp only [Exit.inBlock,Exit.then]);refine bodyPost_ret (results_none rfl _ _ _) rfl ?_
     obtain ⟨q1,q2⟩:=(unhide HK).go _ (unhide HS).1 (unhide HS).2
     exact ⟨rfl,_,(unhide HX).stepG hblk (unhide HS).1.1 (unhide H1),q1,q2⟩
    ·have hl0z:¬ ((lim:Int)=0):=by omega
     go_upto_if 35 with fail
     go_cut [3] from 19 to 133 (fun s3 wc => ∃ (lim2:Nat) (d1:Array Int),s3=.int .i64 lim2∧lim2≤limit∧d1.size=len∧Hid (Kont a b d i j d1)∧Hid (At encF w blk off d1 wc))
     case first =>
      cases wb
      ·have HC:=hide (break_any blk off cap len i j dk wr hsk (unhide HOL).1 (unhide HOL).2 hij hjl hsz)
       go_wp2_with (go_at_call 125;refine (unhide HC).mono ?_;rintro e w1 ⟨rfl,d1,h1,p1⟩;have H1:=hide h1;have P1:=hide p1;clear h1 p1)
       go_meet
       case rel => exact ⟨lim - 1,d1,by congr 1;omega,by omega,by rw [(unhide P1).1];exact hsk,hide ((unhide HK).perm (unhide P1)),hide ((unhide HX).stepG hblk (unhide P1).1 (unhide H1))⟩
      ·go_wp2_with fail
       go_meet
       case rel => exact ⟨lim,dk,rfl,hlim,hsk,HK,HX⟩
     case rest =>
      obtain ⟨lim2,d1,rfl,hlim2,hs1,HK1,HX1⟩:=hcut
      clear HK HX HOL hsk
      have HOL1:=hide ((unhide HX1).holds (unhide HH) (by omega) hblk)
      have HC1:=hide (pivot_any blk off cap len i j d1 wc hs1 (unhide HOL1).1 (unhide HOL1).2 (by omega) hjl hsz)
      go_upto_if 50 with (go_at_call 126;refine (unhide HC1).mono ?_;rintro e w2 ⟨pv,hint,rfl,hpv,h2⟩;have H2:=hide h2;clear h2)
      have HX2:=hide ((unhide HX1).same (unhide HH) (by omega) hblk (unhide H2))
      clear H2 HC1 HOL1 HX1
      have HOL2:=hide ((unhide HX2).holds (unhide HH) (by omega) hblk)
      go_cut [11,12] from 19 to 133 (fun s11 s12 wc => ∃ (p2:Nat) (h2:Int) (d2:Array Int),s11=.int .i64 p2∧s12=.int .i64 h2∧(i≤p2∧p2 < j)∧d2.size=len∧Hid (Kont a b d i j d2)∧Hid (At encF w blk off d2 wc))
      case first =>
       by_cases hh:hint=2
       ·subst hh
        have HC:=hide (reverse_any blk off cap len i j d1 w2 hs1 (unhide HOL2).1 (unhide HOL2).2 hij hjl hsz)
        go_wp2_with (go_at_call 127;refine (unhide HC).mono ?_;rintro e w3 ⟨rfl,d2,h3,p3⟩;have H3:=hide h3;have P3:=hide p3;clear h3 p3)
        go_meet
        case rel => exact ⟨(j - 1) - (pv - i),1,d2,by congr 1;omega,rfl,by omega,by rw [(unhide P3).1];exact hs1,hide ((unhide HK1).perm (unhide P3)),hide ((unhide HX2).stepG hblk (unhide P3).1 (unhide H3))⟩
       ·have hhb:(hint == 2)=false:=beq_eq_false_iff_ne.2 hh
        go_wp2_with fail
        go_meet
        case rel => exact ⟨pv,hint,d1,rfl,rfl,hpv,hs1,HK1,HX2⟩
      case rest =>
       obtain ⟨p2,h2,d2,rfl,rfl,hp2,hs2,HK2,HX3⟩:=hcut
       clear HK1 HX2 HOL2 hs1 hpv
       have HOL3:=hide ((unhide HX3).holds (unhide HH) (by omega) hblk)
       obtain ⟨V3,hV3⟩:∃ V,V=wc:=⟨_,rfl⟩
       subst hV3
       go_upto_region 15 with fail
       go_cut [68] from 19 to 133 (fun c wx => ∃ bb:Bool,c=.bool bb∧wx=V3)
       case first =>
        cases wb
        ·go_wp2_with fail
         go_meet
         case rel => exact ⟨_,rfl,rfl⟩
        ·cases wp
         ·go_wp2_with fail
          go_meet
          case rel => exact ⟨_,rfl,rfl⟩
         ·go_wp2_with fail
          go_meet
          case rel => exact ⟨_,rfl,rfl⟩
       case rest =>
        obtain ⟨bb,rfl,hwx⟩:=hcut
        subst hwx
        go_upto_if 68 with fail
        go_cut [] from 19 to 133 (fun wc => ∃ d3:Array Int,d3.size=len∧Hid (Kont a b d i j d3)∧Hid (At encF w blk off d3 wc))
        case first =>
         cases bb
         ·go_wp2_with fail
          go_meet
          case rel => exact ⟨d2,hs2,HK2,HX3⟩
         ·have HC:=hide (partial_any blk off cap len i j d2 _ hs2 (unhide HOL3).1 (unhide HOL3).2 (by omega) hjl hsz)
          have HS:=hide (partialInsertionSort_holds (lt:=ltInt) swo d2 i j (by omega) (by omega) (unhide HK2).below)
          generalize partialInsertionSort ltInt d2 i j=PR at *
          obtain ⟨pd,pb⟩:=PR
          cases pb
          ·go_wp2_with (go_at_call 128;refine (unhide HC).mono ?_;rintro e w4 ⟨rfl,h4⟩;have H4:=hide h4;clear h4)
           go_meet
           case rel => exact ⟨pd,by rw [(unhide HS).1.1];exact hs2,hide ((unhide HK2).perm (unhide HS).1),hide ((unhide HX3).stepG hblk (unhide HS).1.1 (unhide H4))⟩
          ·go_wp2_with (go_at_call 128;refine (unhide HC).mono ?_;rintro e w4 ⟨rfl,h4⟩;have H4:=hide h4;clear h4)
           (try simp only [Exit.inBlock,Exit.then]);refine bodyPost_ret (results_none rfl _ _ _) rfl ?_
           obtain ⟨q1,q2⟩:=(unhide HK2).go _ (unhide HS).1 ((unhide HS).2 trivial)
           exact ⟨rfl,_,(unhide HX3).stepG hblk (unhide HS).1.1 (unhide H4),q1,q2⟩
        case rest =>
         obtain ⟨d3,hs3,HK3,HX4⟩:=hcut
         clear HK2 HX3 HOL3 hs2
         obtain ⟨V4,hV4⟩:∃ V,V=wc:=⟨_,rfl⟩
         subst hV4
         obtain ⟨G,hG⟩:∃ G:Nat→Int,∀ t,G t=d3[t]! := ⟨fun t => d3[t]!,fun _ => rfl⟩
         obtain ⟨hc,hf⟩:=at_cells (unhide HX4) (unhide HH) (by omega) hblk hG
         rw [hlen] at hc hf
         have HG:=hide hG
         clear hG
         go_wp2_with fail
         go_cut [87] from 19 to 133 (fun c wx => ∃ bb:Bool,c=.bool bb∧Hid (bb=true→0 < i∧ltInt d3[i - 1]! d3[p2]! = false)∧Hid (At encF w blk off d3 wx))
         case first =>
          by_cases hi0:0 < i
          ·have hi0z:decide ((0:Int) < (i:Int))=true:=decide_eq_true (by omega)
           go_quiet (first | (go_at_call 129;refine Calls.quiet_of_same (less_any _ _ _)))
           go_wp2
           go_meet
           case rel => exact ⟨_,rfl,hide (fun h => ⟨hi0,by simp only [← unhide HG] at h ⊢;simpa using h⟩),hide (at_drewN (unhide HX4) _)⟩
          ·have hi0z:decide ((0:Int) < (i:Int))=false:=decide_eq_false (by omega)
           go_quiet (first | (go_at_call 129;refine Calls.quiet_of_same (less_any _ _ _)))
           go_wp2
           go_meet
           case rel => exact ⟨_,rfl,hide (fun h => by cases h),hide (at_drewN (unhide HX4) _)⟩
         case rest =>
          obtain ⟨bb2,rfl,HT,HX5⟩:=hcut
          clear HX4 hc hf HG
          have HOL5:=hide ((unhide HX5).holds (unhide HH) (by omega) hblk)
          cases bb2
          ·have HC:=hide (part_any blk off cap len i j p2 d3 wc hs3 (unhide HOL5).1 (unhide HOL5).2 hp2.1 hp2.2 hjl hsz)
           clear HT
           go_upto_if 113 with (go_at_call 131;refine (unhide HC).mono ?_;rintro e w6 ⟨m,okp,d4,rfl,h6,q1,q2,q3,q4,q5⟩;have H6:=hide h6;have HSP:=hide (Split.of q1 q2 q3 q4 q5);clear h6 q3 q4 q5)
           have hs4:d4.size=len:=by rw [(unhide HSP).perm.1];exact hs3
           have HX6:=hide ((unhide HX5).stepG hblk (unhide HSP).perm.1 (unhide H6))
           have HOL6:=hide ((unhide HX6).holds (unhide HH) (by omega) hblk)
           clear H6 HX5 HOL5 HC
           by_cases hlr:m - i < j - m
           ·have hlrz:(m:Int) - (i:Int) < (j:Int) - (m:Int):=by omega
            have HL:=hide ((unhide HK3).left (unhide HSP))
            have HR:=hide (unhide HIH blk off cap len i m lim2 d4 w6 (by omega) hs4 (unhide HOL6).1 (unhide HOL6).2 q1 (by omega) hsz (by omega) (unhide HL).1)
            go_wp2_with (go_at_call 100;refine (unhide HR).mono ?_;rintro e w7 ⟨rfl,L,h7,p7,s7⟩;have H7:=hide h7;have P7:=hide p7;have HK7:=hide ((unhide HL).2 L p7 s7);clear h7 p7 s7)
            go_roundg (j - (m + 1))
            case measure => omega
            case rel => exact ⟨m + 1,j,lim2,_,okp,L,by go_num,rfl,rfl,rfl,rfl,by omega,hjl,Nat.le_refl _,by omega,hlim2,by rw [(unhide P7).1];exact hs4,HK7,hide ((unhide HX6).stepG hblk (unhide P7).1 (unhide H7))⟩
           ·have hlrz:¬ (m:Int) - (i:Int) < (j:Int) - (m:Int):=by omega
            have HL:=hide ((unhide HK3).right (unhide HSP))
            obtain ⟨m1,hm1⟩:∃ m1,m1=m + 1:=⟨_,rfl⟩
            have hm1z:(m:Int) + 1=(m1:Int):=by omega
            have HR:=hide (unhide HIH blk off cap len m1 j lim2 d4 w6 (by omega) hs4 (unhide HOL6).1 (unhide HOL6).2 (by omega) (by omega) hsz (by omega) (by rw [hm1];exact (unhide HL).1))
            have HM1:=hide hm1
            clear hm1
            go_wp2_with (go_at_call 100;refine (unhide HR).mono ?_;rintro e w7 ⟨rfl,L,h7,p7,s7⟩;have H7:=hide h7;have P7:=hide p7;have HK7:=hide ((unhide HL).2 L (by rw [← unhide HM1];exact p7) (by rw [← unhide HM1];exact s7));clear h7 p7 s7)
            go_roundg (m - i)
            case measure => omega
            case rel => exact ⟨i,m,lim2,_,okp,L,rfl,rfl,rfl,rfl,rfl,q1,by omega,Nat.le_refl _,by omega,hlim2,by rw [(unhide P7).1];exact hs4,HK7,hide ((unhide HX6).stepG hblk (unhide P7).1 (unhide H7))⟩
          ·obtain ⟨hi0,hnl⟩:=unhide HT rfl
           have HNL:=hide hnl
           clear hnl HT
           have HC:=hide (equal_any blk off cap len i j p2 d3 wc hs3 (unhide HOL5).1 (unhide HOL5).2 hp2.1 hp2.2 hjl hsz)
           go_wp2_with (go_at_call 130;refine (unhide HC).mono ?_;rintro e w6 ⟨m,d4,rfl,h6,q1,q2,q3,q4,q5,q6⟩;have H6:=hide h6;have HK4:=hide ((unhide HK3).equal hi0 (unhide HNL) q1 q2 q3 q4 q5 q6);have P6:=hide q3;clear h6 q3 q4 q5 q6)
           go_roundg (j - m)
           case measure => omega
           case rel => exact ⟨m,j,lim2,wb,wp,d4,rfl,rfl,rfl,rfl,rfl,q2,hjl,Nat.le_refl _,by omega,hlim2,by rw [(unhide P6).1];exact hs3,HK4,hide ((unhide HX5).stepG hblk (unhide P6).1 (unhide H6))⟩
end So
end Go.Proofs.YtmhegbeemgagkaaGreatDoor
