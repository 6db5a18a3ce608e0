import Derived.Test.YtmhegbeemgagkaaGreatDoorGn36
import Derived.Test.YtmhegbeemgagkaaGreatDoorGn38
set_option maxHeartbeats 8000000
set_option maxRecDepth 100000
namespace Go.Proofs.YtmhegbeemgagkaaGreatDoor
open Go.RowKit
namespace Af
open RowB

def wF:Nat→List (List Int)→List Int→Option Nat
 | _,[],_ => none
 | i,a :: t,S => if a=S then some i else wF (i + 1) t S
def wR:Option Nat→Value
 | some i => .tuple #[.string ⟨(Lib.itoa ((i:Int) + 1)).toArray⟩,.int .i64 0]
 | none => .tuple #[.string ⟨#[]⟩,.int .i64 31]
def wV (F:Fil) (L:List Int):Value :=
 if F.aliases=[] then .tuple #[.string (Cut.mk (Shw.showT F.kind (So.setOf L))),.int .i64 (Shw.showE F.kind (So.setOf L))]
 else wR (wF 0 F.aliases (So.setOf L))
theorem wV_form (F:Fil) (L:List Int):∃ s c,wV F L=.tuple #[.string s,.int .i64 c]:=by
 unfold wV
 split
 ·exact ⟨_,_,rfl⟩
 ·cases wF 0 F.aliases (So.setOf L) <;> exact ⟨_,_,rfl⟩
theorem wF_step {A:List (List Int)} {k:Nat} {a:List Int} (h:A[k]?=some a) (S:List Int):wF k (A.drop k) S=if a=S then some k else wF (k + 1) (A.drop (k + 1)) S:=by
 obtain ⟨hk,e⟩:=List.getElem?_eq_some_iff.1 h
 rw [List.drop_eq_getElem_cons hk,e];rfl
theorem seq_any {n B:Nat} {u v:Value} {S a:List Int} {W:World} (hu:So.FRow n W u S) (hv:FNx B W v a) (hS:S.length≤1099511627776) (ha:a.length≤1099511627776) :
  Calls Tryz.prog 47 #[u,v] W fun e w' => e=.returned (.bool (decide (S=a)))∧Below W.heap.size W w':=by
 rcases hv with ⟨rfl,rfl⟩ | hv
 ·obtain ⟨g,cap,rfl,_,_,_,hm,hH⟩:=hu.cells
  by_cases h0:S=[]
  ·subst h0
   rw [decide_eq_true rfl]
   clear hu hH ha hS
   rw [show ([]:List Int).length=0 from rfl]
   go_enter Tryz.func47,Tryz.ntmps47
   go_wp2
   go_loopw [13] (fun i wr => i=.int .i64 0∧wr=W) (fun _ _ => 0)
   case atStart => exact ⟨rfl,rfl⟩
   case round =>
    obtain ⟨rfl,rfl⟩:=hrel
    go_wp2
    go_ret
    exact ⟨rfl,Below.refl _ _⟩
  ·rw [decide_eq_false h0]
   have hl:¬ (S.length:Int)=0:=by
    intro e
    exact h0 (List.eq_nil_of_length_eq_zero (by omega))
   clear hu hH ha hS
   generalize S.length=m at *
   go_enter Tryz.func47,Tryz.ntmps47
   go_wp2
   go_ret
   exact ⟨rfl,Below.refl _ _⟩
 ·obtain ⟨g,cap,rfl,_,_,_,hm,hH⟩:=hu.cells
  obtain ⟨g2,cap2,rfl,_,_,_,hm2,hH2⟩:=hv.cells
  refine (Tryz.flag_Equal g 0 S.length cap g2 0 a.length cap2 S a W (Nat.le_refl _) (Nat.le_refl _) (by omega) (by omega) (So.holds_list hH) (So.holds_list hH2)).mono ?_
  rintro e w' ⟨rfl,q,rfl⟩
  rw [List.take_length,List.take_length,So.allEq_dec]
  exact ⟨rfl,So.drew_below W q _⟩
theorem write_any {B:Nat} {F:Fil} {P:Pts} {w:World} (h:FAt B w F P) (v:Value) (L:List Int) (hA:So.FArg w v L) (hb:∀ x ∈ L,0≤x∧x≤65535) (hn:L.length≤1048576) (hP:So.Pow w) :
  Calls Tryz.prog 21 #[.pointer (some ⟨P.fb,0,none⟩),v] w fun e w' => e=.returned (wV F L)∧Below w.heap.size w w':=by
 have HA:=hide (hasAli h)
 have HP:=hide hP
 by_cases ha:F.aliases=[]
 ·rw [decide_eq_false (by simp [ha])] at HA
  obtain ⟨d0,-,d10,-,-,-,dz⟩:=h.cells
  have HS:=hide (So.show_any F.kind v L w hA hb hn hP)
  have e1:wV F L=.tuple #[.string (Cut.mk (Shw.showT F.kind (So.setOf L))),.int .i64 (Shw.showE F.kind (So.setOf L))]:=by unfold wV;rw [if_pos ha]
  rw [e1]
  obtain ⟨ao,cap,rfl,-⟩:=hA
  clear hP hb hn h d10 ha e1
  generalize Cut.mk (Shw.showT F.kind (So.setOf L))=T at *
  generalize Shw.showE F.kind (So.setOf L)=C at *
  go_enter Tryz.func21,Tryz.ntmps21
  go_wp2_with (first | (go_at_call 40;refine (unhide HA).mono ?_;rintro e w2 ⟨rfl,rfl⟩) | (go_at_call 46;refine (unhide HS).mono ?_;rintro e w3 ⟨rfl,b3⟩;have HB3:=hide b3;clear b3))
  go_ret2
  exact ⟨rfl,unhide HB3⟩
 ·rw [decide_eq_true ha] at HA
  have hpos:0 < F.aliases.length:=List.length_pos_iff.2 ha
  have h1024:=h.ok.ali
  have HO:=hide (So.of_set v L w hA (by omega))
  have hSl:(So.setOf L).length≤1099511627776:=by have:=(So.setOf_set L).len;omega
  have HH:=hide h
  have e1:wV F L=wR (wF 0 F.aliases (So.setOf L)):=by unfold wV;rw [if_neg ha]
  have HE:=hide e1
  obtain ⟨ao,cap,rfl,-⟩:=hA
  clear hP hb hn h ha e1
  generalize hS:So.setOf L=S at *
  clear hS
  generalize hNl:F.aliases.length=N at *
  have HN:=hide hNl
  clear hNl
  generalize wV F L=R at *
  go_enter Tryz.func21,Tryz.ntmps21
  go_wp2_with fail
  refine (unhide HA).mono ?_
  rintro e w2 ⟨rfl,hw2⟩
  obtain rfl:=hw2.symm
  go_wp2_with fail
  refine (unhide HO).mono ?_
  rintro e w3 ⟨u,rfl,f3,b3⟩
  have hF3:=(unhide HH).below b3
  obtain ⟨d0,-,d10,-,-,-,dz⟩:=hF3.cells
  obtain ⟨g,cap2,e0,hgB,hg,hcap,hmx,-,hcl⟩:=own_at hF3.alis (by rw [unhide HN];exact hpos)
  rw [e0,unhide HN] at d10
  have HF3:=hide hF3
  have HU:=hide f3
  have HB3:=hide b3
  have HP3:=hide (Tab.pow10_below (unhide HP) b3)
  have HCL:=hide hcl
  obtain ⟨gu,cu,rfl,-⟩:=f3.cells
  clear hF3 f3 b3 hcl e0 hgB hcap hmx
  go_wp2
  go_loopw [31] (fun s31 wr => ∃ k:Nat,s31=.int .i64 (k:Int)∧k≤N∧Hid (wF 0 F.aliases S=wF k (F.aliases.drop k) S)∧Hid (Below w3.heap.size w3 wr)) (fun s31 _ => N - (intOf s31).toNat)
  case atStart => exact ⟨0,rfl,Nat.zero_le _,rfl,Below.refl _ _⟩
  case round =>
   obtain ⟨k,rfl,hk,HW,HB⟩:=hrel
   by_cases hlt:k < N
   ·have hltz:(k:Int) < (N:Int):=by omega
    obtain ⟨a,hka⟩:∃ a,F.aliases[k]?=some a:=⟨_,List.getElem?_eq_getElem (by rw [unhide HN];exact hlt)⟩
    obtain ⟨va,hkv⟩:∃ v,P.av[k]?=some v:=⟨_,List.getElem?_eq_getElem (by rw [(unhide HF3).aliF.1,unhide HN];exact hlt)⟩
    have hfn:=fnx_kept ((unhide HF3).aliF.2 _ _ _ hkv hka) (below_kept (unhide HB))
    have hcv:wr.cell? ⟨g,k,none⟩=some va:=((unhide HB).cell (p:=⟨g,k,none⟩) hg).trans (((unhide HCL) k (by rw [unhide HN];omega)).trans hkv)
    have hal:=((unhide HF3).ok.aliS a (List.mem_of_getElem? hka)).2
    have HEQ:=hide (seq_any ((unhide HU).below (unhide HB)) hfn hSl (by omega))
    have hst:=(unhide HW).trans (wF_step hka S)
    have HP4:=hide (Tab.pow10_below (unhide HP3) (unhide HB))
    obtain ⟨a1,c1,rfl,-⟩:=hfn.arg
    by_cases hq:S=a
    ·rw [decide_eq_true hq] at HEQ
     rw [if_pos hq.symm] at hst
     have hR:=unhide HE
     rw [hst] at hR
     have hR2:R=.tuple #[.string ⟨(Lib.itoa ((k:Int) + 1)).toArray⟩,.int .i64 0]:=hR
     clear hR
     subst hR2
     clear HE hfn hal hst hka hkv hq
     go_wp2_with fail
     refine (unhide HEQ).mono ?_
     rintro e w4 ⟨rfl,b4⟩
     have HB4:=hide b4
     have HD:=hide (Tab.decimal_any ((k:Int) + 1) (by omega) (by omega) w4 (Tab.pow10_below (unhide HP4) b4))
     clear b4
     go_wp2_with fail
     refine (unhide HD).mono ?_
     rintro e w5 ⟨rfl,b5⟩
     have HB5:=hide b5
     clear b5
     go_wp2_with fail
     go_ret2
     exact ⟨rfl,btr' (btr' (btr' (unhide HB3) (unhide HB)) (unhide HB4)) (unhide HB5)⟩
    ·rw [decide_eq_false hq] at HEQ
     rw [if_neg (fun e => hq e.symm)] at hst
     have HW2:=hide hst
     clear hfn hal hst hka hkv hq
     go_wp2_with fail
     refine (unhide HEQ).mono ?_
     rintro e w4 ⟨rfl,b4⟩
     have HB4:=hide ((unhide HB).trans (b4.mono (unhide HB).size))
     clear b4
     go_wp2_with fail
     go_roundw
     case rel => exact ⟨k + 1,by simp,by omega,HW2,HB4⟩
     case measure => simp only [intOf];omega
   ·have hltz:¬ (k:Int) < (N:Int):=by omega
    have hR:=unhide HE
    rw [unhide HW,List.drop_of_length_le (by rw [unhide HN];omega)] at hR
    have hR2:R=.tuple #[.string ⟨#[]⟩,.int .i64 31]:=hR
    clear hR HE HW
    subst hR2
    go_wp2
    go_ret2
    exact ⟨rfl,btr' (unhide HB3) (unhide HB)⟩
end Af
end Go.Proofs.YtmhegbeemgagkaaGreatDoor
