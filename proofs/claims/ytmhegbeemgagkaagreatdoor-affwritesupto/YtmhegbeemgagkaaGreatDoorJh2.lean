import Derived.Test.YtmhegbeemgagkaaGreatDoorJh1
namespace Go.Proofs.YtmhegbeemgagkaaGreatDoor
open Go.RowKit
namespace Af
open RowB

set_option maxRecDepth 100000 in
set_option maxHeartbeats 4000000 in
theorem write_doc {B n:Nat} {F:Fil} {P:DPts} {w:World} (h:DFAt B w F P) (v:Value) (L:List Int) (hI:So.IRow n w v L) (hb:∀ x ∈ L,0≤x∧x≤65535) (hsm:∀ a ∈ F.aliases,∀ x ∈ a,0≤x∧x≤65535) (hn:L.length≤1048576) :
  Calls Tryz.prog 22 #[ptr P.fb,v] w fun e w' => e=.returned (wV F L)∧Below w.heap.size w w':=by
 by_cases ha:F.aliases=[]
 ·obtain ⟨d0,-,-,-,-,d10,-,-,dz⟩:=h.cells
  obtain ⟨a0,c0,e0,-,-⟩:=own_len h.alis
  rw [e0,show F.aliases.length=0 by rw [ha];rfl] at d10
  have HS:=hide (So.refShow_any F.kind v L w hI hb hn)
  have e1:wV F L=.tuple #[.string (Cut.mk (Shw.showT F.kind (So.setOf L))),.int .i64 (Shw.showE F.kind (So.setOf L))]:=by unfold wV;rw [if_pos ha]
  rw [e1]
  obtain ⟨ao,cap,rfl,-⟩:=hI.form
  clear hb hn h ha e1 e0 hsm
  generalize Cut.mk (Shw.showT F.kind (So.setOf L))=T at *
  generalize Shw.showE F.kind (So.setOf L)=C at *
  generalize P.fb=fb at *
  go_enter Tryz.func22,Tryz.ntmps22
  go_wp2_with (go_at_call 49;refine (unhide HS).mono ?_;rintro e w3 ⟨rfl,b3⟩;have HB3:=hide b3;clear b3)
  go_ret2
  exact ⟨rfl,unhide HB3⟩
 ·have hpos:0 < F.aliases.length:=List.length_pos_iff.2 ha
  have h1024:=h.ok.ali
  have HH:=hide h
  have HI:=hide (hI.low (Nat.zero_le n))
  have e1:wV F L=wR (wF 0 F.aliases (So.setOf L)):=by unfold wV;rw [if_neg ha]
  have HE:=hide e1
  have HBD:=hide hb
  have HSM:=hide hsm
  have HLN:=hide hn
  obtain ⟨d0,-,-,-,-,d10,-,-,dz⟩:=h.cells
  obtain ⟨g,cap2,e0,hgB,hg,hcap,hmx,-,hcl⟩:=own_at h.alis hpos
  have hfl:=h.lt
  rw [e0] at d10
  have HCL:=hide hcl
  have HE0:=hide e0
  obtain ⟨ao,cap,rfl,-⟩:=hI.form
  clear hb hn h ha e1 e0 hsm hI hgB hcap hmx hcl
  generalize hNl:F.aliases.length=N at *
  have HN:=hide hNl
  clear hNl
  have hN0:((N:Int) == 0)=false:=by rw [beq_eq_false_iff_ne];omega
  generalize wV F L=R at *
  go_enter Tryz.func22,Tryz.ntmps22
  go_wp2
  go_loopw [6] (fun s6 wr => ∃ k:Nat,s6=.int .i64 (k:Int)∧k≤N∧Hid (wF 0 F.aliases (So.setOf L)=wF k (F.aliases.drop k) (So.setOf L))∧Hid (Below w.heap.size w wr)) (fun s6 _ => N - (intOf s6).toNat)
  case atStart => exact ⟨0,rfl,Nat.zero_le _,rfl,Below.refl _ _⟩
  case round =>
   obtain ⟨k,rfl,hk,HW,HB⟩:=hrel
   have hd:=((unhide HH).below (unhide HB)).cells.2.2.2.2.2.1
   rw [unhide HE0] at hd
   by_cases hlt:k < N
   ·have hltz:(k:Int) < (N:Int):=by omega
    obtain ⟨a,hka⟩:∃ a,F.aliases[k]?=some a:=⟨_,List.getElem?_eq_getElem (by rw [unhide HN];exact hlt)⟩
    obtain ⟨va,hkv⟩:∃ v,P.av[k]?=some v:=⟨_,List.getElem?_eq_getElem (by rw [(unhide HH).aliF.1,unhide HN];exact hlt)⟩
    have hfn:=irow_kept ((unhide HH).aliF.2 _ _ _ hkv hka) (below_kept (unhide HB))
    have hcv:wr.cell? ⟨g,k,none⟩=some va:=((unhide HB).cell (p:=⟨g,k,none⟩) hg).trans (((unhide HCL) k (by omega)).trans hkv)
    have hal:=(unhide HH).ok.aliS a (List.mem_of_getElem? hka)
    have HEQ:=hide (So.refEqual_any va _ a L wr hfn (irow_kept (unhide HI) (below_kept (unhide HB))) (fun x hx => (unhide HSM a (List.mem_of_getElem? hka) x hx).1) (fun x hx => (unhide HBD x hx).1) (by have:=hal.2;have:=unhide HLN;omega))
    rw [hal.1] at HEQ
    have hst:=(unhide HW).trans (wF_step hka (So.setOf L))
    obtain ⟨a1,c1,rfl,-⟩:=hfn.form
    by_cases hq:a=So.setOf L
    ·rw [decide_eq_true hq] at HEQ
     rw [if_pos hq] at hst
     have hR:=unhide HE
     rw [hst] at hR
     have hR2:R=.tuple #[.string ⟨(Lib.itoa ((k:Int) + 1)).toArray⟩,.int .i64 0]:=hR
     clear hR
     subst hR2
     clear HE hfn hal hst hka hkv hq
     go_wp2_with fail
     refine (unhide HEQ).mono ?_
     rintro e w4 ⟨rfl,b4⟩
     have HB4:=hide b4
     have HD:=hide (DecW.dec_any ((k:Int) + 1) (by omega) (by omega) w4)
     clear b4
     go_wp2_with fail
     refine (unhide HD).mono ?_
     rintro e w5 ⟨rfl,b5⟩
     have HB5:=hide b5
     clear b5
     go_wp2_with fail
     go_ret2
     exact ⟨rfl,btr' (btr' (unhide HB) (unhide HB4)) (unhide HB5)⟩
    ·rw [decide_eq_false hq] at HEQ
     rw [if_neg hq] at hst
     have HW2:=hide hst
     clear hfn hal hst hka hkv hq
     go_wp2_with fail
     refine (unhide HEQ).mono ?_
     rintro e w4 ⟨rfl,b4⟩
     have HB4:=hide ((unhide HB).trans (b4.mono (unhide HB).size))
     clear b4
     go_wp2_with fail
     exact ⟨⟨k + 1,by simp,by omega,HW2,HB4⟩,by simp only [intOf];omega⟩
   ·have hltz:¬ (k:Int) < (N:Int):=by omega
    have hR:=unhide HE
    rw [unhide HW,List.drop_of_length_le (by rw [unhide HN];omega)] at hR
    have hR2:R=.tuple #[.string ⟨#[]⟩,.int .i64 31]:=hR
    clear hR HE HW
    subst hR2
    go_wp2
    go_ret2
    exact ⟨rfl,unhide HB⟩
end Af
end Go.Proofs.YtmhegbeemgagkaaGreatDoor
