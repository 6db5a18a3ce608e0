import Derived.Test.YtmhegbeemgagkaaGreatDoorJa3
set_option maxHeartbeats 8000000
set_option maxRecDepth 100000
namespace Go.Proofs.YtmhegbeemgagkaaGreatDoor
open Go.RowKit
namespace RfW
open Bts

theorem read_any (s:ByteArray) (w:World) (hs:s.size≤140737488355328) :
  Calls Tryz.prog 151 #[.string s] w fun e w' => e=.returned (RdW.ans (Wd.rd [] s.data.toList))∧Below w.heap.size w w':=by
 obtain ⟨i0,hi,hz0,hz1,hz2⟩:=info_parts info5
 go_enter Tryz.func151,Tryz.ntmps151
 go_wp2
 go_loopw [6,7] (fun v i wr => ∃ (k:Nat) (acc:List UInt8),k≤s.size∧i=.int .i64 k∧wr.ownsRow w.heap.size 5 1 v acc.length (Bts.bytes acc)∧Below w.heap.size w wr∧acc.length≤k∧Hid (Wd.rd acc (s.data.toList.drop k)=Wd.rd [] s.data.toList)) (fun _ i _ => s.size - (intOf i).toNat)
 case atStart => exact ⟨0,[],Nat.zero_le _,rfl,owns_made w,(Below.refl _ w).alloc (Nat.le_refl _) _,Nat.le_refl _,Wd.rd_start s⟩
 case round =>
  obtain ⟨k,acc,hk,rfl,hown,hB,hal,HR⟩:=hrel
  by_cases hlt:k < s.size
  ·by_cases h47:s[k].toNat=47
   ·have HA:Hid (RdW.ans (Wd.rd [] s.data.toList)=.tuple #[.string (Wd.str acc),.string (s.extract (k + 1) s.size),.bool true,.int .i64 0]):=by rw [Hid,← unhide HR,Wd.rd_cut s acc k hlt h47,Wd.extract_end];rfl
    have hq:((s[k].toNat:Int) == 47)=true:=by rw [beq_iff_eq];omega
    have hk1:(k:Int) + 1≤(s.size:Int):=by omega
    have hwr:IntKind.i64.wrap ((k:Int) + 1)=(k:Int) + 1:=RdW.wrap_small (by omega) (by omega)
    have hown1:wr.drew.ownsRow w.heap.size 5 1 _ acc.length (Bts.bytes acc):=hown
    have hcv:=conv_owns hown1
    clear h47 HR hown hown1
    go_wp2
    go_region
    all_goals
     go_wp2
     (try simp only [Exit.inBlock,Exit.then])
     refine bodyPost_ret (RdW.results_tmp4 rfl _ _ _) rfl ?_
     refine ⟨?_,hB.drew⟩
     rw [unhide HA]
     rfl
   ·by_cases h92:s[k].toNat=92
    ·have hq:((s[k].toNat:Int) == 47)=false:=by rw [beq_eq_false_iff_ne];omega
     have hq2:((s[k].toNat:Int) == 92)=true:=by rw [beq_iff_eq];omega
     by_cases h1:k + 1 < s.size
     ·cases he:Wd.esc s[k + 1] with
      | true =>
       have HS:=hide (Wd.rd_esc s acc k hlt h92 h1 he)
       have hne:((s.size:Int)≤((k:Int) + 1))=False:=by simp;omega
       have hcs:((s[k + 1].toNat:Int) != 92)=false∨(((s[k + 1].toNat:Int) != 92)=true∧((s[k + 1].toNat:Int) != 47)=false)∨(((s[k + 1].toNat:Int) != 92)=true∧((s[k + 1].toNat:Int) != 47)=true∧((s[k + 1].toNat:Int) != 35)=false):=by
        rcases Wd.esc_cases he with h | h | h
        ·left;rw [h];rfl
        ·right;left;rw [h];exact ⟨rfl,rfl⟩
        ·right;right;rw [h];exact ⟨rfl,rfl,rfl⟩
       clear h47 h92 he hne
       rcases hcs with e1 | ⟨e1,e2⟩ | ⟨e1,e2,e3⟩
       all_goals
        go_wp2_with (at_builtin;refine wpList_append_own _ rfl _ _ 134 rfl w.heap.size 5 i0 (.int .u8 0) 1 1 Tryz.underlying134 hi hz0 hz1 hz2 rfl (by decide) _ _ _ rfl (hown.alloc _) ⟨wr.heap.size,0,none⟩ 1 1 [.int .u8 ((s[k + 1].toNat:Int))] rfl rfl (cell_one_new _ _ _) (fun x hx => by simp at hx;subst hx;rfl) (by unfold maxLen;omega) (by omega) (by have:=hB.size;simp;omega) ?_;intro v' w1 hown' hgrow hnil;clear hnil)
        have HB1:=hide (below_push hown hB hgrow)
        have HO1:=hide (owns_push (c:=s[k + 1]) rfl hown')
        clear hown hB hgrow hown'
        go_wp2
        go_roundw
        case rel => exact ⟨k + 2,acc ++ [s[k + 1]],by omega,by go_num,unhide HO1,unhide HB1,by simp;omega,by rw [← unhide HS];exact HR⟩
        case measure => simp [intOf];omega
      | false =>
       have HA:Hid (RdW.ans (Wd.rd [] s.data.toList)=.tuple #[.string ⟨#[]⟩,.string ⟨#[]⟩,.bool false,.int .i64 20]):=by rw [Hid,← unhide HR,Wd.rd_bad s acc k hlt h92 h1 he];rfl
       obtain ⟨f1,f2,f3⟩:=Wd.esc_none he
       have e1:((s[k + 1].toNat:Int) != 92)=true:=by rw [bne_iff_ne];omega
       have e2:((s[k + 1].toNat:Int) != 47)=true:=by rw [bne_iff_ne];omega
       have e3:((s[k + 1].toNat:Int) != 35)=true:=by rw [bne_iff_ne];omega
       clear h47 h92 he HR f1 f2 f3
       go_wp2
       (try simp only [Exit.inBlock,Exit.then])
       refine bodyPost_ret (RdW.results_tmp4 rfl _ _ _) rfl ?_
       exact ⟨by rw [unhide HA];rfl,hB⟩
     ·have HA:Hid (RdW.ans (Wd.rd [] s.data.toList)=.tuple #[.string ⟨#[]⟩,.string ⟨#[]⟩,.bool false,.int .i64 20]):=by rw [Hid,← unhide HR,Wd.rd_last s acc k hlt h92 (by omega)];rfl
      clear h47 h92 HR
      go_wp2
      (try simp only [Exit.inBlock,Exit.then])
      refine bodyPost_ret (RdW.results_tmp4 rfl _ _ _) rfl ?_
      exact ⟨by rw [unhide HA];rfl,hB⟩
    ·have HS:=hide (Wd.rd_plain s acc k hlt h47 h92)
     have hq:((s[k].toNat:Int) == 47)=false:=by rw [beq_eq_false_iff_ne];omega
     have hq2:((s[k].toNat:Int) == 92)=false:=by rw [beq_eq_false_iff_ne];omega
     clear h47 h92
     go_wp2_with (at_builtin;refine wpList_append_own _ rfl _ _ 134 rfl w.heap.size 5 i0 (.int .u8 0) 1 1 Tryz.underlying134 hi hz0 hz1 hz2 rfl (by decide) _ _ _ rfl (hown.alloc _) ⟨wr.heap.size,0,none⟩ 1 1 [.int .u8 ((s[k].toNat:Int))] rfl rfl (cell_one_new _ _ _) (fun x hx => by simp at hx;subst hx;rfl) (by unfold maxLen;omega) (by omega) (by have:=hB.size;simp;omega) ?_;intro v' w1 hown' hgrow hnil;clear hnil)
     have HB1:=hide (below_push hown hB hgrow)
     have HO1:=hide (owns_push (c:=s[k]) rfl hown')
     clear hown hB hgrow hown'
     go_wp2
     go_roundw
     case rel => exact ⟨k + 1,acc ++ [s[k]],by omega,by go_num,unhide HO1,unhide HB1,by simp;omega,by rw [← unhide HS];exact HR⟩
     case measure => simp [intOf];omega
  ·have HA:Hid (RdW.ans (Wd.rd [] s.data.toList)=.tuple #[.string (Wd.str acc),.string ⟨#[]⟩,.bool false,.int .i64 0]):=by rw [Hid,← unhide HR,Wd.rd_end s acc k (by omega)];rfl
   have hcv:=conv_owns hown
   clear HR hown
   go_wp2
   (try simp only [Exit.inBlock,Exit.then])
   refine bodyPost_ret (RdW.results_tmp4 rfl _ _ _) rfl ?_
   exact ⟨by rw [unhide HA];rfl,hB⟩

end RfW
namespace Af
open RowB
theorem str_toList (l:Bs):(Fld.str l).data.toList=l:=by simp [Fld.str]
def fitN (a:Bs):Nat:=if VlW.okB a=true then (if 32 < a.length then 22 else 0) else 21
theorem fit_ck (l:Nat) (a:Bs):ckA l a=if fitN a=0 then .ok () else .error (l,fitN a):=by
 unfold ckA fitN
 split
 ·split
  ·rfl
  ·rfl
 ·rfl
theorem fit_doc (s:ByteArray) (w:World) (hs:s.size≤maxLen):Calls Tryz.prog 152 #[.string s] w fun e w' => e=.returned (.int .i64 (fitN s.data.toList:Nat))∧w'=w:=by
 have HB:=hide (VlW.bytes_any s w hs)
 have hz:s.data.toList.length=s.size:=by simp
 unfold fitN
 by_cases h0:s.size=0
 ·have ho:VlW.okB s.data.toList=false:=LtR.okB_empty h0
  have h1:((s.size:Int) == 0)=true:=by rw [beq_iff_eq];omega
  rw [ho,if_neg (by decide)]
  generalize s.data.toList.all Wd.fit=r at *
  clear ho hz
  go_enter Tryz.func152,Tryz.ntmps152
  go_wp2_with (go_at_call 63;refine (unhide HB).mono ?_;rintro e w2 ⟨rfl,rfl⟩)
  go_ret
  exact ⟨rfl,rfl⟩
 ·have h1:((s.size:Int) == 0)=false:=by rw [beq_eq_false_iff_ne];omega
  cases ha:s.data.toList.all Wd.fit with
  | false =>
   have ho:VlW.okB s.data.toList=false:=VlW.okB_bad ha
   rw [ho,if_neg (by decide)]
   rw [ha] at HB
   clear ho hz ha h0
   go_enter Tryz.func152,Tryz.ntmps152
   go_wp2_with (go_at_call 63;refine (unhide HB).mono ?_;rintro e w2 ⟨rfl,rfl⟩)
   go_ret
   exact ⟨rfl,rfl⟩
  | true =>
   have ho:VlW.okB s.data.toList=true:=by
    rw [VlW.okB_all ha,Lib.toList_data]
    cases hq:s.data.toList with
    | nil => rw [hq] at hz;simp at hz;omega
    | cons _ _ => rfl
   rw [ho,if_pos rfl,hz]
   rw [ha] at HB
   clear ho ha h0
   by_cases h32:32 < s.size
   ·have h3:(32:Int) < (s.size:Int):=by omega
    rw [if_pos h32]
    clear hz
    go_enter Tryz.func152,Tryz.ntmps152
    go_wp2_with (go_at_call 63;refine (unhide HB).mono ?_;rintro e w2 ⟨rfl,rfl⟩)
    go_ret
    exact ⟨rfl,rfl⟩
   ·have h3:¬ (32:Int) < (s.size:Int):=by omega
    rw [if_neg h32]
    clear hz
    go_enter Tryz.func152,Tryz.ntmps152
    go_wp2_with (go_at_call 63;refine (unhide HB).mono ?_;rintro e w2 ⟨rfl,rfl⟩)
    go_ret
    exact ⟨rfl,rfl⟩
def pcN (b:Bool) (f:Bs):Bs × Nat:=if b=true∧f=[48] then ([],0) else match Wd.rd [] f with
 | none => ([],20)
 | some (a,_,c) => if c=true then ([],114) else (a,fitN a)
theorem pc_eq (l:Nat) (b:Bool) (f:Bs):(if b=true then piece0 l f else piece l f)=if (pcN b f).2=0 then .ok (pcN b f).1 else .error (l,(pcN b f).2):=by
 have key:piece l f=match Wd.rd [] f with
   | none => .error (l,20)
   | some (a,_,c) => if c=true then .error (l,114) else if fitN a=0 then .ok a else .error (l,fitN a):=by
  unfold piece
  rcases Wd.rd [] f with _ | ⟨a,r,c⟩
  ·rfl
  ·simp only [fit_ck]
   split
   ·rfl
   ·by_cases h:fitN a=0 <;> simp [h]
 unfold pcN piece0
 rw [key]
 cases b with
 | false =>
  rcases Wd.rd [] f with _ | ⟨a,r,c⟩
  ·simp
  ·cases c <;> simp
 | true =>
  by_cases h:f=[48]
  ·simp [h]
  ·rcases Wd.rd [] f with _ | ⟨a,r,c⟩
   ·simp [h]
   ·cases c <;> simp [h]
theorem piece_doc (s:ByteArray) (b:Bool) (w:World) (hs:s.size≤65536):Calls Tryz.prog 120 #[.string s,.bool b] w fun e w' => e=.returned (.tuple #[.string (Wd.str (pcN b s.data.toList).1),.int .i64 ((pcN b s.data.toList).2:Nat)])∧Below w.heap.size w w':=by
 have HR:=RfW.read_any s w (by omega)
 unfold pcN
 by_cases h48:b=true∧s.data.toList=[48]
 ·rw [if_pos h48]
  obtain ⟨rfl,h⟩:=h48
  have heq:=lst_t h
  clear h HR
  go_enter Tryz.func120,Tryz.ntmps120
  go_wp2
  go_ret2
  exact ⟨rfl,Below.refl _ _⟩
 rw [if_neg h48]
 have hb:b=false∨(b=true∧(s.toList == [48])=false):=by
  cases b with
  | false => exact .inl rfl
  | true => exact .inr ⟨rfl,lst_f fun e => h48 ⟨rfl,e⟩⟩
 clear h48
 rcases hr:Wd.rd [] s.data.toList with _ | ⟨a,r,c⟩
 ·rw [hr] at HR
  unfold RdW.ans at HR
  have HR:=hide HR
  clear hr
  rcases hb with rfl | ⟨rfl,heq⟩
  ·go_enter Tryz.func120,Tryz.ntmps120
   go_wp2_with (go_at_call 151;refine (unhide HR).mono ?_;rintro e w2 ⟨rfl,b2⟩)
   go_ret2
   exact ⟨rfl,b2⟩
  ·go_enter Tryz.func120,Tryz.ntmps120
   go_wp2_with (go_at_call 151;refine (unhide HR).mono ?_;rintro e w2 ⟨rfl,b2⟩)
   go_ret2
   exact ⟨rfl,b2⟩
 ·rw [hr] at HR
  unfold RdW.ans at HR
  have hz:=rd_len0 hr
  clear hr
  cases c with
  | true =>
   have HRR:=hide HR
   clear HR hz
   show Calls _ _ _ _ fun e w' => e=.returned (.tuple #[.string (Wd.str []),.int .i64 (114:Nat)])∧Below w.heap.size w w'
   rcases hb with rfl | ⟨rfl,heq⟩
   ·go_enter Tryz.func120,Tryz.ntmps120
    go_wp2_with (go_at_call 151;refine (unhide HRR).mono ?_;rintro e w2 ⟨rfl,b2⟩)
    go_ret2
    exact ⟨rfl,b2⟩
   ·go_enter Tryz.func120,Tryz.ntmps120
    go_wp2_with (go_at_call 151;refine (unhide HRR).mono ?_;rintro e w2 ⟨rfl,b2⟩)
    go_ret2
    exact ⟨rfl,b2⟩
  | false =>
   have HF:=hide (fun W => fit_doc (Wd.str a) W (by unfold maxLen;omega))
   rw [Wd.str_list] at HF
   have HRR:=hide HR
   clear HR hz
   show Calls _ _ _ _ fun e w' => e=.returned (.tuple #[.string (Wd.str a),.int .i64 (fitN a:Nat)])∧Below w.heap.size w w'
   generalize fitN a=fa at *
   rcases hb with rfl | ⟨rfl,heq⟩
   ·go_enter Tryz.func120,Tryz.ntmps120
    go_wp2_with (first | (go_at_call 151;refine (unhide HRR).mono ?_;rintro e w2 ⟨rfl,b2⟩) | (go_at_call 152;refine (unhide HF _).mono ?_;rintro e w3 ⟨rfl,rfl⟩))
    go_ret2
    exact ⟨rfl,b2⟩
   ·go_enter Tryz.func120,Tryz.ntmps120
    go_wp2_with (first | (go_at_call 151;refine (unhide HRR).mono ?_;rintro e w2 ⟨rfl,b2⟩) | (go_at_call 152;refine (unhide HF _).mono ?_;rintro e w3 ⟨rfl,rfl⟩))
    go_ret2
    exact ⟨rfl,b2⟩
theorem five_get {L:List Int} (h:L.length=5) {k:Nat} (hk:k < 5):L[k]?=some (L.getD k 0):=by
 rw [List.getElem?_eq_getElem (by omega),List.getD_eq_getElem?_getD,List.getElem?_eq_getElem (by omega)]
 rfl
theorem defined_doc {B:Nat} {w:World} {F:Fil} {P:DPts} (h:DFAt B w F P) (x:Int) :
  Calls Tryz.prog 96 #[ptr P.fb,.int .i64 x] w fun e w' => e=.returned (.bool (decide (x ∈ F.specials) || (findC F.classes x).isSome))∧Below w.heap.size w w':=by
 have HF:Hid (∀ w1,Below w.heap.size w w1→Calls Tryz.prog 16 #[ptr P.fb,.int .i64 x] w1 fun e w' => e=.returned (.tuple #[fndV F.classes x,.bool (findC F.classes x).isSome])∧Below w1.heap.size w1 w'):=fun w1 b => find_doc (h.below b) x
 have HS:Hid (∀ w1,Below w.heap.size w w1→∀ k,k < 5→w1.cell? ⟨P.fb,3 + k,none⟩=some (.int .i64 (F.specials.getD k 0))):=fun w1 b k hk => (h.below b).spec k hk
 have HG:=hide (fun k (hk:k < 5) => five_get h.ok.spec hk)
 have hlt:=h.lt
 have HL:=hide h.ok.spec
 clear h
 generalize P.fb=fb at *
 generalize F.specials=L at *
 generalize hfn:fndV F.classes x=fv at *
 generalize (findC F.classes x).isSome=fo at *
 obtain ⟨a1,a2,a3,a4,a5,rfl⟩:∃ f k:Int,∃ b:Bool,∃ i n:Int,fv=.agg #[.int .i64 f,.int .i64 k,.bool b,.int .i64 i,.int .i64 n]:=by
  rw [← hfn]
  exact fndV_form _ _
 clear hfn
 go_enter Tryz.func96,Tryz.ntmps96
 go_wp2
 go_loopw [5] (fun i wr => ∃ k:Nat,i=.int .i64 k∧k≤5∧Hid (Below w.heap.size w wr)∧Hid (∀ y ∈ L.take k,¬ y=x)) (fun i _ => 5 - (intOf i).toNat)
 case atStart => exact ⟨0,rfl,Nat.zero_le _,Below.refl _ _,hide (fun y hy => by simp at hy)⟩
 case round =>
  obtain ⟨k,rfl,hk,HB,HT⟩:=hrel
  by_cases hkn:k < 5
  ·have hki:(k:Int) < 5:=by omega
   have hk0:¬ (k:Int) < 0:=by omega
   have hc:=unhide HS _ (unhide HB) k hkn
   have hx:=unhide HG k hkn
   generalize L.getD k 0=z at *
   by_cases he:z=x
   ·have heq:(z == x)=true:=by rw [beq_iff_eq];exact he
    have hD:Hid (x ∈ L):=by rw [Hid,← he];exact List.mem_of_getElem? hx
    clear hx
    go_wp2
    go_ret
    rw [decide_eq_true (unhide hD)]
    exact ⟨rfl,unhide HB⟩
   ·have heq:(z == x)=false:=by rw [beq_eq_false_iff_ne];exact he
    have HT2:=hide (take_none (unhide HT) hx he)
    clear hx
    go_wp2
    go_roundw
    case rel => exact ⟨k + 1,by go_num,by omega,HB,HT2⟩
    case measure => simp [intOf];omega
  ·obtain rfl:k=5:=by omega
   have hD:Hid (x ∉ L):=by
    intro q
    refine unhide HT x ?_ rfl
    rw [List.take_of_length_le (by rw [unhide HL];exact Nat.le_refl _)]
    exact q
   go_wp2_with (go_at_call 16;refine (unhide HF _ (unhide HB)).mono ?_;rintro e w2 ⟨rfl,b2⟩;have HB2:=hide b2;clear b2)
   go_ret
   rw [decide_eq_false (unhide hD),Bool.false_or]
   have hb:Below w.heap.size w w2:=(unhide HB).trans ((unhide HB2).mono (unhide HB).size)
   have hsz:=hb.size
   refine ⟨rfl,Below.trans hb ?_⟩
   refine Below.mono (B:=w2.heap.size) ?_ hsz
   (repeat (first | exact Below.refl _ _ | refine Below.drew ?_ | refine Below.alloc ?_ (by first | (simp; done) | (simp; omega)) _ | refine Below.setCell ?_ (by first | (simp; done) | (simp; omega)) _))
def frN (F:Fil) (s:Bs):Int × Int :=
 if One.oneE F.kind s≠0 then (0,One.oneE F.kind s)
 else if (decide (One.oneF F.kind s ∈ F.specials) || (findC F.classes (One.oneF F.kind s)).isSome)=true then (0,115)
 else (One.oneF F.kind s,0)
theorem fr_eq (R:Rdr) (s:Bs):newFlag R s=if (frN R.file s).2=0 then .ok (frN R.file s).1 else .error (R.line,(frN R.file s).2.toNat):=by
 unfold newFlag frN
 by_cases h1:One.oneE R.file.kind s≠0
 ·rw [if_pos h1,if_pos h1]
  simp [h1]
 ·rw [if_neg h1,if_neg h1]
  by_cases h2:One.oneF R.file.kind s ∈ R.file.specials
  ·simp [h2]
  ·cases h3:(findC R.file.classes (One.oneF R.file.kind s)).isSome <;> simp [h2]
theorem fr_pos (F:Fil) (s:Bs):0≤(frN F s).2:=by
 unfold frN
 have:=oneE_pos F.kind s
 repeat' split
 all_goals simp only
 all_goals omega
theorem fresh_doc {B rb:Nat} {w:World} {R:Rdr} {P:DPts} {v:Value} {A:List (Nat × List Bs)} (h:DAt B w rb R P v A) (s:ByteArray) (hs:s.size≤maxLen) :
  Calls Tryz.prog 61 #[ptr rb,.string s] w fun e w' => e=.returned (.tuple #[.int .i64 (frN R.file s.data.toList).1,.int .i64 (frN R.file s.data.toList).2])∧Below w.heap.size w w':=by
 obtain ⟨d0,-⟩:=h.cells
 obtain ⟨k0,-⟩:=h.file.cells
 have HO:=hide (fun W => One.refOne_any R.file.kind s W hs)
 have HD:Hid (∀ w1,Below w.heap.size w w1→Calls Tryz.prog 96 #[ptr P.fb,.int .i64 (One.oneF R.file.kind s.data.toList)] w1 fun e w' => e=.returned (.bool (decide (One.oneF R.file.kind s.data.toList ∈ R.file.specials) || (findC R.file.classes (One.oneF R.file.kind s.data.toList)).isSome))∧Below w1.heap.size w1 w'):=fun w1 b => defined_doc (h.file.below b) _
 have HC:Hid (∀ w1,Below w.heap.size w w1→w1.cell? ⟨rb,0,none⟩=some (.pointer (some ⟨P.fb,0,none⟩))∧w1.cell? ⟨P.fb,0,none⟩=some (.int .i64 R.file.kind)):=fun w1 b => ⟨(h.below b).cells.1,(h.below b).file.cells.1⟩
 unfold frN
 clear h
 generalize One.oneF R.file.kind s.data.toList=x at *
 generalize hE:One.oneE R.file.kind s.data.toList=ec at *
 generalize (decide (x ∈ R.file.specials) || (findC R.file.classes x).isSome)=t at *
 generalize R.file.kind=kd at *
 generalize P.fb=fb at *
 clear hE
 by_cases h0:ec=0
 ·subst h0
  rw [if_neg (fun q => q rfl)]
  cases t with
  | true =>
   rw [if_pos rfl]
   go_enter Tryz.func61,Tryz.ntmps61
   go_wp2_with (first | (go_at_call 95;refine (unhide HO _).mono ?_;rintro e w2 ⟨rfl,q,rfl⟩;have HB2:=hide (So.drew_low w q);obtain ⟨d0,k0⟩:=unhide HC _ (unhide HB2)) | (go_at_call 96;refine (unhide HD _ (unhide HB2)).mono ?_;rintro e w3 ⟨rfl,b3⟩;have HB3:=hide b3;clear b3))
   go_ret2
   exact ⟨rfl,btr (unhide HB2) (unhide HB3)⟩
  | false =>
   rw [if_neg (by decide)]
   go_enter Tryz.func61,Tryz.ntmps61
   go_wp2_with (first | (go_at_call 95;refine (unhide HO _).mono ?_;rintro e w2 ⟨rfl,q,rfl⟩;have HB2:=hide (So.drew_low w q);obtain ⟨d0,k0⟩:=unhide HC _ (unhide HB2)) | (go_at_call 96;refine (unhide HD _ (unhide HB2)).mono ?_;rintro e w3 ⟨rfl,b3⟩;have HB3:=hide b3;clear b3))
   go_ret2
   exact ⟨rfl,btr (unhide HB2) (unhide HB3)⟩
 ·rw [if_pos h0]
  have h1:(ec == 0)=false:=by rw [beq_eq_false_iff_ne];exact h0
  go_enter Tryz.func61,Tryz.ntmps61
  go_wp2_with (go_at_call 95;refine (unhide HO _).mono ?_;rintro e w2 ⟨rfl,q,rfl⟩;have HB2:=hide (So.drew_low w q))
  go_ret2
  exact ⟨rfl,unhide HB2⟩
end Af
end Go.Proofs.YtmhegbeemgagkaaGreatDoor
