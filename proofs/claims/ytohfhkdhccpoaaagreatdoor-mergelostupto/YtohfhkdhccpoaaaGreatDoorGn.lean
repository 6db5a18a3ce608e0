/- Layer 8: the order of cursors in a union's heap, and what it rests upon. -/
import Derived.Sort.OwnSorted
import Derived.WalkSpells
import Derived.WalkLawsBesides
import Derived.BigQuiet
import Derived.Deep.DeepFit
import Derived.Sort.LoopGhostIn
import Derived.Laws.Cover1
import Derived.Laws.EntriesVeiled
import Derived.Lib.SliceRun
import Derived.Test.YtohfhkdhccpoaaaGreatDoorGk
import Derived.Test.YtohfhkdhccpoaaaGreatDoorGm
import Derived.Deep.QuietTactic
import Derived.Lib.Walk
namespace Go.Proofs.YtohfhkdhccpoaaaGreatDoor
open Go.RowKit Go.Shelf
namespace Sm
open Hpc (Cu Cx Les LessV)

def hd (x : Cu) : Tx := x.L.headD ByteArray.empty
def clt (a b : Cu) : Bool := lt (hd a) (hd b)
theorem clt_ord : Hp.Ord clt := ⟨fun a b h => lt_asym h, fun a b c h => by
  show lt (hd a) (hd c) = true ∨ lt (hd c) (hd b) = true
  cases k : lt (hd a) (hd c) with
  | true => exact .inl rfl
  | false => exact .inr (le_lt k h)⟩
/-- the cursors over rows in blocks R, as they lay in w₀ -/
structure Zc (R : Nat → Prop) (w₀ : World) (x : Cu) : Prop where
  ne : x.L ≠ []
  len : x.n = x.L.length
  cap : x.n ≤ x.c
  rs : Rs x.L
  row : ∃ g off, x.ao = some ⟨g, off, none⟩ ∧ R g ∧ ∀ (j : Nat) t, x.L[j]? = some t → w₀.cell? ⟨g, off + j, none⟩ = some (.string t)
def uC (R : Nat → Prop) (w₀ : World) (hR : ∀ b, R b → b < w₀.heap.size) : Cx where
  Z := Zc R w₀
  K := fun W => ∀ b, R b → W.heap[b]? = w₀.heap[b]?
  N := fun b => ¬ R b
  D := w₀.heap.size
  new := fun b hb h => by have := hR b h; omega
  keeps := fun W W' h _ hk b hb => by
    have h1 := h b hb
    have hlt : b < W.heap.size := lt_of_block h1 (hR b hb)
    exact (hk b hlt (fun q => q hb)).trans h1
theorem Zc.head {R : Nat → Prop} {w₀ : World} {x : Cu} (h : Zc R w₀ x) : x.L = hd x :: x.L.tail := by
  cases e : x.L with
  | nil => exact absurd e h.ne
  | cons a t => simp [hd, e]
theorem Zc.cell {R : Nat → Prop} {w₀ W : World} {x : Cu} (h : Zc R w₀ x) (hK : ∀ b, R b → W.heap[b]? = w₀.heap[b]?) : ∃ g off, x.ao = some ⟨g, off, none⟩ ∧ W.cell? ⟨g, off, none⟩ = some (.string (hd x)) := by
  obtain ⟨g, off, e, hg, hc⟩ := h.row
  refine ⟨g, off, e, ?_⟩
  have := hc 0 (hd x) (by rw [h.head]; rfl)
  rw [World.cell?_of_block (w := w₀) (hK g hg)]
  exact this
set_option maxRecDepth 100000 in
theorem les_ahead (R : Nat → Prop) (w₀ : World) (hR : ∀ b, R b → b < w₀.heap.size) : Les (uC R w₀ hR) 151 clt := by
  refine ⟨clt_ord, fun W => by kernel_rfl, fun x y W => by kernel_rfl, fun a b W za zb hK => ?_⟩
  have za' : Zc R w₀ a := za
  have zb' : Zc R w₀ b := zb
  have hK' : ∀ b, R b → W.heap[b]? = w₀.heap[b]? := hK
  obtain ⟨ga, oa, ea, ca⟩ := za'.cell hK'
  obtain ⟨gb, ob, eb, cb⟩ := zb'.cell hK'
  have na : 0 < a.n := by rw [za'.len]; exact List.length_pos_iff.2 za'.ne
  have nb : 0 < b.n := by rw [zb'.len]; exact List.length_pos_iff.2 zb'.ne
  rw [ea, eb]
  have e1 : Op.bytesLess (hd a).toList (hd b).toList = clt a b := rfl
  have naz : (0 : Int) < (a.n : Int) := by omega
  have nbz : (0 : Int) < (b.n : Int) := by omega
  generalize clt a b = r at *
  generalize hd a = x at *
  generalize hd b = y at *
  generalize a.n = n at *
  generalize b.n = m at *
  generalize a.c = c at *
  generalize b.c = d at *
  clear za zb za' zb' hK hK' ea eb
  go_enter Tryz.func151, Tryz.ntmps151
  go_wp2
  go_quiet (fail)
  go_wp2
  go_ret
  exact ⟨rfl, below_drewN _ _ _⟩
theorem lessV_ahead (R : Nat → Prop) (w₀ : World) (hR : ∀ b, R b → b < w₀.heap.size) : LessV (uC R w₀ hR) (.func (.func 151) #[] #[]) clt := ⟨_, rfl, les_ahead R w₀ hR⟩
/-- the first text cut off -/
def ctl (x : Cu) (ao : Option Addr) : Cu := ⟨ao, x.n - 1, x.c - 1, x.L.tail⟩
theorem Zc.cut {R : Nat → Prop} {w₀ : World} {x : Cu} (h : Zc R w₀ x) {g off : Nat} (e : x.ao = some ⟨g, off, none⟩) (h2 : 2 ≤ x.n) : Zc R w₀ (ctl x (some ⟨g, off + 1, none⟩)) := by
  obtain ⟨g', off', e', hg, hc⟩ := h.row
  rw [e] at e'
  injection e' with e'
  injection e' with e1 e2 e3
  subst e1 e2
  have hl := h.len
  have hh := h.head
  have hr := h.rs
  have hcp := h.cap
  refine ⟨?_, ?_, ?_, ?_, g, off + 1, rfl, hg, fun j t hj => ?_⟩
  · show x.L.tail ≠ []
    intro e
    rw [hh, e] at hl
    simp at hl
    omega
  · show x.n - 1 = x.L.tail.length
    simp; omega
  · show x.n - 1 ≤ x.c - 1
    omega
  · show Rs x.L.tail
    rw [hh] at hr
    exact (rs_cons.1 hr).2
  · have : x.L[j + 1]? = some t := by rw [hh]; exact hj
    rw [show off + 1 + j = off + (j + 1) by omega]
    exact hc _ _ this
end Sm
end Go.Proofs.YtohfhkdhccpoaaaGreatDoor
/- Layer 8: takeLeast: the least text that is left in a union's heap, cut off from all cursors that have it. -/
namespace Go.Proofs.YtohfhkdhccpoaaaGreatDoor
open Go.RowKit Go.Shelf
namespace Sm
open Hpc (Cu Cx Les LessV HAt Res)

def flat (I : List Cu) : List Tx := I.flatMap (·.L)
theorem flat_mem {I : List Cu} {x : Tx} : x ∈ flat I ↔ ∃ i ∈ I, x ∈ i.L := List.mem_flatMap
def tot (I : List Cu) : Nat := (I.map fun i => i.L.length).sum
theorem tot_perm {I J : List Cu} (h : I.Perm J) : tot I = tot J := (h.map _).sum_nat
theorem tot_cons (y : Cu) (J : List Cu) : tot (y :: J) = y.L.length + tot J := by simp [tot]
theorem tot_app (I J : List Cu) : tot (I ++ J) = tot I + tot J := by simp [tot]
theorem pop_facts {I J : List Cu} {y : Cu} (h : Hp.pop clt I = some (y, J)) : I.Perm (y :: J) ∧ ∀ z ∈ I, lt (hd z) (hd y) = false := by
  obtain ⟨k, ⟨h1, h2, h3⟩, rfl⟩ := Hp.pop_lst clt_ord h
  refine ⟨Hp.erase_perm h1, fun z hz => ?_⟩
  obtain ⟨j, hj⟩ := List.mem_iff_getElem?.1 hz
  rcases Nat.lt_trichotomy j k with e | e | e
  · exact lt_asym (h2 j z e hj)
  · subst e; rw [h1] at hj; injection hj with hj; rw [hj]; exact lt_irr _
  · exact h3 j z e hj
/-- what was taken up to now: copies of t alone -/
structure TL (R : Nat → Prop) (w₀ : World) (t : Tx) (I₀ I : List Cu) : Prop where
  zs : ∀ i ∈ I, Zc R w₀ i
  sub : ∀ x ∈ flat I, x ∈ flat I₀ ∧ lt x t = false
  sup : ∀ x ∈ flat I₀, x = t ∨ x ∈ flat I
  has : t ∈ flat I₀
theorem TL.start {R : Nat → Prop} {w₀ : World} {I J : List Cu} {y : Cu} (hz : ∀ i ∈ I, Zc R w₀ i) (h : Hp.pop clt I = some (y, J)) : TL R w₀ (hd y) I I := by
  obtain ⟨hp, hl⟩ := pop_facts h
  have hy : y ∈ I := hp.mem_iff.2 (by simp)
  refine ⟨hz, fun x hx => ⟨hx, ?_⟩, fun x hx => .inr hx, flat_mem.2 ⟨y, hy, by rw [(hz y hy).head]; simp⟩⟩
  obtain ⟨i, hi, hxi⟩ := flat_mem.1 hx
  have zi := hz i hi
  rw [zi.head] at hxi
  rcases List.mem_cons.1 hxi with e | e
  · rw [e]; exact hl i hi
  · have hr := zi.rs
    rw [zi.head] at hr
    have h1 := (rs_cons.1 hr).1 x e
    cases q : lt x (hd y) with
    | false => rfl
    | true => have := lt_tr h1 q; rw [hl i hi] at this; cases this
theorem TL.next {R : Nat → Prop} {w₀ : World} {t : Tx} {I₀ I J K : List Cu} {y : Cu} (h : TL R w₀ t I₀ I) (hp : Hp.pop clt I = some (y, J)) (hy : hd y = t) (hK : ∀ x, x ∈ flat K ↔ x ∈ y.L.tail) (zK : ∀ i ∈ K, Zc R w₀ i) : TL R w₀ t I₀ (J ++ K) := by
  obtain ⟨hpm, hl⟩ := pop_facts hp
  have hyI : y ∈ I := hpm.mem_iff.2 (by simp)
  have hJ : ∀ i ∈ J, i ∈ I := fun i hi => hpm.mem_iff.2 (List.mem_cons_of_mem _ hi)
  have hf : ∀ x, x ∈ flat (J ++ K) ↔ x ∈ flat J ∨ x ∈ flat K := fun x => by simp [flat]
  refine ⟨fun i hi => ?_, fun x hx => ?_, fun x hx => ?_, h.has⟩
  · rcases List.mem_append.1 hi with e | e
    · exact h.zs i (hJ i e)
    · exact zK i e
  · refine h.sub x ?_
    rcases (hf x).1 hx with e | e
    · obtain ⟨i, hi, hxi⟩ := flat_mem.1 e
      exact flat_mem.2 ⟨i, hJ i hi, hxi⟩
    · exact flat_mem.2 ⟨y, hyI, List.mem_of_mem_tail ((hK x).1 e)⟩
  · rcases h.sup x hx with e | e
    · exact .inl e
    · obtain ⟨i, hi, hxi⟩ := flat_mem.1 e
      rcases List.mem_cons.1 (hpm.mem_iff.1 hi) with q | q
      · subst q
        rw [(h.zs i hyI).head, hy] at hxi
        rcases List.mem_cons.1 hxi with q | q
        · exact .inl q
        · exact .inr ((hf x).2 (.inr ((hK x).2 q)))
      · exact .inr ((hf x).2 (.inl (flat_mem.2 ⟨i, q, hxi⟩)))
theorem TL.over {R : Nat → Prop} {w₀ : World} {t : Tx} {I₀ I : List Cu} (h : TL R w₀ t I₀ I) (hn : I = [] ∨ ∃ y J, Hp.pop clt I = some (y, J) ∧ hd y ≠ t) : ofS (flat I₀) = t :: ofS (flat I) := by
  have hne : ∀ x ∈ flat I, x ≠ t := fun x hx e => by
    subst e
    obtain ⟨i, hi, hxi⟩ := flat_mem.1 hx
    rcases hn with rfl | ⟨y, J, hp, hy⟩
    · cases hi
    · obtain ⟨hpm, hl⟩ := pop_facts hp
      have hyI : y ∈ I := hpm.mem_iff.2 (by simp)
      have zi := h.zs i hi
      have h1 : hd i = x := by
        have hh := zi.head
        rw [hh] at hxi
        rcases List.mem_cons.1 hxi with e | e
        · exact e.symm
        · have hr := zi.rs
          rw [hh] at hr
          have q1 := (rs_cons.1 hr).1 x e
          have q2 := (h.sub (hd i) (flat_mem.2 ⟨i, hi, by rw [hh]; simp⟩)).2
          rw [q1] at q2; cases q2
      have q3 := hl i hi
      rw [h1] at q3
      have q4 := (h.sub (hd y) (flat_mem.2 ⟨y, hyI, by rw [(h.zs y hyI).head]; simp⟩)).2
      exact hy (le_eq q4 q3)
  refine rs_ext (ofS_rs _) (rs_cons.2 ⟨fun x hx => ?_, ofS_rs _⟩) fun x => ?_
  · rw [ofS_mem] at hx
    rcases lt_tri t x with e | e | e
    · exact e
    · exact absurd e.symm (hne x hx)
    · rw [(h.sub x hx).2] at e; cases e
  · rw [ofS_mem, List.mem_cons, ofS_mem]
    constructor
    · exact h.sup x
    · rintro (e | e)
      · rw [e]; exact h.has
      · exact (h.sub x e).1
/-- what Peek tells -/
def Pk (I : List Cu) (v s : Value) : Prop := (I = [] ∧ v = .slice none 0 0 ∧ s = .bool false) ∨ ∃ y J, Hp.pop clt I = some (y, J) ∧ v = .slice y.ao y.n y.c ∧ s = .bool true
theorem peek_any {R : Nat → Prop} {w₀ w : World} {hR : ∀ b, R b → b < w₀.heap.size} {hb p : Nat} {I : List Cu} {F : Nat → Prop} (h : HAt (uC R w₀ hR) w hb (.func (.func 151) #[] #[]) clt I p F) :
    Calls Tryz.prog 154 #[.pointer (some ⟨hb, 0, none⟩)] w fun e w' => (∃ v s, e = .returned (.tuple #[v, s]) ∧ Pk I v s) ∧ w' = w := by
  rcases e : Hp.pop clt I with _ | ⟨y, J⟩
  · have hI := Hp.pop_none e
    subst hI
    obtain ⟨A, nv, hin, hbag, _⟩ := h
    have hA : A = [] := List.eq_nil_of_length_eq_zero (by rw [hbag.len]; rfl)
    subst hA
    refine (Hpc.peek_none hin).mono ?_
    rintro e w' ⟨rfl, rfl⟩
    exact ⟨⟨_, _, rfl, .inl ⟨rfl, rfl, rfl⟩⟩, rfl⟩
  · refine (HAt.top (lessV_ahead R w₀ hR) h e).mono ?_
    rintro e' w' ⟨rfl, rfl⟩
    exact ⟨⟨_, _, rfl, .inr ⟨y, J, e, rfl, rfl⟩⟩, rfl⟩
abbrev lessA : Value := .func (.func 151) #[] #[]
set_option maxRecDepth 100000 in
set_option maxHeartbeats 4000000 in
theorem take_least {R : Nat → Prop} {w₀ w : World} {hR : ∀ b, R b → b < w₀.heap.size} {hb p : Nat} {I₀ : List Cu} {F : Nat → Prop} (h : HAt (uC R w₀ hR) w hb lessA clt I₀ p F) (hz : ∀ i ∈ I₀, Zc R w₀ i) (hne : I₀ ≠ []) (hil : I₀.length ≤ 1048576) (hp : p + tot I₀ ≤ 4398046511104) :
    Calls Tryz.prog 134 #[.pointer (some ⟨hb, 0, none⟩)] w fun e w' => ∃ t I p', e = .returned (.string t) ∧ ofS (flat I₀) = t :: ofS (flat I) ∧ Res (uC R w₀ hR) F w hb lessA clt I p' w' ∧ (∀ i ∈ I, Zc R w₀ i) ∧ I.length ≤ 1048576 ∧ p' + tot I ≤ 4398046511104 := by
  have HPK := hide (peek_any h)
  have H0 := hide h
  have HZ := hide hz
  clear h hz
  go_enter Tryz.func134, Tryz.ntmps134
  go_wp2_with (go_at_call 154; refine (unhide HPK).mono ?_; rintro e w1 ⟨⟨v, s, rfl, hpk⟩, hw1⟩; have hw2 := hw1.symm; subst hw2; clear hw1; obtain ⟨hI, -, -⟩ | ⟨y, J, hpop, rfl, rfl⟩ := hpk; exact absurd hI hne; obtain ⟨gy, oy, ey, cy⟩ := (unhide HZ y ((pop_facts hpop).1.mem_iff.2 (by simp))).cell (unhide H0).kw; have ny : (0 : Int) < (y.n : Int) := by have q := unhide HZ y ((pop_facts hpop).1.mem_iff.2 (by simp)); have q2 := q.len; have q3 := List.length_pos_iff.2 q.ne; omega)
  have HT0 := hide (TL.start (unhide HZ) hpop)
  have HR0 := hide (Res.start (unhide H0))
  have HP0 : Hid (Pk I₀ (.slice (some ⟨gy, oy, none⟩) y.n y.c) (.bool true)) := .inr ⟨y, J, hpop, by rw [ey], rfl⟩
  clear HPK H0 HZ hne hpop cy ny ey
  generalize hd y = t at *
  go_loopg [3, 4] (tot I₀) (fun kk s3 s4 wr => ∃ (I : List Cu) (q : Nat), tot I ≤ kk ∧ Hid (Pk I s3 s4) ∧ Hid (Res (uC R w₀ hR) F w hb lessA clt I q wr) ∧ Hid (TL R w₀ t I₀ I) ∧ I.length ≤ 1048576 ∧ q + tot I ≤ 4398046511104)
  case atStart => exact ⟨I₀, p, Nat.le_refl _, HP0, HR0, HT0, hil, hp⟩
  case round =>
    obtain ⟨I, q, hk, HP, HRS, HT, hIl, hq⟩ := hrel
    rcases unhide HP with ⟨rfl, rfl, rfl⟩ | ⟨y1, J1, hpop1, rfl, rfl⟩
    · have HE := hide ((unhide HT).over (.inl rfl))
      clear HP
      go_wp2
      go_ret
      exact ⟨t, [], q, rfl, unhide HE, unhide HRS, (fun i hi => by cases hi), hIl, hq⟩
    · obtain ⟨hpm, hlst⟩ := pop_facts hpop1
      have zy := (unhide HT).zs y1 (hpm.mem_iff.2 (by simp))
      obtain ⟨g1, o1, e1, c1⟩ := zy.cell (unhide HRS).1.kw
      have hylen := zy.len
      have hycap := zy.cap
      have hyne := List.length_pos_iff.2 zy.ne
      have htt : tot I = y1.L.length + tot J1 := by rw [tot_perm hpm, tot_cons]
      have hJl : J1.length + 1 = I.length := by rw [hpm.length_eq]; simp
      obtain ⟨m, hm⟩ : ∃ m, y1.n = m + 1 := ⟨y1.n - 1, by omega⟩
      have hmz : m + 1 ≤ 4398046511104 := by omega
      cases heq : ((hd y1).toList == t.toList) with
      | false =>
        have HE := hide ((unhide HT).over (.inr ⟨y1, J1, hpop1, fun e => by have := tx_beq.2 e; rw [this] at heq; cases heq⟩))
        rw [e1, hm]
        have hZ := hide (unhide HT).zs
        clear HP hpm hlst zy e1 hm hyne htt hJl hylen hycap hpop1
        generalize hd y1 = x1 at *
        generalize y1.c = cc at *
        go_wp2
        go_ret
        exact ⟨t, I, q, rfl, unhide HE, unhide HRS, unhide hZ, hIl, hq⟩
      | true =>
        have hyt : hd y1 = t := tx_beq.1 heq
        have hyh : y1.L = t :: y1.L.tail := by rw [← hyt]; exact zy.head
        by_cases hm0 : m = 0
        · subst hm0
          have hnil : y1.L.tail = [] := by
            refine List.eq_nil_of_length_eq_zero ?_
            rw [List.length_tail]; omega
          have HN : Hid (TL R w₀ t I₀ J1) := by
            have := (unhide HT).next (K := []) hpop1 hyt (by rw [hnil]; simp [flat]) (by simp)
            rwa [List.append_nil] at this
          have HPO := hide (Hpc.pop_some (lessV_ahead R w₀ hR) (unhide HRS).1 (by omega) hpop1)
          rw [e1, hm]
          have hk1 : tot J1 + 1 ≤ tot I := by omega
          clear HP hpm hlst zy hm hyne htt hylen hycap hpop1 hyh hnil hyt HT
          rw [e1] at HPO
          generalize hd y1 = x1 at *
          generalize y1.c = cc at *
          go_wp2_with (first | (go_at_call 156; refine (unhide HPO).mono ?_; rintro e w3 ⟨rfl, hres3⟩; have H3 := hide ((unhide HRS).trans hres3); have HPK3 := hide (peek_any hres3.1); clear hres3) | (go_at_call 154; refine (unhide HPK3).mono ?_; rintro e w4 ⟨⟨v4, s4, rfl, hpk4⟩, hw4⟩; have hw5 := hw4.symm; subst hw5; clear hw4; have HP4 := hide hpk4; clear hpk4))
          go_roundg (tot J1)
          case rel => exact ⟨J1, q, Nat.le_refl _, HP4, H3, HN, by omega, by omega⟩
          case measure => omega
        · have hyc : y1.c = m + 1 + (y1.c - (m + 1)) := by omega
          have zx := zy.cut e1 (by omega)
          have HN := hide ((unhide HT).next (K := [ctl y1 (some ⟨g1, o1 + 1, none⟩)]) hpop1 hyt (fun x => by simp [flat, ctl]) (fun i hi => by simp at hi; subst hi; exact zx))
          have HRP := hide (Hpc.replace_some (lessV_ahead R w₀ hR) (unhide HRS).1 (by omega) (by omega) hpop1 (ctl y1 (some ⟨g1, o1 + 1, none⟩)) zx)
          have e2 : ctl y1 (some ⟨g1, o1 + 1, none⟩) = ⟨some ⟨g1, o1 + 1, none⟩, m, y1.c - 1, y1.L.tail⟩ := by unfold ctl; rw [hm]; rfl
          have hk1 : tot (J1 ++ [ctl y1 (some ⟨g1, o1 + 1, none⟩)]) + 1 = tot I := by
            rw [tot_app, htt]
            have : tot [ctl y1 (some ⟨g1, o1 + 1, none⟩)] = y1.L.tail.length := by simp [tot, ctl]
            rw [this]
            simp
            omega
          have hl1 : (J1 ++ [ctl y1 (some ⟨g1, o1 + 1, none⟩)]).length ≤ 1048576 := by simp; omega
          rw [e1, hm]
          rw [e1, hm] at HRP
          rw [e2] at HRP HN hk1 hl1
          have hcc : m + 1 ≤ y1.c := by omega
          have hcn : ¬ y1.c = 1 := by omega
          have hl2 : (1 : Int) ≤ (m : Int) + 1 := by omega
          have hl3 : (1 : Int) < (m : Int) + 1 := by omega
          clear HP hpm hlst zy hm hyne htt hylen hycap hpop1 hyh hyt HT zx e2 hyc e1
          generalize hd y1 = x1 at *
          generalize y1.c = cc at *
          generalize y1.L.tail = Lt at *
          generalize y1.ao = ay at *
          generalize y1.n = ny at *
          go_wp2_with (first | (go_at_call 155; refine (unhide HRP).mono ?_; rintro e w3 ⟨rfl, hres3⟩; have H3 := hide ((unhide HRS).trans hres3); have HPK3 := hide (peek_any hres3.1); clear hres3) | (go_at_call 154; refine (unhide HPK3).mono ?_; rintro e w4 ⟨⟨v4, s4, rfl, hpk4⟩, hw4⟩; have hw5 := hw4.symm; subst hw5; clear hw4; have HP4 := hide hpk4; clear hpk4))
          go_roundg (tot (J1 ++ [⟨some ⟨g1, o1 + 1, none⟩, m, cc - 1, Lt⟩]))
          case rel => exact ⟨_, q + 1, Nat.le_refl _, HP4, H3, HN, hl1, by omega⟩
          case measure => omega
end Sm
end Go.Proofs.YtohfhkdhccpoaaaGreatDoor
/- Layer 8: beginAll: a heap of a cursor for each part that gives something. -/
namespace Go.Proofs.YtohfhkdhccpoaaaGreatDoor
open Go.RowKit Go.Shelf
namespace Sm
open Hpc (Cu Cx Les LessV HAt HIn Res Its)

theorem Zc.rebase {R R' : Nat → Prop} {w₀ w₁ : World} {x : Cu} (h : Zc R w₀ x) (hR : ∀ b, R b → R' b) (hK : ∀ b, R b → w₁.heap[b]? = w₀.heap[b]?) : Zc R' w₁ x := by
  obtain ⟨h1, h2, h3, h4, g, off, e, hg, hc⟩ := h
  exact ⟨h1, h2, h3, h4, g, off, e, hR g hg, fun j t hj => (World.cell?_of_block (a := ⟨g, off + j, none⟩) (hK g hg)).trans (hc j t hj)⟩
theorem rebase {R R' : Nat → Prop} {w₀ w w₁ : World} {hR : ∀ b, R b → b < w₀.heap.size} {hR' : ∀ b, R' b → b < w₁.heap.size} {hb p : Nat} {fv : Value} {I : List Cu} {F : Nat → Prop} (h : HAt (uC R w₀ hR) w hb fv clt I p F) (hk : Below w.heap.size w w₁) (hs : ∀ b, R b → R' b) (hn : ∀ b, R' b → R b ∨ w.heap.size ≤ b) :
    HAt (uC R' w₁ hR') w₁ hb fv clt I p F := by
  obtain ⟨A, nv, hin, hbag, hsh⟩ := h
  have hkw : ∀ b, R b → w.heap[b]? = w₀.heap[b]? := hin.kw
  have hfn : ∀ b, F b → ¬ R b := hin.fn
  have hkp := hin.kept (w' := w₁) (fun b hb => hk.block b (hin.lt b hb)) (fun _ x => x) (fun b hb => Nat.lt_of_lt_of_le (hin.lt b hb) hk.size) (Cx.below _ hin.kw hk) hin.fn hk.size
  refine ⟨A, nv, ⟨hkp.lt, hkp.own, hkp.obj, hkp.row, hkp.rowF, fun x hx => ?_, fun _ _ => rfl, fun b hb hr => ?_, Nat.le_refl _⟩, hbag, hsh⟩
  · have : Zc R w₀ x.1 := hin.zz x hx
    exact this.rebase hs fun b hb => (hk.block b (lt_of_block (hkw b hb) (hR b hb))).trans (hkw b hb)
  · rcases hn b hr with e | e
    · exact hfn b hb e
    · have := hin.lt b hb; omega
/-- streams in a row -/
def PRow (w : World) (v : Value) (Ps : List (Value × List Tx)) (B : Nat) : Prop := ∃ ao cap, v = .slice ao Ps.length cap ∧ (0 < Ps.length → ∃ g off, ao = some ⟨g, off, none⟩ ∧ g < B ∧ ∀ (j : Nat) p, Ps[j]? = some p → w.cell? ⟨g, off + j, none⟩ = some p.1)
theorem PRow.below {w w' : World} {v : Value} {Ps : List (Value × List Tx)} {B : Nat} (h : PRow w v Ps B) (hb : Below B w w') : PRow w' v Ps B := by
  obtain ⟨ao, cap, e, h⟩ := h
  refine ⟨ao, cap, e, fun h0 => ?_⟩
  obtain ⟨g, off, e1, hg, hc⟩ := h h0
  exact ⟨g, off, e1, hg, fun j p hj => (hb.cell (p := ⟨g, off + j, none⟩) hg).trans (hc j p hj)⟩
/-- the parts that give something, as cursors -/
def some? (L : List Tx) : Bool := !L.isEmpty
structure BA (w : World) (hb : Nat) (Ls : List (List Tx)) (W : World) (R F : Nat → Prop) (hR : ∀ b, R b → b < W.heap.size) (I : List Cu) : Prop where
  at_ : HAt (uC R W hR) W hb lessA clt I I.length F
  zs : ∀ i ∈ I, Zc R W i
  ls : I.map (·.L) = Ls.filter some?
  rn : ∀ b, R b → w.heap.size ≤ b
  fn : ∀ b, F b → w.heap.size ≤ b
  bl : Below w.heap.size w W
theorem store_fn {P : Program} {sv : Value} {L : List Tx} {B : Nat} {w₀ : World} (h : Gives P sv L B w₀) (w : World) (t : TypeId) : Sem.run P (store ⟨w.heap.size, 0, none⟩ sv) (w.alloc (.cells #[.nilFunc] t)) = .ok () (w.alloc (.cells #[sv] t)) := by
  rcases h with ⟨rfl, rfl⟩ | ⟨gf, lb, rfl, _⟩
  · simp [go_sem]
  · simp [go_sem]
def Ba (w : World) (hb : Nat) (Ls : List (List Tx)) (W : World) : Prop := ∃ R F hR I, BA w hb Ls W R F hR I
def lsOf (Ps : List (Value × List Tx)) : List (List Tx) := Ps.map (·.2)
theorem ls_take (Ps : List (Value × List Tx)) (k : Nat) : (lsOf (Ps.take k)).length ≤ k := by
  simp only [lsOf, List.length_map, List.length_take]; omega
theorem Ba.skip {w W W1 : World} {hb : Nat} {Ls : List (List Tx)} (h : Ba w hb Ls W) (hk : Below W.heap.size W W1) : Ba w hb (Ls ++ [[]]) W1 := by
  obtain ⟨R, F, hR, I, h1, h2, h3, h4, h5, h6⟩ := h
  refine ⟨R, F, fun b hb => Nat.lt_of_lt_of_le (hR b hb) hk.size, I, rebase h1 hk (fun _ x => x) (fun _ x => .inl x), fun i hi => (h2 i hi).rebase (fun _ x => x) fun b hb => hk.block b (hR b hb), ?_, h4, h5, h6.trans (hk.mono h6.size)⟩
  rw [h3, List.filter_append]; simp [some?]
theorem Ba.row {w W W1 : World} {hb : Nat} {Ls : List (List Tx)} {L : List Tx} {a : Option Addr} {c : Nat} (h : Ba w hb Ls W) (hk : Below W.heap.size W W1) (ho : Own W1 (.slice a L.length c) L) (hg : ∀ g, (Value.slice a L.length c).ownBlock = some g → W.heap.size ≤ g) (hr : Rs L) (hne : L ≠ []) (ov : Obj) :
    ∃ R F hR I, BA w hb Ls (W1.alloc ov) R F hR I ∧ Zc R (W1.alloc ov) ⟨a, L.length, c, L⟩ ∧ I.length ≤ Ls.length ∧ ∀ b, F b → b < W1.heap.size := by
  obtain ⟨R, F, hR, I, h1, h2, h3, h4, h5, h6⟩ := h
  have hk2 : Below W.heap.size W (W1.alloc ov) := hk.trans ((Below.refl _ W1).alloc hk.size ov)
  have hs := h6.size
  obtain ⟨ao, c', e, hcc, hat⟩ := ho.crow
  obtain ⟨g, off, ea, hgo, hgl, hcell⟩ := hat (List.length_pos_iff.2 hne)
  injection e with e1 e2 e3
  subst e1 e3
  have hgw := hg g hgo
  refine ⟨fun b => R b ∨ b = g, F, ?_, I, ⟨rebase (w := W) h1 hk2 (fun _ x => .inl x) (fun b x => x.imp id fun e => by subst e; exact hgw), fun i hi => (h2 i hi).rebase (fun _ x => .inl x) fun b hb => hk2.block b (hR b hb), h3, ?_, h5, h6.trans (hk2.mono hs)⟩, ⟨hne, rfl, hcc, hr, g, off, ea, .inr rfl, fun j t hj => ?_⟩, ?_, fun b hb => ?_⟩
  · intro b hb
    have h7 := hk.size
    rw [World.size_alloc]
    rcases hb with e | e
    · have := hR b e; omega
    · omega
  · intro b hb
    rcases hb with e | e
    · exact h4 b e
    · omega
  · exact (World.cell?_of_block (a := ⟨g, off + j, none⟩) (Below.heap_alloc _ _ _ hgl)).trans (hcell j t hj)
  · have := congrArg List.length h3
    rw [List.length_map] at this
    rw [this]; exact List.length_filter_le _ _
  · exact Nat.lt_of_lt_of_le (h1.lt b hb) hk.size
theorem Ba.push {w W2 W3 : World} {hb : Nat} {Ls : List (List Tx)} {R F : Nat → Prop} {hR : ∀ b, R b → b < W2.heap.size} {I : List Cu} {x : Cu} (h : BA w hb Ls W2 R F hR I) (zx : Zc R W2 x) (k : Res (uC R W2 hR) F W2 hb lessA clt (I ++ [x]) (I.length + [x].length) W3) : Ba w hb (Ls ++ [x.L]) W3 := by
  obtain ⟨h1, h2, h3, h4, h5, h6⟩ := h
  obtain ⟨k1, k2⟩ := k
  have hkw : ∀ b, R b → W3.heap[b]? = W2.heap[b]? := k1.kw
  have hs := h6.size
  have hs2 := k2.size
  refine ⟨R, Hp.Up F W2 W3, fun b hb => Nat.lt_of_lt_of_le (hR b hb) hs2, I ++ [x], ?_, fun i hi => ?_, ?_, h4, fun b hb => ?_, ?_⟩
  · rw [List.length_append]
    exact rebase k1 (Below.refl _ _) (fun _ x => x) (fun _ x => .inl x)
  · rcases List.mem_append.1 hi with e | e
    · exact (h2 i e).rebase (fun _ x => x) hkw
    · simp at e; subst e; exact zx.rebase (fun _ x => x) hkw
  · rw [List.map_append, List.filter_append, h3]
    have : some? x.L = true := by
      have := zx.ne
      unfold some?
      cases e : x.L with
      | nil => exact absurd e this
      | cons _ _ => rfl
    simp [this]
  · rcases hb with e | e
    · exact h5 b e
    · omega
  · exact h6.trans ⟨k2.os, k2.tape, k2.output, k2.size, fun i hi => k2.block i (by omega) fun e => by have := h5 i e; omega⟩
set_option maxRecDepth 100000 in
set_option maxHeartbeats 4000000 in
theorem begin_all {w w₀ : World} {pv : Value} {Ps : List (Value × List Tx)} {B : Nat} (hp : PRow w pv Ps B) (hb : Below B w₀ w) (hB : B ≤ w.heap.size) (hg : ∀ p ∈ Ps, Gives Tryz.prog p.1 p.2 B w₀ ∧ Rs p.2 ∧ p.2.length ≤ 8796093022208) (hz : Ps.length ≤ 1048576) :
    Calls Tryz.prog 132 #[pv] w fun e w' => ∃ hb, e = .returned (.pointer (some ⟨hb, 0, none⟩)) ∧ Ba w hb (lsOf Ps) w' := by
  have HNE : Hid (Calls Tryz.prog 150 #[lessA, .slice none 0 0] w fun e w' => ∃ hb, e = .returned (.pointer (some ⟨hb, 0, none⟩)) ∧ Ba w hb [] w') := by
    refine (Hpc.new_any (lessV_ahead (fun _ => False) w (fun _ h => h.elim)) (X := []) ⟨none, 0, rfl, fun h => by simp at h⟩ (fun _ h => by cases h) (fun _ h => h.elim) (Nat.le_refl _) (by simp)).mono ?_
    rintro e w' ⟨rfl, h1, h2⟩
    refine ⟨_, rfl, fun _ => False, _, (fun _ h => False.elim h), [], rebase h1 (Below.refl _ _) (fun _ x => x) (fun _ x => .inl x), (fun _ h => by cases h), rfl, (fun _ h => h.elim), (fun b hb => hb.1), h2⟩
  have HP := hide hp
  have HB := hide hb
  have HG := hide hg
  obtain ⟨ao, cap, rfl, hat⟩ := hp
  clear hb hg hat
  go_enter Tryz.func132, Tryz.ntmps132
  go_wp2_with (go_at_call 150; refine (unhide HNE).mono ?_; rintro e w1 ⟨hb, rfl, hba⟩; have HBA := hide hba; clear hba)
  obtain ⟨n, hn⟩ : ∃ n, Ps.length = n := ⟨_, rfl⟩
  have HN := hide hn
  rw [hn] at hz HP ⊢
  clear hn
  go_loopw [10] (fun s10 wr => ∃ (k : Nat), s10 = .int .i64 k ∧ k ≤ n ∧ Hid (Ba w hb (lsOf (Ps.take k)) wr)) (fun s10 _ => n - (intOf s10).toNat)
  case atStart => exact ⟨0, rfl, Nat.zero_le _, HBA⟩
  case round =>
    obtain ⟨k, rfl, hk, HK⟩ := hrel
    by_cases hlt : k < n
    · have hltz : (k : Int) < (n : Int) := by omega
      have hk0 : 0 ≤ (k : Int) := by omega
      obtain ⟨⟨sv, L⟩, hx⟩ : ∃ x, Ps[k]? = some x := ⟨_, List.getElem?_eq_getElem (by rw [unhide HN]; exact hlt)⟩
      have hbl : Below w.heap.size w wr := by
        obtain ⟨_, _, _, _, q⟩ := unhide HK
        exact q.bl
      obtain ⟨ao', cap', e1, hat⟩ := (unhide HP).below (hbl.mono hB)
      obtain ⟨g, off, e2, hg, hc⟩ := hat (by rw [unhide HN]; omega)
      have e3 : ao = ao' := by injection e1
      clear e1
      subst e3
      subst e2
      have x0 := hc k _ hx
      have hgw : g < wr.heap.size := by have := hbl.size; omega
      obtain ⟨g1, g2, g3⟩ := unhide HG _ (List.mem_of_getElem? hx)
      have HRL := hide g2
      have HT : Hid (lsOf (Ps.take (k + 1)) = lsOf (Ps.take k) ++ [L]) := by
        rw [Hid, List.take_succ_eq_append_getElem (by rw [unhide HN]; exact hlt), (List.getElem?_eq_some_iff.1 hx).2, lsOf, List.map_append]
        rfl
      have HBG : Hid (∀ V, Below wr.heap.size wr V → Calls Tryz.prog 152 #[.agg #[sv]] V fun e w' => ∃ sl, e = .returned sl ∧ Own w' sl L ∧ (∀ g, sl.ownBlock = some g → V.heap.size + 1 ≤ g) ∧ Below V.heap.size V w') := fun V hV => begin_any g1 ((unhide HB).trans ((hbl.trans (hV.mono hbl.size)).mono hB)) (by have := hbl.size; have := hV.size; omega) g3
      have hst := store_fn g1 wr 136
      clear hat hc g1 g2 hbl hx
      have HBG2 := hide (unhide HBG _ ((Below.refl _ wr).alloc (Nat.le_refl _) (.cells #[sv] 136)))
      have HKS : Hid (∀ w2 a c, Own w2 (.slice a L.length c) L → Below (wr.heap.size + 1) (wr.alloc (.cells #[sv] 136)) w2 → Below wr.heap.size wr w2) := fun w2 a c _ h => ((Below.refl _ wr).alloc (Nat.le_refl _) (.cells #[sv] 136)).trans (h.mono (by omega))
      clear HBG
      rcases L with _ | ⟨z, L⟩
      · go_wp2_with (go_at_call 152; refine (unhide HBG2).mono ?_; rintro e w2 ⟨sl, rfl, ho, hn2, hb2⟩; obtain ⟨a2, c2, rfl⟩ := ho.slice; rw [World.size_alloc] at hb2; have HO := hide ((unhide HK).skip (unhide HKS w2 a2 c2 ho hb2)); clear ho hn2 hb2; simp only [List.length_nil])
        refine ⟨⟨k + 1, by simp, by omega, ?_⟩, ?_⟩
        · rw [unhide HT]; exact HO
        · show n - ((k : Int) + 1).toNat < n - (k : Int).toNat
          omega
      · have hl0 : (0 : Int) < ((L.length + 1 : Nat) : Int) := by omega
        go_wp2_with (first | (go_at_call 152; refine (unhide HBG2).mono ?_; rintro e w2 ⟨sl, rfl, ho, hn2, hb2⟩; obtain ⟨a2, c2, rfl⟩ := ho.slice; rw [World.size_alloc] at hb2 hn2; have hq := (unhide HK).row (unhide HKS w2 a2 c2 ho hb2) ho (fun g hg => by have := hn2 g hg; omega) (unhide HRL) (by simp) (.cells #[.slice a2 (z :: L).length c2] 200); clear ho hn2 hb2; obtain ⟨R, F, hR, I, b1, b2, b3, b4⟩ := hq; have HPU := hide (Hpc.push_any (lessV_ahead R _ hR) b1.at_ (v := .slice (some ⟨w2.heap.size, 0, none⟩) 1 1) (X := [⟨a2, (z :: L).length, c2, z :: L⟩]) ⟨_, _, rfl, fun _ => ⟨w2.heap.size, 0, rfl, by simp, fun h => by have := b4 _ h; omega, fun j x hj => by rcases j with _ | j; simp at hj; subst hj; exact World.cell?_alloc_at _ _ _ _ rfl; simp at hj⟩⟩ (fun x hx => by simp at hx; subst hx; exact b2) (by have := ls_take Ps k; show I.length + 1 ≤ _; omega) (by have := ls_take Ps k; show I.length + 1 ≤ _; omega)); have HB1 := hide (b1); have HB2 := hide b2; clear b1 b2 b3 b4; simp only [List.length_cons] at *) | (go_at_call 153; refine (unhide HPU).mono ?_; rintro e w4 ⟨rfl, hres⟩; have H4 := hide (Ba.push (unhide HB1) (unhide HB2) hres); clear hres))
        refine ⟨⟨k + 1, by simp, by omega, ?_⟩, ?_⟩
        · rw [unhide HT]; exact H4
        · show n - ((k : Int) + 1).toNat < n - (k : Int).toNat
          omega
    · go_wp2
      go_ret
      have : Ps.take k = Ps := List.take_of_length_le (by rw [unhide HN]; omega)
      rw [this] at HK
      exact ⟨hb, rfl, HK⟩
end Sm
end Go.Proofs.YtohfhkdhccpoaaaGreatDoor
/- Layer 8: Union: a walk through a heap of cursors. -/
namespace Go.Proofs.YtohfhkdhccpoaaaGreatDoor
open Go.RowKit Go.Shelf
namespace Sm
open Hpc (Cu Cx Les LessV HAt HIn Res Its)
attribute [local go_sem] Oper.semAt_some

theorem Ba.flat {w W : World} {hb : Nat} {Ls : List (List Tx)} {R F : Nat → Prop} {hR : ∀ b, R b → b < W.heap.size} {I : List Cu} (h : BA w hb Ls W R F hR I) : Sm.flat I = Ls.flatten := by
  have e : Sm.flat I = (I.map (·.L)).flatten := by unfold Sm.flat; rw [List.flatMap_def]
  rw [e, h.ls]
  exact List.flatten_filter_not_isEmpty
theorem tot_flat (I : List Cu) : tot I = (flat I).length := by simp [tot, flat, List.length_flatMap]
/-- in the midst of a union's walk: these were given, this is under way, these are left -/
structure US (W W₁ : World) (hb : Nat) (R : Nat → Prop) (hR : ∀ b, R b → b < W₁.heap.size) (U : List Tx) (J : Inv) (T₀ : Nat → Prop) (done pend : List Tx) (I : List Cu) (p : Nat) (F T : Nat → Prop) (V : World) : Prop where
  at_ : HAt (uC R W₁ hR) V hb lessA clt I p F
  zs : ∀ i ∈ I, Zc R W₁ i
  il : I.length ≤ 1048576
  pt : p + tot I ≤ 4398046511104
  eq : U = done ++ pend ++ ofS (flat I)
  inv : J done T V
  chg : Chg T₀ W V
  up : ∀ b, T b → Up T₀ W V b
  fw : ∀ b, F b → W.heap.size ≤ b
  df : ∀ b, T b → ¬ F b
  dr : ∀ b, T b → ¬ R b
theorem US.take {B : Nat} {W W₁ : World} {hb : Nat} {R : Nat → Prop} {hR : ∀ b, R b → b < W₁.heap.size} {U : List Tx} {J : Inv} {T₀ : Nat → Prop} {done : List Tx} {I I' : List Cu} {p p' : Nat} {F T : Nat → Prop} {V V' : World} {t : Tx} (fJ : Fit B J)
    (h : US W W₁ hb R hR U J T₀ done [] I p F T V) (e : ofS (flat I) = t :: ofS (flat I')) (hr : Res (uC R W₁ hR) F V hb lessA clt I' p' V') (hz : ∀ i ∈ I', Zc R W₁ i) (hi : I'.length ≤ 1048576) (hp : p' + tot I' ≤ 4398046511104) :
    US W W₁ hb R hR U J T₀ done [t] I' p' (Hp.Up F V V') T V' := by
  obtain ⟨k1, k2⟩ := hr
  have c : Chg F V V' := ⟨k2.os, k2.tape, k2.output, k2.size, k2.block⟩
  have s1 := h.chg.size
  have s2 := c.size
  refine ⟨k1, hz, hi, hp, ?_, fJ.abide h.inv (c.mono fun k hk q => h.df k q hk), ?_, fun b hb => ?_, fun b hb => ?_, fun b hb q => ?_, h.dr⟩
  · rw [h.eq, e]; simp
  · exact ⟨c.os.trans h.chg.os, c.tape.trans h.chg.tape, c.output.trans h.chg.output, Nat.le_trans s1 s2, fun i hi hn => (c.block i (by omega) fun q => by have := h.fw i q; omega).trans (h.chg.block i hi hn)⟩
  · rcases h.up b hb with q | q
    · exact .inl q
    · exact .inr ⟨q.1, by omega⟩
  · rcases hb with q | q
    · exact h.fw b q
    · omega
  · rcases q with q | q
    · exact h.df b hb q
    · have := (fJ.foot h.inv hb).2; omega
theorem US.yield {W W₁ : World} {hb : Nat} {R : Nat → Prop} {hR : ∀ b, R b → b < W₁.heap.size} {U : List Tx} {J Jx : Inv} {T₀ : Nat → Prop} {done : List Tx} {I : List Cu} {p : Nat} {F T : Nat → Prop} {V V' : World} {t : Tx} {e : Ending}
    (h : US W W₁ hb R hR U J T₀ done [t] I p F T V) (hp : RndPost J Jx (done ++ [t]) T V e V') :
    (e = .returned (.bool true) ∧ ∃ T', US W W₁ hb R hR U J T₀ (done ++ [t]) [] I p F T' V') ∨ (e = .returned (.bool false) ∧ Ended U J Jx T₀ W V') := by
  obtain ⟨T', c, u, hh⟩ := hp
  have c1 : Chg T₀ W V' := h.chg.on c h.up
  have u1 : ∀ b, T' b → Up T₀ W V' b := Up.on h.chg c h.up u
  have hkw : ∀ b, R b → V.heap[b]? = W₁.heap[b]? := h.at_.kw
  have hlt : ∀ b, R b → b < V.heap.size := fun b q => lt_of_block (hkw b q) (hR b q)
  rcases hh with ⟨rfl, hj⟩ | ⟨rfl, hj⟩
  · refine .inl ⟨rfl, T', ?_, h.zs, h.il, h.pt, by rw [h.eq]; simp, hj, c1, u1, h.fw, fun b hb q => ?_, fun b hb q => ?_⟩
    · refine h.at_.kept (fun b hb => c.block b (h.at_.lt b hb) fun q => h.df b q hb) (fun _ x => x) (fun b hb => Nat.lt_of_lt_of_le (h.at_.lt b hb) c.size) (fun b hb => ?_) h.at_.fn c.size
      exact (c.block b (hlt b hb) fun q => h.dr b q hb).trans (hkw b hb)
    · rcases u b hb with x | x
      · exact h.df b x q
      · have := h.at_.lt b q; omega
    · rcases u b hb with x | x
      · exact h.dr b x q
      · have := hlt b q; omega
  · exact .inr ⟨rfl, T', c1, u1, .inr ⟨done ++ [t], by rw [h.eq]; exact List.prefix_append _ _, hj⟩⟩
theorem US.over {W W₁ : World} {hb : Nat} {R : Nat → Prop} {hR : ∀ b, R b → b < W₁.heap.size} {U : List Tx} {J Jx : Inv} {T₀ : Nat → Prop} {done : List Tx} {p : Nat} {F T : Nat → Prop} {V : World} (h : US W W₁ hb R hR U J T₀ done [] [] p F T V) : Ended U J Jx T₀ W V :=
  ⟨T, h.chg, h.up, .inl (by have e := h.eq; have : ofS (flat []) = [] := List.eq_nil_iff_forall_not_mem.2 fun x hx => by { rw [ofS_mem] at hx; simp [flat] at hx }; rw [this] at e; simp at e; rw [e]; exact h.inv)⟩
set_option maxRecDepth 100000 in
set_option maxHeartbeats 4000000 in
theorem union1_walks {w₀ : World} {B bp : Nat} {pv : Value} {Ps : List (Value × List Tx)} (hp : PRow w₀ pv Ps B) (hbp : bp < B) (hbc : Boxed w₀ bp 169 pv) (hg : ∀ p ∈ Ps, Gives Tryz.prog p.1 p.2 B w₀ ∧ Rs p.2) (hz : Ps.length ≤ 1048576) (ht : (lsOf Ps).flatten.length ≤ 4398040000000) :
    WalksC Tryz.prog 131 #[.pointer (some ⟨bp, 0, none⟩)] (ofS (lsOf Ps).flatten) B 0 w₀ := by
  refine ⟨enters_of Tryz.func131 (by kernel_rfl) rfl, fun l J Jx W T₀ hW hs fJ fX hY h0 => ?_⟩
  have hT0 : ∀ b, T₀ b → 0 ≤ b ∧ b < W.heap.size := fun b hb => fJ.foot h0 hb
  have hcW : W.cell? ⟨bp, 0, none⟩ = some pv := (bx_below hbc hW hbp).cell
  have hlen : ∀ p ∈ Ps, p.2.length ≤ 8796093022208 := fun p hp => by
    have h1 : p.2.length ≤ (lsOf Ps).flatten.length := (List.sublist_flatten_of_mem (List.mem_map.2 ⟨p, hp, rfl⟩)).length_le
    omega
  have HBA : Hid (Calls Tryz.prog 132 #[pv] W fun e w' => ∃ hb, e = .returned (.pointer (some ⟨hb, 0, none⟩)) ∧ Ba W hb (lsOf Ps) w') := begin_all (hp.below hW) hW hs (fun p q => ⟨(hg p q).1, (hg p q).2, hlen p q⟩) hz
  obtain ⟨ao, cap, rfl, -⟩ := hp
  have HY := hide hY
  have FJ := hide fJ
  have FX := hide fX
  have H0 := hide h0
  clear hY fJ fX h0 hlen hbc hg
  refine (callsIn_wide (n := 8)).1 ?_
  refine callsIn_of_wp Tryz.func131 rfl trivial ?_ rfl
  simp only [Tryz.ntmps131, List.size_toArray, List.length_cons, List.length_nil, Nat.reduceAdd, Nat.reduceSub, Array.replicate_succ, Array.replicate_zero, List.push_toArray, List.append_toArray, List.nil_append, List.cons_append]
  gi_wp2_with (refine ⟨trivial, ?_⟩; gi_at_call 132; refine (callsIn_wide.2 (unhide HBA)).mono ?_; rintro e w1 ⟨hb, rfl, hba⟩; obtain ⟨R, F, hR, I, hba⟩ := hba; have HB := hide hba; clear hba)
  have HUS : Hid (∃ I p F T, US W w1 hb R hR (ofS (lsOf Ps).flatten) J T₀ [] [] I p F T w1 ∧ (ofS (flat I)).length ≤ (ofS (flat I)).length) := by
    obtain ⟨b1, b2, b3, b4, b5, b6⟩ := unhide HB
    have hI : I.length ≤ Ps.length := by
      have := congrArg List.length b3
      rw [List.length_map] at this
      rw [this]
      refine Nat.le_trans (List.length_filter_le _ _) ?_
      simp [lsOf]
    have hfl := Ba.flat (unhide HB)
    refine ⟨I, I.length, F, T₀, ⟨b1, b2, by omega, ?_, ?_, (unhide FJ).abide (unhide H0) (Chg.of_below b6), Chg.of_below b6, fun b q => .inl q, b5, fun b q r => ?_, fun b q r => ?_⟩, Nat.le_refl _⟩
    · rw [tot_flat, hfl]; omega
    · rw [hfl]; rfl
    · have := (hT0 b q).2; have := b5 b r; omega
    · have := (hT0 b q).2; have := b4 b r; omega
  clear HB HBA hcW hz ht I F
  gi_loopg [6] (ofS (lsOf Ps).flatten).length (fun kk s6 wr => Hid (∃ done I p F T, US W w1 hb R hR (ofS (lsOf Ps).flatten) J T₀ done [] I p F T wr ∧ (ofS (flat I)).length ≤ kk))
  case atStart =>
    obtain ⟨I, p, F, T, h, _⟩ := unhide HUS
    exact ⟨[], I, p, F, T, h, by have := congrArg List.length h.eq; simp at this; omega⟩
  case round =>
    obtain ⟨done, I, p, F, T, hu, hk⟩ := unhide hrel
    clear hrel HUS
    have HU := hide hu
    have hil := hu.il
    have HLN := hide (Hpc.len_any hu.at_)
    rcases I with _ | ⟨i, I⟩
    · clear hu
      gi_wp2_with (refine ⟨trivial, ?_⟩; gi_at_call 133; refine (callsIn_wide.2 (unhide HLN)).mono ?_; rintro e w2 ⟨rfl, hw1⟩; have hw2 := hw1.symm; subst hw2; clear hw1)
      go_end0
      exact ⟨⟨_, rfl⟩, US.over (unhide HU)⟩
    · have HTL := hide (take_least hu.at_ hu.zs (by simp) hu.il hu.pt)
      generalize hii : i :: I = I1 at *
      have hl0 : (0 : Int) < (I1.length : Int) := by rw [← hii]; simp
      clear hu hii
      gi_wp2_with (first | (refine ⟨trivial, ?_⟩; gi_at_call 133; refine (callsIn_wide.2 (unhide HLN)).mono ?_; rintro e w2 ⟨rfl, hw1⟩; have hw2 := hw1.symm; subst hw2; clear hw1) | (refine ⟨trivial, ?_⟩; gi_at_call 134; refine (callsIn_wide.2 (unhide HTL)).mono ?_; rintro e w3 ⟨t, I', p', rfl, ho, hres, hz', hi', hp'⟩; have hus := (unhide HU).take (unhide FJ) ho hres hz' hi' hp'; obtain ⟨fn, tmps, assign, body, hy, hRR⟩ := (unhide HY done t T w3 hus.inv (by rw [hus.eq]; exact List.prefix_append _ _) hus.chg).at 7; have HRR := hide hRR; have HUS := hide hus; have HLE := hide ho; clear ho hres hz' hi' hp' hus hRR))
      refine (unhide HRR).mono ?_
      rintro e W3 hp
      have hlen : (ofS (flat I')).length + 1 = (ofS (flat I1)).length := by rw [unhide HLE]; simp
      rcases US.yield (unhide HUS) hp with ⟨rfl, T', hu'⟩ | ⟨rfl, hE⟩
      · have HU' := hide hu'
        clear hp hu'
        gi_wp2
        gi_roundg (ofS (flat I')).length
        case rel => exact ⟨done ++ [t], I', p', _, T', unhide HU', Nat.le_refl _⟩
        case measure => omega
      · have HE := hide hE
        clear hp hE
        gi_wp2
        refine bodyPost_ret (results_none rfl _ _ _) rfl ?_
        exact ⟨⟨_, rfl⟩, unhide HE⟩
/-- streams in a row of its own -/
def PRow' (w : World) (v : Value) (Ps : List (Value × List Tx)) (B : Nat) : Prop := ∃ ao cap, v = .slice ao Ps.length cap ∧ (0 < Ps.length → ∃ g off, ao = some ⟨g, off, none⟩ ∧ B ≤ g ∧ g < w.heap.size ∧ ∀ (j : Nat) p, Ps[j]? = some p → w.cell? ⟨g, off + j, none⟩ = some p.1)
theorem infoSt : (Tryz.prog.info? 136).map (fun i => (i.zero, i.size, i.bytes)) = some (some (.agg #[.nilFunc]), 1, 8) := by kernel_rfl
set_option maxRecDepth 100000 in
set_option maxHeartbeats 4000000 in
theorem clone_st {w : World} {v : Value} {Ps : List (Value × List Tx)} {B : Nat} (hp : PRow w v Ps B) (h1 : ∀ p ∈ Ps, p.1.oneCell' = true) (hz : Ps.length ≤ 1048576) :
    Calls Tryz.prog 130 #[v] w fun e w' => ∃ v', e = .returned v' ∧ PRow' w' v' Ps w.heap.size ∧ Below w.heap.size w w' := by
  obtain ⟨ao, cap, rfl, hat⟩ := hp
  have q24 : ∀ (w : World) (a : Option Addr) (n c n' c' : Nat), (binOp .eql 169 (.slice a n c) (.slice none n' c')).run Tryz.prog w = .ok (.bool a.isNone) w := fun w a n c n' c' => Lib.run_eql_slice_nil w _ _ a n c n' c' Tryz.underlying169
  rcases ao with _ | ⟨b, off, nn⟩
  · have h0 : Ps = [] := by
      rcases Ps with _ | ⟨p, Ps⟩
      · rfl
      · obtain ⟨g, off, e, _⟩ := hat (by simp)
        cases e
    subst h0
    clear hat
    go_enter Tryz.func130, Tryz.ntmps130
    go_wp2
    go_ret
    exact ⟨_, rfl, ⟨none, 0, rfl, fun h => by simp at h⟩, Below.refl _ _⟩
  · obtain ⟨i0, hi, hz'⟩ := Option.map_eq_some_iff.1 infoSt
    simp only [Prod.mk.injEq] at hz'
    obtain ⟨hz0, hz1, hz2⟩ := hz'
    have u24 : ∀ w, Sem.run Tryz.prog (underlying 169) w = .ok (TypeDesc.slice 136) w := run_underlying Tryz.underlying169
    have HA := hide hat
    have H1 := hide h1
    clear hat h1
    go_enter Tryz.func130, Tryz.ntmps130
    go_wp2_with (at_builtin; refine wpList_append_own _ rfl _ _ 169 rfl w.heap.size 136 i0 (.agg #[.nilFunc]) 1 8 Tryz.underlying169 hi hz0 hz1 hz2 rfl (by decide) _ _ _ rfl (World.ownsRow_made w #[] 0 (Nat.le_refl _) (Nat.zero_le _) rfl) ⟨b, off, nn⟩ Ps.length cap (Ps.map (·.1)) rfl ?qc1 ?qc2 ?qc3 ?qc4 ?qc5 ?qc6 ?_)
    case qc1 => simp
    case qc2 =>
      intro j u hj
      have hjn := (List.getElem?_eq_some_iff.1 hj).1
      rw [List.length_map] at hjn
      obtain ⟨g, off', e, hg, hc⟩ := unhide HA (by omega)
      injection e with e
      injection e with e1 e2 e3
      subst e1 e2 e3
      rw [List.getElem?_map] at hj
      obtain ⟨p, hp, rfl⟩ := Option.map_eq_some_iff.1 hj
      rw [Addr.add_lit]
      exact Lib.cell?_alloc_some _ (hc j p hp)
    case qc3 => intro u hu; obtain ⟨x, hx, rfl⟩ := List.mem_map.1 hu; exact unhide H1 x hx
    case qc4 => unfold maxLen; omega
    case qc5 => omega
    case qc6 => simp
    intro v' w1 hown hgrow hnil
    have HO := hide (⟨hown, hgrow⟩ : _ ∧ _)
    clear hown hgrow hnil
    go_wp2
    go_ret
    obtain ⟨hown, hgrow⟩ := unhide HO
    have hb : Below w.heap.size w w1 := ((Below.refl _ w).alloc (Nat.le_refl _) _).grown hgrow (by simp) (by intro k hk; simp [Value.ownBlock] at hk; omega)
    refine ⟨v', rfl, ?_, hb⟩
    have hown : w1.ownsRow w.heap.size 136 1 v' Ps.length (Ps.map (·.1)) := by simpa using hown
    rcases hown.2 with ⟨e1, e2⟩ | ⟨g, cap', cur, e1, hr⟩
    · exact ⟨none, 0, by rw [e1, e2], fun h => by omega⟩
    · subst e1
      refine ⟨_, _, rfl, fun _ => ⟨g, 0, rfl, (own_lt hown (g := g) rfl).1, (own_lt hown (g := g) rfl).2, fun j p hj => ?_⟩⟩
      have hjl := (List.getElem?_eq_some_iff.1 hj).1
      rw [Nat.zero_add, World.ownsRow.cellAt hown j (by omega)]
      simp [hj]
theorem gives_one {P : Program} {v : Value} {L : List Tx} {B : Nat} {w : World} (h : Gives P v L B w) : v.oneCell' = true := by
  rcases h with ⟨rfl, _⟩ | ⟨_, _, rfl, _⟩ <;> rfl
set_option maxRecDepth 100000 in
set_option maxHeartbeats 4000000 in
theorem union_any {w w₀ : World} {v : Value} {Ps : List (Value × List Tx)} {B B' : Nat} (hp : PRow w v Ps B') (hB' : B' ≤ w.heap.size) (hg : ∀ p ∈ Ps, Gives Tryz.prog p.1 p.2 B w₀ ∧ Rs p.2) (hb : Below B w₀ w) (hB : B ≤ w.heap.size) (hz : Ps.length ≤ 1048576) (ht : (lsOf Ps).flatten.length ≤ 4398040000000) :
    Calls Tryz.prog 112 #[v] w fun e w' => ∃ gf lb, e = .returned (.agg #[.func (.func gf) #[] lb]) ∧ WalksC Tryz.prog gf lb (ofS (lsOf Ps).flatten) w'.heap.size 0 w' ∧ Below w.heap.size w w' := by
  have HC := hide (clone_st (hp.below (((Below.refl _ w).alloc (Nat.le_refl _) (.cells #[.nilFunc] 136)).mono hB')) (fun p q => gives_one (hg p q).1) hz)
  obtain ⟨ao, cap, rfl, -⟩ := hp
  have HG := hide hg
  have HB := hide hb
  clear hg hb
  go_enter Tryz.func112, Tryz.ntmps112
  go_wp2_with fail
  refine (unhide HC).mono ?_
  rintro e w1 ⟨v1, rfl, hp1, hb1⟩
  have HP := hide hp1
  obtain ⟨a1, c1, rfl, -⟩ := hp1
  rw [World.size_alloc] at hb1
  have b0 : Below w.heap.size w w1 := ((Below.refl _ w).alloc (Nat.le_refl _) (.cells #[.nilFunc] 136)).trans (hb1.mono (by omega))
  have bx0 : Boxed w1 w.heap.size 136 .nilFunc := (hb1.block _ (by omega)).trans (Boxed.new w _ _)
  have hs1 : w.heap.size + 1 ≤ w1.heap.size := by have := hb1.size; simpa using this
  have bx1 := bx0.alloc (.cells #[.slice a1 Ps.length c1] 169)
  have bp := Boxed.new w1 169 (.slice a1 Ps.length c1)
  have k3 := bx1.cell
  have k4 := bx1.frozen
  obtain ⟨W, hW⟩ : ∃ W, W = (w1.alloc (.cells #[.slice a1 Ps.length c1] 169)).setCell ⟨w.heap.size, 0, none⟩ (.func (.func 131) #[] #[.pointer (some ⟨w1.heap.size, 0, none⟩)]) := ⟨_, rfl⟩
  have q3 := bx1.set (.func (.func 131) #[] #[.pointer (some ⟨w1.heap.size, 0, none⟩)])
  have q4 := bp.other (B' := w.heap.size) (by omega) (.func (.func 131) #[] #[.pointer (some ⟨w1.heap.size, 0, none⟩)])
  rw [← hW] at q3 q4
  have hbel : Below w.heap.size w W := by
    rw [hW]
    exact (b0.alloc (by omega) _).setCell (p := ⟨w.heap.size, 0, none⟩) (Nat.le_refl _) _
  have sW : W.heap.size = w1.heap.size + 1 := by rw [hW]; simp [World.setCell]
  have hpW : PRow W (.slice a1 Ps.length c1) Ps W.heap.size := by
    obtain ⟨ao', cap', e, hat⟩ := unhide HP
    refine ⟨ao', cap', e, fun h0 => ?_⟩
    obtain ⟨g, off, e1, hgn', hg, hc⟩ := hat h0
    have hgn : g ≠ w.heap.size := by rw [World.size_alloc] at hgn'; omega
    refine ⟨g, off, e1, by omega, fun j p hj => ?_⟩
    rw [hW, World.cell?_of_block (w := w1) ((Below.heap_setCell _ _ _ _ (by show g ≠ w.heap.size; exact hgn)).trans (Below.heap_alloc _ _ _ hg))]
    exact hc j p hj
  have HF := hide (union1_walks hpW q4.lt q4 (fun p q => ⟨(unhide HG p q).1.later ((unhide HB).trans (hbel.mono hB)) (Nat.le_trans hB hbel.size), (unhide HG p q).2⟩) hz ht)
  have HQ := hide (⟨q3, hbel⟩ : _ ∧ _)
  clear HP b0 bx0 bx1 bp q3 q4 hbel sW hpW hb1
  go_wp2
  rw [← hW]
  refine bodyPost_ret (results_stream rfl (g := w.heap.size) rfl (unhide HQ).1) rfl ?_
  exact ⟨_, _, rfl, unhide HF, (unhide HQ).2⟩
end Sm
end Go.Proofs.YtohfhkdhccpoaaaGreatDoor
