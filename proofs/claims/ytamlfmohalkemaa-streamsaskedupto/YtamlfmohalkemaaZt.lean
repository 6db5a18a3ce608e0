/- Layer 8: takeLeast: the least text that is left in a union's heap, cut off from all cursors that have it. -/
import Derived.Test.YtamlfmohalkemaaZs
namespace Go.Proofs.Ytamlfmohalkemaa
open Go.RowKit Go.Shelf
namespace Sm
open Hpc (Cu Cx Les LessV HAt Res)

def flat (I : List Cu) : List Tx := I.flatMap (·.L)
theorem flat_mem {I : List Cu} {x : Tx} : x ∈ flat I ↔ ∃ i ∈ I, x ∈ i.L := List.mem_flatMap
def tot (I : List Cu) : Nat := (I.map fun i => i.L.length).sum
theorem tot_perm {I J : List Cu} (h : I.Perm J) : tot I = tot J := (h.map _).sum_nat
theorem tot_cons (y : Cu) (J : List Cu) : tot (y :: J) = y.L.length + tot J := by simp [tot]
theorem tot_app (I J : List Cu) : tot (I ++ J) = tot I + tot J := by simp [tot]
theorem pop_facts {I J : List Cu} {y : Cu} (h : Hp.pop clt I = some (y, J)) : I.Perm (y :: J) ∧ ∀ z ∈ I, lt (hd z) (hd y) = false := by
  obtain ⟨k, ⟨h1, h2, h3⟩, rfl⟩ := Hp.pop_lst clt_ord h
  refine ⟨Hp.erase_perm h1, fun z hz => ?_⟩
  obtain ⟨j, hj⟩ := List.mem_iff_getElem?.1 hz
  rcases Nat.lt_trichotomy j k with e | e | e
  · exact lt_asym (h2 j z e hj)
  · subst e; rw [h1] at hj; injection hj with hj; rw [hj]; exact lt_irr _
  · exact h3 j z e hj
/-- what was taken up to now: copies of t alone -/
structure TL (R : Nat → Prop) (w₀ : World) (t : Tx) (I₀ I : List Cu) : Prop where
  zs : ∀ i ∈ I, Zc R w₀ i
  sub : ∀ x ∈ flat I, x ∈ flat I₀ ∧ lt x t = false
  sup : ∀ x ∈ flat I₀, x = t ∨ x ∈ flat I
  has : t ∈ flat I₀
theorem TL.start {R : Nat → Prop} {w₀ : World} {I J : List Cu} {y : Cu} (hz : ∀ i ∈ I, Zc R w₀ i) (h : Hp.pop clt I = some (y, J)) : TL R w₀ (hd y) I I := by
  obtain ⟨hp, hl⟩ := pop_facts h
  have hy : y ∈ I := hp.mem_iff.2 (by simp)
  refine ⟨hz, fun x hx => ⟨hx, ?_⟩, fun x hx => .inr hx, flat_mem.2 ⟨y, hy, by rw [(hz y hy).head]; simp⟩⟩
  obtain ⟨i, hi, hxi⟩ := flat_mem.1 hx
  have zi := hz i hi
  rw [zi.head] at hxi
  rcases List.mem_cons.1 hxi with e | e
  · rw [e]; exact hl i hi
  · have hr := zi.rs
    rw [zi.head] at hr
    have h1 := (rs_cons.1 hr).1 x e
    cases q : lt x (hd y) with
    | false => rfl
    | true => have := lt_tr h1 q; rw [hl i hi] at this; cases this
theorem TL.next {R : Nat → Prop} {w₀ : World} {t : Tx} {I₀ I J K : List Cu} {y : Cu} (h : TL R w₀ t I₀ I) (hp : Hp.pop clt I = some (y, J)) (hy : hd y = t) (hK : ∀ x, x ∈ flat K ↔ x ∈ y.L.tail) (zK : ∀ i ∈ K, Zc R w₀ i) : TL R w₀ t I₀ (J ++ K) := by
  obtain ⟨hpm, hl⟩ := pop_facts hp
  have hyI : y ∈ I := hpm.mem_iff.2 (by simp)
  have hJ : ∀ i ∈ J, i ∈ I := fun i hi => hpm.mem_iff.2 (List.mem_cons_of_mem _ hi)
  have hf : ∀ x, x ∈ flat (J ++ K) ↔ x ∈ flat J ∨ x ∈ flat K := fun x => by simp [flat]
  refine ⟨fun i hi => ?_, fun x hx => ?_, fun x hx => ?_, h.has⟩
  · rcases List.mem_append.1 hi with e | e
    · exact h.zs i (hJ i e)
    · exact zK i e
  · refine h.sub x ?_
    rcases (hf x).1 hx with e | e
    · obtain ⟨i, hi, hxi⟩ := flat_mem.1 e
      exact flat_mem.2 ⟨i, hJ i hi, hxi⟩
    · exact flat_mem.2 ⟨y, hyI, List.mem_of_mem_tail ((hK x).1 e)⟩
  · rcases h.sup x hx with e | e
    · exact .inl e
    · obtain ⟨i, hi, hxi⟩ := flat_mem.1 e
      rcases List.mem_cons.1 (hpm.mem_iff.1 hi) with q | q
      · subst q
        rw [(h.zs i hyI).head, hy] at hxi
        rcases List.mem_cons.1 hxi with q | q
        · exact .inl q
        · exact .inr ((hf x).2 (.inr ((hK x).2 q)))
      · exact .inr ((hf x).2 (.inl (flat_mem.2 ⟨i, q, hxi⟩)))
theorem TL.over {R : Nat → Prop} {w₀ : World} {t : Tx} {I₀ I : List Cu} (h : TL R w₀ t I₀ I) (hn : I = [] ∨ ∃ y J, Hp.pop clt I = some (y, J) ∧ hd y ≠ t) : ofS (flat I₀) = t :: ofS (flat I) := by
  have hne : ∀ x ∈ flat I, x ≠ t := fun x hx e => by
    subst e
    obtain ⟨i, hi, hxi⟩ := flat_mem.1 hx
    rcases hn with rfl | ⟨y, J, hp, hy⟩
    · cases hi
    · obtain ⟨hpm, hl⟩ := pop_facts hp
      have hyI : y ∈ I := hpm.mem_iff.2 (by simp)
      have zi := h.zs i hi
      have h1 : hd i = x := by
        have hh := zi.head
        rw [hh] at hxi
        rcases List.mem_cons.1 hxi with e | e
        · exact e.symm
        · have hr := zi.rs
          rw [hh] at hr
          have q1 := (rs_cons.1 hr).1 x e
          have q2 := (h.sub (hd i) (flat_mem.2 ⟨i, hi, by rw [hh]; simp⟩)).2
          rw [q1] at q2; cases q2
      have q3 := hl i hi
      rw [h1] at q3
      have q4 := (h.sub (hd y) (flat_mem.2 ⟨y, hyI, by rw [(h.zs y hyI).head]; simp⟩)).2
      exact hy (le_eq q4 q3)
  refine rs_ext (ofS_rs _) (rs_cons.2 ⟨fun x hx => ?_, ofS_rs _⟩) fun x => ?_
  · rw [ofS_mem] at hx
    rcases lt_tri t x with e | e | e
    · exact e
    · exact absurd e.symm (hne x hx)
    · rw [(h.sub x hx).2] at e; cases e
  · rw [ofS_mem, List.mem_cons, ofS_mem]
    constructor
    · exact h.sup x
    · rintro (e | e)
      · rw [e]; exact h.has
      · exact (h.sub x e).1
/-- what Peek tells -/
def Pk (I : List Cu) (v s : Value) : Prop := (I = [] ∧ v = .slice none 0 0 ∧ s = .bool false) ∨ ∃ y J, Hp.pop clt I = some (y, J) ∧ v = .slice y.ao y.n y.c ∧ s = .bool true
theorem peek_any {R : Nat → Prop} {w₀ w : World} {hR : ∀ b, R b → b < w₀.heap.size} {hb p : Nat} {I : List Cu} {F : Nat → Prop} (h : HAt (uC R w₀ hR) w hb (.func (.func 41) #[] #[]) clt I p F) :
    Calls Try.prog 44 #[.pointer (some ⟨hb, 0, none⟩)] w fun e w' => (∃ v s, e = .returned (.tuple #[v, s]) ∧ Pk I v s) ∧ w' = w := by
  rcases e : Hp.pop clt I with _ | ⟨y, J⟩
  · have hI := Hp.pop_none e
    subst hI
    obtain ⟨A, nv, hin, hbag, _⟩ := h
    have hA : A = [] := List.eq_nil_of_length_eq_zero (by rw [hbag.len]; rfl)
    subst hA
    refine (Hpc.peek_none hin).mono ?_
    rintro e w' ⟨rfl, rfl⟩
    exact ⟨⟨_, _, rfl, .inl ⟨rfl, rfl, rfl⟩⟩, rfl⟩
  · refine (HAt.top (lessV_ahead R w₀ hR) h e).mono ?_
    rintro e' w' ⟨rfl, rfl⟩
    exact ⟨⟨_, _, rfl, .inr ⟨y, J, e, rfl, rfl⟩⟩, rfl⟩
abbrev lessA : Value := .func (.func 41) #[] #[]
set_option maxRecDepth 100000 in
set_option maxHeartbeats 4000000 in
theorem take_least {R : Nat → Prop} {w₀ w : World} {hR : ∀ b, R b → b < w₀.heap.size} {hb p : Nat} {I₀ : List Cu} {F : Nat → Prop} (h : HAt (uC R w₀ hR) w hb lessA clt I₀ p F) (hz : ∀ i ∈ I₀, Zc R w₀ i) (hne : I₀ ≠ []) (hil : I₀.length ≤ 1048576) (hp : p + tot I₀ ≤ 4398046511104) :
    Calls Try.prog 33 #[.pointer (some ⟨hb, 0, none⟩)] w fun e w' => ∃ t I p', e = .returned (.string t) ∧ ofS (flat I₀) = t :: ofS (flat I) ∧ Res (uC R w₀ hR) F w hb lessA clt I p' w' ∧ (∀ i ∈ I, Zc R w₀ i) ∧ I.length ≤ 1048576 ∧ p' + tot I ≤ 4398046511104 := by
  have HPK := hide (peek_any h)
  have H0 := hide h
  have HZ := hide hz
  clear h hz
  go_enter Try.func33, Try.ntmps33
  go_wp2_with (go_at_call 44; refine (unhide HPK).mono ?_; rintro e w1 ⟨⟨v, s, rfl, hpk⟩, hw1⟩; have hw2 := hw1.symm; subst hw2; clear hw1; obtain ⟨hI, -, -⟩ | ⟨y, J, hpop, rfl, rfl⟩ := hpk; exact absurd hI hne; obtain ⟨gy, oy, ey, cy⟩ := (unhide HZ y ((pop_facts hpop).1.mem_iff.2 (by simp))).cell (unhide H0).kw; have ny : (0 : Int) < (y.n : Int) := by have q := unhide HZ y ((pop_facts hpop).1.mem_iff.2 (by simp)); have q2 := q.len; have q3 := List.length_pos_iff.2 q.ne; omega)
  have HT0 := hide (TL.start (unhide HZ) hpop)
  have HR0 := hide (Res.start (unhide H0))
  have HP0 : Hid (Pk I₀ (.slice (some ⟨gy, oy, none⟩) y.n y.c) (.bool true)) := .inr ⟨y, J, hpop, by rw [ey], rfl⟩
  clear HPK H0 HZ hne hpop cy ny ey
  generalize hd y = t at *
  go_loopg [3, 4] (tot I₀) (fun kk s3 s4 wr => ∃ (I : List Cu) (q : Nat), tot I ≤ kk ∧ Hid (Pk I s3 s4) ∧ Hid (Res (uC R w₀ hR) F w hb lessA clt I q wr) ∧ Hid (TL R w₀ t I₀ I) ∧ I.length ≤ 1048576 ∧ q + tot I ≤ 4398046511104)
  case atStart => exact ⟨I₀, p, Nat.le_refl _, HP0, HR0, HT0, hil, hp⟩
  case round =>
    obtain ⟨I, q, hk, HP, HRS, HT, hIl, hq⟩ := hrel
    rcases unhide HP with ⟨rfl, rfl, rfl⟩ | ⟨y1, J1, hpop1, rfl, rfl⟩
    · have HE := hide ((unhide HT).over (.inl rfl))
      clear HP
      go_wp2
      go_ret
      exact ⟨t, [], q, rfl, unhide HE, unhide HRS, (fun i hi => by cases hi), hIl, hq⟩
    · obtain ⟨hpm, hlst⟩ := pop_facts hpop1
      have zy := (unhide HT).zs y1 (hpm.mem_iff.2 (by simp))
      obtain ⟨g1, o1, e1, c1⟩ := zy.cell (unhide HRS).1.kw
      have hylen := zy.len
      have hycap := zy.cap
      have hyne := List.length_pos_iff.2 zy.ne
      have htt : tot I = y1.L.length + tot J1 := by rw [tot_perm hpm, tot_cons]
      have hJl : J1.length + 1 = I.length := by rw [hpm.length_eq]; simp
      obtain ⟨m, hm⟩ : ∃ m, y1.n = m + 1 := ⟨y1.n - 1, by omega⟩
      have hmz : m + 1 ≤ 4398046511104 := by omega
      cases heq : ((hd y1).toList == t.toList) with
      | false =>
        have HE := hide ((unhide HT).over (.inr ⟨y1, J1, hpop1, fun e => by have := tx_beq.2 e; rw [this] at heq; cases heq⟩))
        rw [e1, hm]
        have hZ := hide (unhide HT).zs
        clear HP hpm hlst zy e1 hm hyne htt hJl hylen hycap hpop1
        generalize hd y1 = x1 at *
        generalize y1.c = cc at *
        go_wp2
        go_ret
        exact ⟨t, I, q, rfl, unhide HE, unhide HRS, unhide hZ, hIl, hq⟩
      | true =>
        have hyt : hd y1 = t := tx_beq.1 heq
        have hyh : y1.L = t :: y1.L.tail := by rw [← hyt]; exact zy.head
        by_cases hm0 : m = 0
        · subst hm0
          have hnil : y1.L.tail = [] := by
            refine List.eq_nil_of_length_eq_zero ?_
            rw [List.length_tail]; omega
          have HN : Hid (TL R w₀ t I₀ J1) := by
            have := (unhide HT).next (K := []) hpop1 hyt (by rw [hnil]; simp [flat]) (by simp)
            rwa [List.append_nil] at this
          have HPO := hide (Hpc.pop_some (lessV_ahead R w₀ hR) (unhide HRS).1 (by omega) hpop1)
          rw [e1, hm]
          have hk1 : tot J1 + 1 ≤ tot I := by omega
          clear HP hpm hlst zy hm hyne htt hylen hycap hpop1 hyh hnil hyt HT
          rw [e1] at HPO
          generalize hd y1 = x1 at *
          generalize y1.c = cc at *
          go_wp2_with (first | (go_at_call 46; refine (unhide HPO).mono ?_; rintro e w3 ⟨rfl, hres3⟩; have H3 := hide ((unhide HRS).trans hres3); have HPK3 := hide (peek_any hres3.1); clear hres3) | (go_at_call 44; refine (unhide HPK3).mono ?_; rintro e w4 ⟨⟨v4, s4, rfl, hpk4⟩, hw4⟩; have hw5 := hw4.symm; subst hw5; clear hw4; have HP4 := hide hpk4; clear hpk4))
          go_roundg (tot J1)
          case rel => exact ⟨J1, q, Nat.le_refl _, HP4, H3, HN, by omega, by omega⟩
          case measure => omega
        · have hyc : y1.c = m + 1 + (y1.c - (m + 1)) := by omega
          have zx := zy.cut e1 (by omega)
          have HN := hide ((unhide HT).next (K := [ctl y1 (some ⟨g1, o1 + 1, none⟩)]) hpop1 hyt (fun x => by simp [flat, ctl]) (fun i hi => by simp at hi; subst hi; exact zx))
          have HRP := hide (Hpc.replace_some (lessV_ahead R w₀ hR) (unhide HRS).1 (by omega) (by omega) hpop1 (ctl y1 (some ⟨g1, o1 + 1, none⟩)) zx)
          have e2 : ctl y1 (some ⟨g1, o1 + 1, none⟩) = ⟨some ⟨g1, o1 + 1, none⟩, m, y1.c - 1, y1.L.tail⟩ := by unfold ctl; rw [hm]; rfl
          have hk1 : tot (J1 ++ [ctl y1 (some ⟨g1, o1 + 1, none⟩)]) + 1 = tot I := by
            rw [tot_app, htt]
            have : tot [ctl y1 (some ⟨g1, o1 + 1, none⟩)] = y1.L.tail.length := by simp [tot, ctl]
            rw [this]
            simp
            omega
          have hl1 : (J1 ++ [ctl y1 (some ⟨g1, o1 + 1, none⟩)]).length ≤ 1048576 := by simp; omega
          rw [e1, hm]
          rw [e1, hm] at HRP
          rw [e2] at HRP HN hk1 hl1
          have hcc : m + 1 ≤ y1.c := by omega
          have hcn : ¬ y1.c = 1 := by omega
          have hl2 : (1 : Int) ≤ (m : Int) + 1 := by omega
          have hl3 : (1 : Int) < (m : Int) + 1 := by omega
          clear HP hpm hlst zy hm hyne htt hylen hycap hpop1 hyh hyt HT zx e2 hyc e1
          generalize hd y1 = x1 at *
          generalize y1.c = cc at *
          generalize y1.L.tail = Lt at *
          generalize y1.ao = ay at *
          generalize y1.n = ny at *
          go_wp2_with (first | (go_at_call 45; refine (unhide HRP).mono ?_; rintro e w3 ⟨rfl, hres3⟩; have H3 := hide ((unhide HRS).trans hres3); have HPK3 := hide (peek_any hres3.1); clear hres3) | (go_at_call 44; refine (unhide HPK3).mono ?_; rintro e w4 ⟨⟨v4, s4, rfl, hpk4⟩, hw4⟩; have hw5 := hw4.symm; subst hw5; clear hw4; have HP4 := hide hpk4; clear hpk4))
          go_roundg (tot (J1 ++ [⟨some ⟨g1, o1 + 1, none⟩, m, cc - 1, Lt⟩]))
          case rel => exact ⟨_, q + 1, Nat.le_refl _, HP4, H3, HN, hl1, by omega⟩
          case measure => omega
end Sm
end Go.Proofs.Ytamlfmohalkemaa
