/- Layer 6: Close where the store refuses a step: the writer tells it and dies of it. -/
import Derived.Test.YtbapnoafjcipjaaGreatDoorGe
import Derived.Test.YtbapnoafjcipjaaGreatDoorWk
namespace Go.Proofs.YtbapnoafjcipjaaGreatDoor
open Go.RowKit
namespace Rs
section
variable {w wr : World} {E : Nat → Addr} {F G : Nat → Prop} {sb wb : Nat} {x : Wri} {m : Sto} {bv : Value} {F' : Nat → Prop}
theorem Cw.died {c : Nat} (h : Cw w wr E F G sb wb x m bv F') (hG : G wb) (b1 : 1 ≤ x.blk) (b2 : x.blk ≤ 4096) : WRes F G w E sb wb m { x with buf := [], dead := c } ((wr.setCell ⟨wb, 4, none⟩ (errV E c)).setCell ⟨wb, 3, none⟩ (.slice none 0 0)) := by
  have l1 := (Array.getElem?_eq_some_iff.1 h.sto).1
  have hz : ((wr.setCell ⟨wb, 4, none⟩ (errV E c)).setCell ⟨wb, 3, none⟩ (.slice none 0 0)).heap.size = wr.heap.size := by simp
  have hne : ∀ b, b ≠ wb → ((wr.setCell ⟨wb, 4, none⟩ (errV E c)).setCell ⟨wb, 3, none⟩ (.slice none 0 0)).heap[b]? = wr.heap[b]? := fun b hb => by
    rw [Below.heap_setCell _ _ _ _ hb, Below.heap_setCell _ _ _ _ hb]
  refine ⟨F', fun b => b = wb, .slice none 0 0, h.at_.kept (fun b hF => hne b fun e => h.nwb (e ▸ hF)) (fun _ x => x) (fun b hF => by rw [hz]; exact h.at_.lt b hF), ⟨fun b hb => by rw [hz, hb]; exact l1, rfl, ?_, World.ownsRow_nil _ _ _ _, fun k hk => (by cases hk), by simp; omega, b1, b2⟩, fun b hF hg => h.nwb (hg ▸ hF), fun b hF => ?_, fun b hg => .inl (hg ▸ hG), (h.chg.setCell (.inl (.inr hG)) _).setCell (.inl (.inr hG)) _⟩
  · rw [set_heap1 (set_heap1 h.sto _)]
    simp [wriC]
  · rw [show Up F w ((wr.setCell ⟨wb, 4, none⟩ (errV E c)).setCell ⟨wb, 3, none⟩ (.slice none 0 0)) b ↔ Up F w wr b by unfold Up; rw [hz]]
    exact h.sub b hF
theorem cw_die {c : Nat} (h : Cw w wr E F G sb wb x m bv F') (hG : G wb) (b1 : 1 ≤ x.blk) (b2 : x.blk ≤ 4096) (hc : c ≠ 0) :
    Calls Tryz.prog 63 #[.pointer (some ⟨wb, 0, none⟩), er E c] wr fun e w' => e = .returned (er E c) ∧ WRes F G w E sb wb m { x with buf := [], dead := c } w' := by
  refine (die_any h.sto (by simp [wriC]) (er E c) (.inr ⟨_, _, rfl⟩)).mono ?_
  rintro e w' ⟨rfl, rfl⟩
  rw [← errV_er hc]
  exact ⟨rfl, h.died hG b1 b2⟩
end
set_option maxRecDepth 100000 in
set_option maxHeartbeats 2000000 in
theorem close_fail {w : World} {E : Nat → Addr} {B sb wb : Nat} {m : Sto} {F G : Nat → Prop} {x : Wri} {bv : Value} (V : Env w E B) (hF : ∀ b, F b → B ≤ b) (hG : ∀ b, G b → B ≤ b) (hB : B ≤ w.heap.size) (h : At w sb m F) (hw : WIn w E sb wb x G bv) (hd : ∀ b, F b → ¬ G b) (hx : x.dead = 0) (hrun : x.run ≤ 16777216)
    (c : Nat) (m2 : Sto) (hP : wclo x.run m x.buf = (c, m2)) (hc : c ≠ 0) :
    Calls Tryz.prog 51 #[.pointer (some ⟨wb, 0, none⟩)] w fun e w' => e = .returned (.tuple #[.int .i64 0, er E c]) ∧ WRes F G w E sb wb m2 { x with buf := [], dead := c } w' := by
  have HCK := hide (check_any hw)
  rw [show errV E x.dead = .nilIface by rw [hx]; rfl] at HCK
  have HC0 := hide (Cw.start h hw hd)
  have HV := hide V
  have HBB : Hid (∀ W, Chg (fun b => F b ∨ G b) w W → Below B w W) := fun W c => c.below hB (fun k hk => hk.elim (hF k) (hG k))
  have HFB : Hid (∀ {W : World} {mm : Sto} {FF : Nat → Prop}, Cw w W E F G sb wb x mm bv FF → ∀ b, FF b → B ≤ b) := fun {W mm FF} c b hb => by
    rcases c.sub b hb with y | y
    · exact hF b y
    · omega
  have HSL : Hid (∀ {m1 : Sto} {W : World} {FF : Nat → Prop}, sel m1 x.run = (c, m2) → Cw w W E F G sb wb x m1 bv FF → Calls Tryz.prog 65 #[.pointer (some ⟨sb, 0, none⟩), .int .i64 x.run] W fun e w' => e = .returned (er E c) ∧ Cw w w' E F G sb wb x m2 bv (Up FF W w')) := fun {m1 W FF} hs cw => by
    have q := seal_any (k := (x.run : Int)) cw.at_ (((unhide HV).below (unhide HBB W cw.chg)).gs (unhide HFB cw)) (by omega) (by omega)
    rw [hs] at q
    rw [← errV_er hc]
    exact q.mono fun e w' hh => ⟨hh.1, cw.res hh.2⟩
  have HOW := hide hw.own
  have HDI : Hid (∀ {W : World} {FF : Nat → Prop}, Cw w W E F G sb wb x m2 bv FF → Calls Tryz.prog 63 #[.pointer (some ⟨wb, 0, none⟩), er E c] W fun e w' => e = .returned (er E c) ∧ WRes F G w E sb wb m2 { x with buf := [], dead := c } w') := fun {W FF} cw => cw_die cw hw.own hw.blk1 hw.blk2 hc
  obtain ⟨ab, cb, rfl⟩ := own_slice hw.row
  have hzw := zero_writer
  have hbl : x.buf.length < 4096 := by have := hw.small; have := hw.blk2; omega
  by_cases hb : x.buf = []
  · have hs1 : sel m x.run = (c, m2) := by unfold wclo at hP; rwa [if_pos hb] at hP
    have HS1 := hide hs1
    have hl0 : x.buf.length = 0 := by rw [hb]; rfl
    obtain ⟨c0, c1, c2, c3, c4, cf⟩ := wcells (unhide HC0).sto
    have hwb : wb < w.heap.size := (Array.getElem?_eq_some_iff.1 (unhide HC0).sto).1
    rw [hl0] at c3
    unfold er at *
    clear V h hw hd hP hs1 hx hb
    go_enter Tryz.func51, Tryz.ntmps51
    go_wp2_with fail
    refine (unhide HCK).mono ?_
    rintro e w0 ⟨rfl, hw0⟩
    have hw00 := hw0.symm
    subst hw00
    clear hw0 HCK
    go_wp2
    go_region_held3 (fun w' => w'.cell? ⟨wb, 0, none⟩ = some (.pointer (some ⟨sb, 0, none⟩)) ∧ w'.cell? ⟨wb, 1, none⟩ = some (.int .i64 x.run))
      (first | exact ⟨c0, c1⟩ | exact s3)
      (first | (go_at_call 65; refine (unhide HSL (unhide HS1) ((unhide HC0).below (by (repeat (first | exact Below.refl _ _ | refine Below.drew ?_ | refine Below.alloc ?_ (by first | (simp; done) | (simp; omega)) _ | refine Below.setCell ?_ (by first | (simp; done) | (simp; omega)) _))))).mono ?_; rintro e w3 ⟨rfl, hl3⟩; have HL3 := hide hl3; obtain ⟨z0, z1, z2, z3, z4, zf⟩ := wcells hl3.sto; have s3 := (⟨z0, z1⟩ : _ ∧ _); have hz3 : wb < w3.heap.size := (Array.getElem?_eq_some_iff.1 hl3.sto).1; clear hl3))
    clear s3
    have HD3 := hide (unhide HDI (unhide HL3))
    clear HDI HSL
    go_wp2_with (go_at_call 63; refine (unhide HD3).mono ?_; rintro e w5 ⟨rfl, h5⟩; have HF5 := hide h5; clear h5)
    go_ret2
    exact ⟨rfl, unhide HF5⟩
  · obtain ⟨c1, m1, hap⟩ : ∃ c1 m1, app m x.run [strB x.buf] = (c1, m1) := ⟨_, _, rfl⟩
    have hP2 := hP
    unfold wclo at hP2
    rw [if_neg hb, hap] at hP2
    have hlp : 0 < x.buf.length := List.length_pos_iff.2 hb
    have hlz : 0 < (x.buf.length : Int) := by omega
    obtain ⟨X, hX⟩ : ∃ X, strB x.buf = X := ⟨_, rfl⟩
    have HCV : Hid (∀ {W : World} {mm : Sto} {FF : Nat → Prop}, Cw w W E F G sb wb x mm (.slice ab x.buf.length cb) FF → (convert 76 9 (.slice ab x.buf.length cb)).run Tryz.prog W = .ok (.string X) W) := fun {W mm FF} hW => by
      obtain ⟨g, rfl⟩ : ∃ g, ab = some ⟨g, 0, none⟩ := by
        rcases hW.row.2 with ⟨_, e⟩ | ⟨g, cap, cur, e, _⟩
        · omega
        · injection e with e _ _; exact ⟨g, e⟩
      have := conv_row hW.row 0 x.buf.length cb (by omega)
      rw [List.drop_zero, List.take_length, hX] at this
      exact this
    have HAPP : Hid (∀ W, Below w.heap.size w W → w.heap.size < W.heap.size → W.cell? ⟨w.heap.size, 0, none⟩ = some (.string X) → Calls Tryz.prog 62 #[.pointer (some ⟨sb, 0, none⟩), .int .i64 x.run, .slice (some ⟨w.heap.size, 0, none⟩) 1 1] W fun e w' => e = .returned (errV E c1) ∧ Cw w w' E F G sb wb x m1 (.slice ab x.buf.length cb) (Up F W w')) := fun W hW hlt hcell => by
      have l := (unhide HC0).below hW
      have q := append_any (k := (x.run : Int)) (v := .slice (some ⟨w.heap.size, 0, none⟩) 1 1) (L := [X]) l.at_ (((unhide HV).below (unhide HBB W l.chg)).gs (unhide HFB l)) (by omega) (by omega) ⟨_, 1, rfl, by simp, fun _ => ⟨w.heap.size, 0, rfl, hlt, fun hb => by have := h.lt _ hb; omega, fun j y hy => by
        have : j = 0 := by
          have := (List.getElem?_eq_some_iff.1 hy).1
          simpa using this
        subst this
        simp at hy
        subst hy
        rw [Nat.zero_add]; exact hcell⟩⟩
      rw [← hX, hap] at q
      exact q.mono fun e w' hh => ⟨hh.1, l.res hh.2⟩
    obtain ⟨c0, cc1, c2, c3, c4, cf⟩ := wcells (unhide HC0).sto
    have hwb : wb < w.heap.size := (Array.getElem?_eq_some_iff.1 (unhide HC0).sto).1
    have s0 := unhide HCV (unhide HC0)
    obtain ⟨n, hn⟩ : ∃ n, x.buf.length = n := ⟨_, rfl⟩
    rw [hn] at hlp hlz s0 c3 hbl HCV HAPP HC0 HSL HFB HDI
    by_cases hc1 : c1 = 0
    · subst hc1
      rw [if_pos rfl] at hP2
      have HS1 := hide hP2
      rw [errV_zero] at HAPP
      unfold er at *
      clear V h hw hd hP hP2 hx hb hap hX hn HFB
      go_enter Tryz.func51, Tryz.ntmps51
      go_wp2_with fail
      refine (unhide HCK).mono ?_
      rintro e w0 ⟨rfl, hw0⟩
      have hw00 := hw0.symm
      subst hw00
      clear hw0 HCK
      go_wp2
      go_region_held3 (fun w' => w'.cell? ⟨wb, 0, none⟩ = some (.pointer (some ⟨sb, 0, none⟩)) ∧ w'.cell? ⟨wb, 1, none⟩ = some (.int .i64 x.run) ∧ w'.cell? ⟨wb, 3, none⟩ = some (.slice ab n cb) ∧ (convert 76 9 (.slice ab n cb)).run Tryz.prog w' = .ok (.string X) w')
        (first | exact ⟨c0, cc1, c3, s0⟩ | exact s2 | (refine ⟨?_, ?_, ?_, unhide HCV ((unhide HC0).below (by (repeat (first | exact Below.refl _ _ | refine Below.drew ?_ | refine Below.alloc ?_ (by first | (simp; done) | (simp; omega)) _ | refine Below.setCell ?_ (by first | (simp; done) | (simp; omega)) _))))⟩ <;> go_simp))
        (first | (go_at_call 62; refine (unhide HAPP _ (by (repeat (first | exact Below.refl _ _ | refine Below.drew ?_ | refine Below.alloc ?_ (by first | (simp; done) | (simp; omega)) _ | refine Below.setCell ?_ (by first | (simp; done) | (simp; omega)) _))) (by simp) (by go_simp)).mono ?_; rintro e w2 ⟨rfl, hl2⟩; have HL2 := hide hl2; obtain ⟨y0, y1, y2, y3, y4, yf⟩ := wcells hl2.sto; have s2 := (⟨y0, y1, y3, unhide HCV hl2⟩ : _ ∧ _ ∧ _ ∧ _); have hz2 : wb < w2.heap.size := (Array.getElem?_eq_some_iff.1 hl2.sto).1; clear hl2))
      clear s2 s0 c0 cc1 c2 c3 c4 cf
      go_wp2
      go_region_held3 (fun w' => w'.cell? ⟨wb, 0, none⟩ = some (.pointer (some ⟨sb, 0, none⟩)) ∧ w'.cell? ⟨wb, 1, none⟩ = some (.int .i64 x.run))
        (first | exact ⟨y0, y1⟩ | exact s3)
        (first | (go_at_call 65; refine (unhide HSL (unhide HS1) ((unhide HL2).below (by (repeat (first | exact Below.refl _ _ | refine Below.drew ?_ | refine Below.alloc ?_ (by first | (simp; done) | (simp; omega)) _ | refine Below.setCell ?_ (by first | (simp; done) | (simp; omega)) _))))).mono ?_; rintro e w3 ⟨rfl, hl3⟩; have HL3 := hide hl3; obtain ⟨z0, z1, z2, z3, z4, zf⟩ := wcells hl3.sto; have s3 := (⟨z0, z1⟩ : _ ∧ _); have hz3 : wb < w3.heap.size := (Array.getElem?_eq_some_iff.1 hl3.sto).1; clear hl3))
      clear s3 y0 y1 y2 y3 y4 yf
      have HD3 := hide (unhide HDI (unhide HL3))
      clear HDI HSL
      go_wp2_with (go_at_call 63; refine (unhide HD3).mono ?_; rintro e w5 ⟨rfl, h5⟩; have HF5 := hide h5; clear h5)
      go_ret2
      exact ⟨rfl, unhide HF5⟩
    · rw [if_neg hc1] at hP2
      simp only [Prod.mk.injEq] at hP2
      obtain ⟨rfl, rfl⟩ := hP2
      rw [errV_er hc] at HAPP
      unfold er at *
      clear V h hw hd hP hx hb hap hX hn HFB HSL
      go_enter Tryz.func51, Tryz.ntmps51
      go_wp2_with fail
      refine (unhide HCK).mono ?_
      rintro e w0 ⟨rfl, hw0⟩
      have hw00 := hw0.symm
      subst hw00
      clear hw0 HCK
      go_wp2
      go_region_held3 (fun w' => w'.cell? ⟨wb, 0, none⟩ = some (.pointer (some ⟨sb, 0, none⟩)) ∧ w'.cell? ⟨wb, 1, none⟩ = some (.int .i64 x.run) ∧ w'.cell? ⟨wb, 3, none⟩ = some (.slice ab n cb) ∧ (convert 76 9 (.slice ab n cb)).run Tryz.prog w' = .ok (.string X) w')
        (first | exact ⟨c0, cc1, c3, s0⟩ | exact s2 | (refine ⟨?_, ?_, ?_, unhide HCV ((unhide HC0).below (by (repeat (first | exact Below.refl _ _ | refine Below.drew ?_ | refine Below.alloc ?_ (by first | (simp; done) | (simp; omega)) _ | refine Below.setCell ?_ (by first | (simp; done) | (simp; omega)) _))))⟩ <;> go_simp))
        (first | (go_at_call 62; refine (unhide HAPP _ (by (repeat (first | exact Below.refl _ _ | refine Below.drew ?_ | refine Below.alloc ?_ (by first | (simp; done) | (simp; omega)) _ | refine Below.setCell ?_ (by first | (simp; done) | (simp; omega)) _))) (by simp) (by go_simp)).mono ?_; rintro e w2 ⟨rfl, hl2⟩; have HL2 := hide hl2; obtain ⟨y0, y1, y2, y3, y4, yf⟩ := wcells hl2.sto; have s2 := (⟨y0, y1, y3, unhide HCV hl2⟩ : _ ∧ _ ∧ _ ∧ _); have hz2 : wb < w2.heap.size := (Array.getElem?_eq_some_iff.1 hl2.sto).1; clear hl2))
      clear s2 s0 c0 cc1 c2 c3 c4 cf
      have HL3 := HL2
      have HD3 := hide (unhide HDI (unhide HL3))
      clear HDI
      go_wp2_with (go_at_call 63; refine (unhide HD3).mono ?_; rintro e w5 ⟨rfl, h5⟩; have HF5 := hide h5; clear h5)
      go_ret2
      exact ⟨rfl, unhide HF5⟩
end Rs
end Go.Proofs.YtbapnoafjcipjaaGreatDoor
