/- Layer 6: the document's writer: Close. -/
import Derived.Test.YtbapnoafjcipjaaGreatDoorDw
import Derived.Test.YtbapnoafjcipjaaGreatDoorWk
namespace Go.Proofs.YtbapnoafjcipjaaGreatDoor
open Go.RowKit
namespace Rs
section
variable {w W : World} {F : Nat → Prop} {sb vb : Nat} {m : Sto} {d : Doc}
theorem DocW.start {rv : Value} {sl : Nat → Value} (h : DIn w sb m F rv sl) (hv : VIn w vb d) (hnv : ¬ F vb) : DocW w w F sb vb m d := ⟨⟨F, rv, sl, h, fun _ hb => .inl hb, hnv⟩, hv, Chg.refl _ _⟩
theorem DocW.below {W2 : World} (h : DocW w W F sb vb m d) (hb : Below W.heap.size W W2) : DocW w W2 F sb vb m d := by
  obtain ⟨⟨F', rv, sl, q1, q2, q3⟩, hv, hc⟩ := h
  exact ⟨⟨F', rv, sl, q1.below hb, fun b hb2 => (q2 b hb2).imp id fun x => ⟨x.1, Nat.lt_of_lt_of_le x.2 hb.size⟩, q3⟩, hv.below hb, hc.trans (Chg.of_below hb)⟩
theorem DocW.set (h : DocW w W F sb vb m d) (k : Nat) (u : Value) (d' : Doc) (hd : (docC d).setIfInBounds k u = docC d') : DocW w (W.setCell ⟨vb, k, none⟩ u) F sb vb m d' := by
  obtain ⟨⟨F', rv', sl', q1, q2, q3⟩, hs, hC⟩ := h
  have hne : ∀ b, b ≠ vb → (W.setCell ⟨vb, k, none⟩ u).heap[b]? = W.heap[b]? := fun b hb => Below.heap_setCell _ _ _ _ hb
  refine ⟨⟨F', rv', sl', q1.kept (fun b hb => hne b fun e => q3 (e ▸ hb)) (fun _ x => x) (fun b hb => by simpa using q1.lt b hb), fun b hb => (q2 b hb).imp id fun x => ⟨x.1, by simpa using x.2⟩, q3⟩, ?_, hC.setCell (p := ⟨vb, k, none⟩) (.inl (.inr rfl)) _⟩
  unfold VIn at hs ⊢
  rw [Um.set_heap1 hs, hd]
theorem docw_seal (h : DocW w W F sb vb m d) (k : Int) {c : Nat} {m2 : Sto} (hs : sel m k = (c, m2)) :
    Calls Tryz.prog 99 #[.pointer (some ⟨sb, 0, none⟩), .int .i64 k] W fun e w' => e = .returned (.int .i64 c) ∧ DocW w w' F sb vb m2 d := by
  obtain ⟨⟨F', rv', sl', q1, q2, q3⟩, hv, hC⟩ := h
  have q := seal_doc q1 k
  rw [hs] at q
  refine q.mono ?_
  rintro e w' ⟨rfl, r1, r2, r3⟩
  exact ⟨rfl, ⟨F', rv', sl', r1, fun b hb => (q2 b hb).imp id fun x => ⟨x.1, by rw [r3]; exact x.2⟩, q3⟩, (r2.block vb (Array.getElem?_eq_some_iff.1 hv).1 q3).trans hv, hC.trans (r2.mono fun b hb => (q2 b hb).elim (fun x => .inl (.inl x)) fun x => .inr x)⟩
theorem docw_app {W2 : World} (h : DocW w W F sb vb m d) (k : Int) {Y : ByteArray} {c : Nat} {m2 : Sto} (hs : app m k [Y] = (c, m2)) (hb : Below W.heap.size W W2) (hlt : W.heap.size < W2.heap.size) (hcell : W2.cell? ⟨W.heap.size, 0, none⟩ = some (.string Y)) :
    Calls Tryz.prog 98 #[.pointer (some ⟨sb, 0, none⟩), .int .i64 k, .slice (some ⟨W.heap.size, 0, none⟩) 1 1] W2 fun e w' => e = .returned (.int .i64 c) ∧ DocW w w' F sb vb m2 d := by
  obtain ⟨⟨F', rv', sl', q1, q2, q3⟩, hv, hC⟩ := h
  have hvb := (Array.getElem?_eq_some_iff.1 hv).1
  have hvW : VIn W2 vb d := hv.below hb
  have cW : Chg (fun b => F b ∨ b = vb) w W2 := hC.trans (Chg.of_below hb)
  refine (append_doc (q1.below hb) k (L := [Y]) ⟨_, 1, rfl, by simp, fun _ => ⟨W.heap.size, 0, rfl, hlt, fun hF => by have := q1.lt _ hF; omega, fun j y hy => ?_⟩⟩ c m2 (hide hs)).mono ?_
  · have : j = 0 := by
      have := (List.getElem?_eq_some_iff.1 hy).1
      simpa using this
    subst this
    simp at hy
    subst hy
    rw [Nat.zero_add]; exact hcell
  · rintro e w' ⟨rfl, ⟨rv2, sl2, hd⟩, c2⟩
    have hz := c2.size
    have hzb := hb.size
    refine ⟨rfl, ⟨_, rv2, sl2, hd, fun b hF => ?_, fun hF => ?_⟩, (c2.block vb (by omega) q3).trans hvW, cW.trans (c2.mono fun b hF => ?_)⟩
    · rcases hF with hF | hF
      · exact (q2 b hF).imp id fun x => ⟨x.1, by omega⟩
      · exact .inr ⟨by have := cW.size; omega, hF.2⟩
    · rcases hF with hF | hF
      · exact q3 hF
      · omega
    · exact (q2 b hF).elim (fun x => .inl (.inl x)) fun x => .inr ⟨x.1, by omega⟩
end
set_option maxRecDepth 100000 in
set_option maxHeartbeats 2000000 in
theorem dclose_go {w : World} {sb vb : Nat} {m m' : Sto} {F : Nat → Prop} {rv : Value} {sl : Nat → Value} {d : Doc} {c : Nat} (h : DIn w sb m F rv sl) (hv : VIn w vb d) (hnv : ¬ F vb) (hd : d.dead = 0) (hh : d.held.size ≤ 4096) (HP : Hid (wclo d.run m (Um.lst d.held) = (c, m'))) :
    Calls Tryz.prog 70 #[.pointer (some ⟨sb, 0, none⟩), .pointer (some ⟨vb, 0, none⟩)] w fun e w' => e = .returned (.tuple #[.int .i64 (if c = 0 then (d.run : Int) else 0), .int .i64 c]) ∧ ∃ held, DocW w w' F sb vb m' { d with dead := (if c = 0 then 13 else c), held := held } := by
  have HD0 := hide (DocW.start h hv hnv)
  obtain ⟨c0, c1, c2, c3, cf, hvb⟩ := vcells hv
  rw [hd] at c2
  clear h hv hnv
  by_cases hz : d.held.size = 0
  · have e := unhide HP
    unfold wclo at e
    rw [if_pos (List.eq_nil_of_length_eq_zero (by rw [Um.lst_len]; exact hz))] at e
    have HSL := hide (docw_seal (unhide HD0) d.run e)
    clear e
    by_cases hc : c = 0
    · subst hc
      rw [if_pos rfl, if_pos rfl]
      go_enter Tryz.func70, Tryz.ntmps70
      go_wp2_with (go_at_call 99; refine (unhide HSL).mono ?_; rintro e w3 ⟨rfl, h3⟩; obtain ⟨y0, y1, y2, y3, yf, hy4⟩ := vcells h3.wri; have HF3 := hide (h3.set 2 (.int .i64 13) { d with dead := 13 } (by simp [docC])); clear h3)
      go_ret2
      exact ⟨rfl, _, unhide HF3⟩
    · rw [if_neg hc, if_neg hc]
      have hcz : ((c : Int) == 0) = false := by simp; omega
      go_enter Tryz.func70, Tryz.ntmps70
      go_wp2_with (go_at_call 99; refine (unhide HSL).mono ?_; rintro e w3 ⟨rfl, h3⟩; obtain ⟨y0, y1, y2, y3, yf, hy4⟩ := vcells h3.wri; have HF3 := hide (h3.set 2 (.int .i64 c) { d with dead := c } (by simp [docC])); clear h3)
      go_ret2
      exact ⟨rfl, _, unhide HF3⟩
  · have hzp : 0 < d.held.size := by omega
    have hzz : 0 < (d.held.size : Int) := by omega
    have hne : Um.lst d.held ≠ [] := fun e => by have := Um.lst_len d.held; rw [e] at this; simp at this; omega
    have eY : strB (Um.lst d.held) = d.held := rfl
    obtain ⟨c1, m2, hap⟩ : ∃ c1 m2, app m d.run [d.held] = (c1, m2) := ⟨_, _, rfl⟩
    have HAPP : Hid (∀ W, Below w.heap.size w W → w.heap.size < W.heap.size → W.cell? ⟨w.heap.size, 0, none⟩ = some (.string d.held) → Calls Tryz.prog 98 #[.pointer (some ⟨sb, 0, none⟩), .int .i64 d.run, .slice (some ⟨w.heap.size, 0, none⟩) 1 1] W fun e w' => e = .returned (.int .i64 c1) ∧ DocW w w' F sb vb m2 d) := fun W hW hlt hcell => docw_app (unhide HD0) d.run hap hW hlt hcell
    have e := unhide HP
    unfold wclo at e
    rw [if_neg hne, eY, hap] at e
    by_cases hc1 : c1 = 0
    · subst hc1
      rw [if_pos rfl] at e
      have HSL : Hid (∀ W, DocW w W F sb vb m2 d → DocW w (W.setCell ⟨vb, 3, none⟩ (.string ⟨#[]⟩)) F sb vb m2 { d with held := ⟨#[]⟩ } ∧ Calls Tryz.prog 99 #[.pointer (some ⟨sb, 0, none⟩), .int .i64 d.run] (W.setCell ⟨vb, 3, none⟩ (.string ⟨#[]⟩)) fun e w' => e = .returned (.int .i64 c) ∧ DocW w w' F sb vb m' { d with held := ⟨#[]⟩ }) := fun W hW => by
        have h3 := hW.set 3 (.string ⟨#[]⟩) { d with held := ⟨#[]⟩ } (by simp [docC])
        exact ⟨h3, docw_seal h3 d.run e⟩
      clear e hap
      by_cases hc : c = 0
      · subst hc
        rw [if_pos rfl, if_pos rfl]
        go_enter Tryz.func70, Tryz.ntmps70
        go_wp2
        go_region_held3 (fun w' => w'.cell? ⟨vb, 0, none⟩ = some (.int .i64 d.run) ∧ w'.cell? ⟨vb, 3, none⟩ = some (.string d.held))
          (first | exact ⟨c0, c3⟩ | exact s2 | (refine ⟨?_, ?_⟩ <;> go_simp))
          (first | (go_at_call 98; refine (unhide HAPP _ (by (repeat (first | exact Below.refl _ _ | refine Below.drew ?_ | refine Below.alloc ?_ (by first | (simp; done) | (simp; omega)) _ | refine Below.setCell ?_ (by first | (simp; done) | (simp; omega)) _))) (by simp) (by go_simp)).mono ?_; rintro e w4 ⟨rfl, h4⟩; obtain ⟨y0, y1, y2, y3, yf, hy4⟩ := vcells h4.wri; have s2 := (⟨y0, y3⟩ : _ ∧ _); have HL4 := hide (unhide HSL _ h4); clear h4))
        clear s2
        clear HSL
        go_wp2_with (go_at_call 99; refine (unhide HL4).2.mono ?_; rintro e w5 ⟨rfl, h5⟩; obtain ⟨z0, z1, z2, z3, zf, hz4⟩ := vcells h5.wri; have HF5 := hide (h5.set 2 (.int .i64 13) { d with dead := 13, held := ⟨#[]⟩ } (by simp [docC])); clear h5)
        go_ret2
        exact ⟨rfl, _, unhide HF5⟩
      · rw [if_neg hc, if_neg hc]
        have hcz : ((c : Int) == 0) = false := by simp; omega
        go_enter Tryz.func70, Tryz.ntmps70
        go_wp2
        go_region_held3 (fun w' => w'.cell? ⟨vb, 0, none⟩ = some (.int .i64 d.run) ∧ w'.cell? ⟨vb, 3, none⟩ = some (.string d.held))
          (first | exact ⟨c0, c3⟩ | exact s2 | (refine ⟨?_, ?_⟩ <;> go_simp))
          (first | (go_at_call 98; refine (unhide HAPP _ (by (repeat (first | exact Below.refl _ _ | refine Below.drew ?_ | refine Below.alloc ?_ (by first | (simp; done) | (simp; omega)) _ | refine Below.setCell ?_ (by first | (simp; done) | (simp; omega)) _))) (by simp) (by go_simp)).mono ?_; rintro e w4 ⟨rfl, h4⟩; obtain ⟨y0, y1, y2, y3, yf, hy4⟩ := vcells h4.wri; have s2 := (⟨y0, y3⟩ : _ ∧ _); have HL4 := hide (unhide HSL _ h4); clear h4))
        clear s2
        clear HSL
        go_wp2_with (go_at_call 99; refine (unhide HL4).2.mono ?_; rintro e w5 ⟨rfl, h5⟩; obtain ⟨z0, z1, z2, z3, zf, hz4⟩ := vcells h5.wri; have HF5 := hide (h5.set 2 (.int .i64 c) { d with dead := c, held := ⟨#[]⟩ } (by simp [docC])); clear h5)
        go_ret2
        exact ⟨rfl, _, unhide HF5⟩
    · rw [if_neg hc1] at e
      simp only [Prod.mk.injEq] at e
      obtain ⟨rfl, rfl⟩ := e
      rw [if_neg hc1, if_neg hc1]
      have hcz : ((c1 : Int) == 0) = false := by simp; omega
      clear hap
      go_enter Tryz.func70, Tryz.ntmps70
      go_wp2
      go_region_held3 (fun w' => w'.cell? ⟨vb, 0, none⟩ = some (.int .i64 d.run) ∧ w'.cell? ⟨vb, 3, none⟩ = some (.string d.held))
        (first | exact ⟨c0, c3⟩ | exact s2 | (refine ⟨?_, ?_⟩ <;> go_simp))
        (first | (go_at_call 98; refine (unhide HAPP _ (by (repeat (first | exact Below.refl _ _ | refine Below.drew ?_ | refine Below.alloc ?_ (by first | (simp; done) | (simp; omega)) _ | refine Below.setCell ?_ (by first | (simp; done) | (simp; omega)) _))) (by simp) (by go_simp)).mono ?_; rintro e w4 ⟨rfl, h4⟩; obtain ⟨y0, y1, y2, y3, yf, hy4⟩ := vcells h4.wri; have s2 := (⟨y0, y3⟩ : _ ∧ _); have HF4 := hide (h4.set 2 (.int .i64 c1) { d with dead := c1 } (by simp [docC])); clear h4))
      clear s2
      go_wp2
      go_ret2
      exact ⟨rfl, _, unhide HF4⟩
end Rs
end Go.Proofs.YtbapnoafjcipjaaGreatDoor
