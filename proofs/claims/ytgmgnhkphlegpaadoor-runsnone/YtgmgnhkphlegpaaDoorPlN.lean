/- Layer 5: plays of a nil store; plays of any store. -/
import Derived.Test.YtgmgnhkphlegpaaDoorPlF
namespace Go.Proofs.YtgmgnhkphlegpaaDoor
open Go.RowKit
namespace Rs
structure Tn (w w4 : World) (E : Nat → Addr) (B : Nat) : Prop where
  b1 : w4.heap[w.heap.size + 1]? = some (.cells #[.int .i64 0, .int .i64 0, .string (strB []), .slice none 0 0] 33 (0, 0))
  b2 : w4.heap[w.heap.size + 1 + 1]? = some (.cells #[.int .i64 0, .int .i64 0, .string (strB []), .slice none 0 0] 33 (0, 0))
  env : Env w4 E B
  sz : w.heap.size + 1 + 1 < w4.heap.size
  res : ∀ W5, Chg (fun b => w.heap.size ≤ b ∧ b < w.heap.size + 3) w4 W5 → Below w.heap.size w W5
theorem Tn.mk0 {w : World} {o1 : Obj} {w4 : World} {E : Nat → Addr} {B : Nat} {W3 : World} (hW : W3 = ((w.alloc o1).alloc (.cells #[.int .i64 0, .int .i64 0, .string (strB []), .slice none 0 0] 33)).alloc (.cells #[.int .i64 0, .int .i64 0, .string (strB []), .slice none 0 0] 33))
    (V : Env w E B) (hB : B ≤ w.heap.size) (h : Below W3.heap.size W3 w4) : Tn w w4 E B := by
  have hb : Below w.heap.size w W3 := by rw [hW]; (repeat (first | exact Below.refl _ _ | refine Below.drew ?_ | refine Below.alloc ?_ (by first | (simp; done) | (simp; omega)) _ | refine Below.setCell ?_ (by first | (simp; done) | (simp; omega)) _))
  have hs : W3.heap.size = w.heap.size + 3 := by rw [hW]; simp
  have c : Chg (fun _ => False) W3 w4 := Chg.of_below h
  refine ⟨loc_cells (w := w) c (fun _ x => x.elim) (by omega) ?_, loc_cells (w := w) c (fun _ x => x.elim) (by omega) ?_, (V.below (hb.mono hB)).below (h.mono (Nat.le_trans hB hb.size)), by have := h.size; omega, fun W5 c5 => (hb.trans (h.mono hb.size)).trans (c5.below (Nat.le_trans hb.size h.size) (fun k hk => hk.1))⟩
  · rw [hW, Below.heap_alloc _ _ _ (by simp)]
    have := (MapKept.heap_alloc (w.alloc o1) (.cells #[.int .i64 0, .int .i64 0, .string (strB []), .slice none 0 0] 33)).1
    simpa using this
  · rw [hW]
    have := (MapKept.heap_alloc ((w.alloc o1).alloc (.cells #[.int .i64 0, .int .i64 0, .string (strB []), .slice none 0 0] 33)) (.cells #[.int .i64 0, .int .i64 0, .string (strB []), .slice none 0 0] 33)).1
    simpa using this
def nilC (o : Op5) : Nat := if 1 ≤ o.kd ∧ o.kd ≤ 6 then 1 else 0
set_option maxRecDepth 100000 in
set_option maxHeartbeats 1000000 in
theorem playn_1 {w : World} {E : Nat → Addr} {B : Nat} {pv : Value} {o : Op5} (V : Env w E B) (hB : B ≤ w.heap.size) (ok : o.Ok) (hp : Strs w pv o.L) (hk : o.kd = 1) :
    Calls Tryd.prog 12 #[.pointer none, opV o pv] w fun e w' => e = .returned (ansV ⟨0, nilC o, [], []⟩ (.slice none 0 0)) ∧ Below w.heap.size w w' := by
  have _ := ok
  have HR : nilC o = 1 := by unfold nilC; rw [hk]; rfl
  rw [HR]
  have HOP : Hid (∀ W, Below w.heap.size w W → Calls Tryd.prog 22 #[.pointer none] W fun e w' => e = .returned (.tuple #[.int .i64 0, er E 1]) ∧ Below W.heap.size W w') := fun W hb => create_nil W ((V.below (hb.mono hB)).g)
  have HCD : Hid (∀ w', Env w' E B → Calls Tryd.prog 28 #[er E 1] w' fun e w2 => e = .returned (.int .i64 1) ∧ w2 = w') := fun w' v => code_1 v
  obtain ⟨ao, cp, rfl, -, -⟩ := hp
  have HTL : Hid (∀ W3 w4, W3 = ((w.alloc (.cells #[.int .i64 1, .int .i64 o.run, .int .i64 o.at_, .int .i64 o.n, .slice ao o.L.length cp] 30)).alloc (.cells #[.int .i64 0, .int .i64 0, .string (strB []), .slice none 0 0] 33)).alloc (.cells #[.int .i64 0, .int .i64 0, .string (strB []), .slice none 0 0] 33) → Below W3.heap.size W3 w4 → Tn w w4 E B) := fun W3 w4 hW hr => Tn.mk0 hW V hB hr
  unfold opV ansV
  simp only [hk]
  clear V hk HR ok
  go_enter Tryd.func12, Tryd.ntmps12
  go_wp2_with (first | (go_at_call 22; refine (unhide HOP _ (by (repeat (first | exact Below.refl _ _ | refine Below.drew ?_ | refine Below.alloc ?_ (by first | (simp; done) | (simp; omega)) _ | refine Below.setCell ?_ (by first | (simp; done) | (simp; omega)) _)))).mono ?_; rintro e w4 ⟨rfl, h4⟩; have htl := unhide HTL _ w4 rfl h4; obtain ⟨q0, q1, q2, q3, qf⟩ := ans_cells htl.b2; obtain ⟨p0, p1, p2, p3, pf⟩ := ans_cells htl.b1; have hz := htl.sz; have HT := hide htl; clear h4 htl) | (go_at_call 28; refine (unhide HCD _ ((unhide HT).env.below (by (repeat (first | refine Below.setCell ?_ (by simp; omega) _ | refine Below.drew ?_ | exact Below.refl _ _))))).mono ?_; rintro e w5 ⟨rfl, rfl⟩))
  refine gen_post ?_
  intro V2 hV
  have HRS : Hid (Below w.heap.size w V2) := by
    rw [hV]
    refine (unhide HT).res _ ?_
    (repeat (first | refine Chg.setCell ?_ (.inl (by constructor <;> (simp; try omega))) _ | refine Chg.alloc ?_ _ | refine Chg.drew ?_ | exact Chg.refl _ _))
  have v0 : V2.cell? ⟨w.heap.size + 1, 0, none⟩ = some (.int .i64 0) := by rw [hV]; go_simp
  have v1 : V2.cell? ⟨w.heap.size + 1, 1, none⟩ = some (.int .i64 1) := by rw [hV]; go_simp
  have v2 : V2.cell? ⟨w.heap.size + 1, 2, none⟩ = some (.string (strB [])) := by rw [hV]; go_simp
  have v3 : V2.cell? ⟨w.heap.size + 1, 3, none⟩ = some (.slice none 0 0) := by rw [hV]; go_simp
  clear hV p0 p1 p2 p3 q0 q1 q2 q3 pf qf
  exact bodyPost_ret (v := .agg #[.int .i64 0, .int .i64 1, .string (strB []), .slice none 0 0]) (by simp [results, Tryd.results12, go_sem, v0, v1, v2, v3]) rfl ⟨rfl, unhide HRS⟩
set_option maxRecDepth 100000 in
set_option maxHeartbeats 1000000 in
theorem playn_3 {w : World} {E : Nat → Addr} {B : Nat} {pv : Value} {o : Op5} (V : Env w E B) (hB : B ≤ w.heap.size) (ok : o.Ok) (hp : Strs w pv o.L) (hk : o.kd = 3) :
    Calls Tryd.prog 12 #[.pointer none, opV o pv] w fun e w' => e = .returned (ansV ⟨0, nilC o, [], []⟩ (.slice none 0 0)) ∧ Below w.heap.size w w' := by
  have _ := ok
  have HR : nilC o = 1 := by unfold nilC; rw [hk]; rfl
  rw [HR]
  have HOP : Hid (∀ W, Below w.heap.size w W → Calls Tryd.prog 24 #[.pointer none, .int .i64 o.run] W fun e w' => e = .returned (er E 1) ∧ Below W.heap.size W w') := fun W hb => seal_nil W o.run ((V.below (hb.mono hB)).g)
  have HCD : Hid (∀ w', Env w' E B → Calls Tryd.prog 28 #[er E 1] w' fun e w2 => e = .returned (.int .i64 1) ∧ w2 = w') := fun w' v => code_1 v
  obtain ⟨ao, cp, rfl, -, -⟩ := hp
  have HTL : Hid (∀ W3 w4, W3 = ((w.alloc (.cells #[.int .i64 3, .int .i64 o.run, .int .i64 o.at_, .int .i64 o.n, .slice ao o.L.length cp] 30)).alloc (.cells #[.int .i64 0, .int .i64 0, .string (strB []), .slice none 0 0] 33)).alloc (.cells #[.int .i64 0, .int .i64 0, .string (strB []), .slice none 0 0] 33) → Below W3.heap.size W3 w4 → Tn w w4 E B) := fun W3 w4 hW hr => Tn.mk0 hW V hB hr
  unfold opV ansV
  simp only [hk]
  clear V hk HR ok
  go_enter Tryd.func12, Tryd.ntmps12
  go_wp2_with (first | (go_at_call 24; refine (unhide HOP _ (by (repeat (first | exact Below.refl _ _ | refine Below.drew ?_ | refine Below.alloc ?_ (by first | (simp; done) | (simp; omega)) _ | refine Below.setCell ?_ (by first | (simp; done) | (simp; omega)) _)))).mono ?_; rintro e w4 ⟨rfl, h4⟩; have htl := unhide HTL _ w4 rfl h4; obtain ⟨q0, q1, q2, q3, qf⟩ := ans_cells htl.b2; obtain ⟨p0, p1, p2, p3, pf⟩ := ans_cells htl.b1; have hz := htl.sz; have HT := hide htl; clear h4 htl) | (go_at_call 28; refine (unhide HCD _ ((unhide HT).env.below (by (repeat (first | refine Below.setCell ?_ (by simp; omega) _ | refine Below.drew ?_ | exact Below.refl _ _))))).mono ?_; rintro e w5 ⟨rfl, rfl⟩))
  refine gen_post ?_
  intro V2 hV
  have HRS : Hid (Below w.heap.size w V2) := by
    rw [hV]
    refine (unhide HT).res _ ?_
    (repeat (first | refine Chg.setCell ?_ (.inl (by constructor <;> (simp; try omega))) _ | refine Chg.alloc ?_ _ | refine Chg.drew ?_ | exact Chg.refl _ _))
  have v0 : V2.cell? ⟨w.heap.size + 1, 0, none⟩ = some (.int .i64 0) := by rw [hV]; go_simp
  have v1 : V2.cell? ⟨w.heap.size + 1, 1, none⟩ = some (.int .i64 1) := by rw [hV]; go_simp
  have v2 : V2.cell? ⟨w.heap.size + 1, 2, none⟩ = some (.string (strB [])) := by rw [hV]; go_simp
  have v3 : V2.cell? ⟨w.heap.size + 1, 3, none⟩ = some (.slice none 0 0) := by rw [hV]; go_simp
  clear hV p0 p1 p2 p3 q0 q1 q2 q3 pf qf
  exact bodyPost_ret (v := .agg #[.int .i64 0, .int .i64 1, .string (strB []), .slice none 0 0]) (by simp [results, Tryd.results12, go_sem, v0, v1, v2, v3]) rfl ⟨rfl, unhide HRS⟩
set_option maxRecDepth 100000 in
set_option maxHeartbeats 1000000 in
theorem playn_4 {w : World} {E : Nat → Addr} {B : Nat} {pv : Value} {o : Op5} (V : Env w E B) (hB : B ≤ w.heap.size) (ok : o.Ok) (hp : Strs w pv o.L) (hk : o.kd = 4) :
    Calls Tryd.prog 12 #[.pointer none, opV o pv] w fun e w' => e = .returned (ansV ⟨0, nilC o, [], []⟩ (.slice none 0 0)) ∧ Below w.heap.size w w' := by
  have _ := ok
  have HR : nilC o = 1 := by unfold nilC; rw [hk]; rfl
  rw [HR]
  have HOP : Hid (∀ W, Below w.heap.size w W → Calls Tryd.prog 25 #[.pointer none, .int .i64 o.run, .int .i64 o.at_, .int .i64 o.n] W fun e w' => e = .returned (.tuple #[.string (strB []), er E 1]) ∧ Below W.heap.size W w') := fun W hb => read_nil W o.run o.at_ o.n ((V.below (hb.mono hB)).g)
  have HCD : Hid (∀ w', Env w' E B → Calls Tryd.prog 28 #[er E 1] w' fun e w2 => e = .returned (.int .i64 1) ∧ w2 = w') := fun w' v => code_1 v
  obtain ⟨ao, cp, rfl, -, -⟩ := hp
  have HTL : Hid (∀ W3 w4, W3 = ((w.alloc (.cells #[.int .i64 4, .int .i64 o.run, .int .i64 o.at_, .int .i64 o.n, .slice ao o.L.length cp] 30)).alloc (.cells #[.int .i64 0, .int .i64 0, .string (strB []), .slice none 0 0] 33)).alloc (.cells #[.int .i64 0, .int .i64 0, .string (strB []), .slice none 0 0] 33) → Below W3.heap.size W3 w4 → Tn w w4 E B) := fun W3 w4 hW hr => Tn.mk0 hW V hB hr
  unfold opV ansV
  simp only [hk]
  clear V hk HR ok
  go_enter Tryd.func12, Tryd.ntmps12
  go_wp2_with (first | (go_at_call 25; refine (unhide HOP _ (by (repeat (first | exact Below.refl _ _ | refine Below.drew ?_ | refine Below.alloc ?_ (by first | (simp; done) | (simp; omega)) _ | refine Below.setCell ?_ (by first | (simp; done) | (simp; omega)) _)))).mono ?_; rintro e w4 ⟨rfl, h4⟩; have htl := unhide HTL _ w4 rfl h4; obtain ⟨q0, q1, q2, q3, qf⟩ := ans_cells htl.b2; obtain ⟨p0, p1, p2, p3, pf⟩ := ans_cells htl.b1; have hz := htl.sz; have HT := hide htl; clear h4 htl) | (go_at_call 28; refine (unhide HCD _ ((unhide HT).env.below (by (repeat (first | refine Below.setCell ?_ (by simp; omega) _ | refine Below.drew ?_ | exact Below.refl _ _))))).mono ?_; rintro e w5 ⟨rfl, rfl⟩))
  refine gen_post ?_
  intro V2 hV
  have HRS : Hid (Below w.heap.size w V2) := by
    rw [hV]
    refine (unhide HT).res _ ?_
    (repeat (first | refine Chg.setCell ?_ (.inl (by constructor <;> (simp; try omega))) _ | refine Chg.alloc ?_ _ | refine Chg.drew ?_ | exact Chg.refl _ _))
  have v0 : V2.cell? ⟨w.heap.size + 1, 0, none⟩ = some (.int .i64 0) := by rw [hV]; go_simp
  have v1 : V2.cell? ⟨w.heap.size + 1, 1, none⟩ = some (.int .i64 1) := by rw [hV]; go_simp
  have v2 : V2.cell? ⟨w.heap.size + 1, 2, none⟩ = some (.string (strB [])) := by rw [hV]; go_simp
  have v3 : V2.cell? ⟨w.heap.size + 1, 3, none⟩ = some (.slice none 0 0) := by rw [hV]; go_simp
  clear hV p0 p1 p2 p3 q0 q1 q2 q3 pf qf
  exact bodyPost_ret (v := .agg #[.int .i64 0, .int .i64 1, .string (strB []), .slice none 0 0]) (by simp [results, Tryd.results12, go_sem, v0, v1, v2, v3]) rfl ⟨rfl, unhide HRS⟩
set_option maxRecDepth 100000 in
set_option maxHeartbeats 1000000 in
theorem playn_5 {w : World} {E : Nat → Addr} {B : Nat} {pv : Value} {o : Op5} (V : Env w E B) (hB : B ≤ w.heap.size) (ok : o.Ok) (hp : Strs w pv o.L) (hk : o.kd = 5) :
    Calls Tryd.prog 12 #[.pointer none, opV o pv] w fun e w' => e = .returned (ansV ⟨0, nilC o, [], []⟩ (.slice none 0 0)) ∧ Below w.heap.size w w' := by
  have _ := ok
  have HR : nilC o = 1 := by unfold nilC; rw [hk]; rfl
  rw [HR]
  have HOP : Hid (∀ W, Below w.heap.size w W → Calls Tryd.prog 26 #[.pointer none, .int .i64 o.run] W fun e w' => e = .returned (.tuple #[.int .i64 0, er E 1]) ∧ Below W.heap.size W w') := fun W hb => size_nil W o.run ((V.below (hb.mono hB)).g)
  have HCD : Hid (∀ w', Env w' E B → Calls Tryd.prog 28 #[er E 1] w' fun e w2 => e = .returned (.int .i64 1) ∧ w2 = w') := fun w' v => code_1 v
  obtain ⟨ao, cp, rfl, -, -⟩ := hp
  have HTL : Hid (∀ W3 w4, W3 = ((w.alloc (.cells #[.int .i64 5, .int .i64 o.run, .int .i64 o.at_, .int .i64 o.n, .slice ao o.L.length cp] 30)).alloc (.cells #[.int .i64 0, .int .i64 0, .string (strB []), .slice none 0 0] 33)).alloc (.cells #[.int .i64 0, .int .i64 0, .string (strB []), .slice none 0 0] 33) → Below W3.heap.size W3 w4 → Tn w w4 E B) := fun W3 w4 hW hr => Tn.mk0 hW V hB hr
  unfold opV ansV
  simp only [hk]
  clear V hk HR ok
  go_enter Tryd.func12, Tryd.ntmps12
  go_wp2_with (first | (go_at_call 26; refine (unhide HOP _ (by (repeat (first | exact Below.refl _ _ | refine Below.drew ?_ | refine Below.alloc ?_ (by first | (simp; done) | (simp; omega)) _ | refine Below.setCell ?_ (by first | (simp; done) | (simp; omega)) _)))).mono ?_; rintro e w4 ⟨rfl, h4⟩; have htl := unhide HTL _ w4 rfl h4; obtain ⟨q0, q1, q2, q3, qf⟩ := ans_cells htl.b2; obtain ⟨p0, p1, p2, p3, pf⟩ := ans_cells htl.b1; have hz := htl.sz; have HT := hide htl; clear h4 htl) | (go_at_call 28; refine (unhide HCD _ ((unhide HT).env.below (by (repeat (first | refine Below.setCell ?_ (by simp; omega) _ | refine Below.drew ?_ | exact Below.refl _ _))))).mono ?_; rintro e w5 ⟨rfl, rfl⟩))
  refine gen_post ?_
  intro V2 hV
  have HRS : Hid (Below w.heap.size w V2) := by
    rw [hV]
    refine (unhide HT).res _ ?_
    (repeat (first | refine Chg.setCell ?_ (.inl (by constructor <;> (simp; try omega))) _ | refine Chg.alloc ?_ _ | refine Chg.drew ?_ | exact Chg.refl _ _))
  have v0 : V2.cell? ⟨w.heap.size + 1, 0, none⟩ = some (.int .i64 0) := by rw [hV]; go_simp
  have v1 : V2.cell? ⟨w.heap.size + 1, 1, none⟩ = some (.int .i64 1) := by rw [hV]; go_simp
  have v2 : V2.cell? ⟨w.heap.size + 1, 2, none⟩ = some (.string (strB [])) := by rw [hV]; go_simp
  have v3 : V2.cell? ⟨w.heap.size + 1, 3, none⟩ = some (.slice none 0 0) := by rw [hV]; go_simp
  clear hV p0 p1 p2 p3 q0 q1 q2 q3 pf qf
  exact bodyPost_ret (v := .agg #[.int .i64 0, .int .i64 1, .string (strB []), .slice none 0 0]) (by simp [results, Tryd.results12, go_sem, v0, v1, v2, v3]) rfl ⟨rfl, unhide HRS⟩
set_option maxRecDepth 100000 in
set_option maxHeartbeats 1000000 in
theorem playn_6 {w : World} {E : Nat → Addr} {B : Nat} {pv : Value} {o : Op5} (V : Env w E B) (hB : B ≤ w.heap.size) (ok : o.Ok) (hp : Strs w pv o.L) (hk : o.kd = 6) :
    Calls Tryd.prog 12 #[.pointer none, opV o pv] w fun e w' => e = .returned (ansV ⟨0, nilC o, [], []⟩ (.slice none 0 0)) ∧ Below w.heap.size w w' := by
  have _ := ok
  have HR : nilC o = 1 := by unfold nilC; rw [hk]; rfl
  rw [HR]
  have HOP : Hid (∀ W, Below w.heap.size w W → Calls Tryd.prog 27 #[.pointer none, .int .i64 o.run] W fun e w' => e = .returned (er E 1) ∧ Below W.heap.size W w') := fun W hb => remove_nil W o.run ((V.below (hb.mono hB)).g)
  have HCD : Hid (∀ w', Env w' E B → Calls Tryd.prog 28 #[er E 1] w' fun e w2 => e = .returned (.int .i64 1) ∧ w2 = w') := fun w' v => code_1 v
  obtain ⟨ao, cp, rfl, -, -⟩ := hp
  have HTL : Hid (∀ W3 w4, W3 = ((w.alloc (.cells #[.int .i64 6, .int .i64 o.run, .int .i64 o.at_, .int .i64 o.n, .slice ao o.L.length cp] 30)).alloc (.cells #[.int .i64 0, .int .i64 0, .string (strB []), .slice none 0 0] 33)).alloc (.cells #[.int .i64 0, .int .i64 0, .string (strB []), .slice none 0 0] 33) → Below W3.heap.size W3 w4 → Tn w w4 E B) := fun W3 w4 hW hr => Tn.mk0 hW V hB hr
  unfold opV ansV
  simp only [hk]
  clear V hk HR ok
  go_enter Tryd.func12, Tryd.ntmps12
  go_wp2_with (first | (go_at_call 27; refine (unhide HOP _ (by (repeat (first | exact Below.refl _ _ | refine Below.drew ?_ | refine Below.alloc ?_ (by first | (simp; done) | (simp; omega)) _ | refine Below.setCell ?_ (by first | (simp; done) | (simp; omega)) _)))).mono ?_; rintro e w4 ⟨rfl, h4⟩; have htl := unhide HTL _ w4 rfl h4; obtain ⟨q0, q1, q2, q3, qf⟩ := ans_cells htl.b2; obtain ⟨p0, p1, p2, p3, pf⟩ := ans_cells htl.b1; have hz := htl.sz; have HT := hide htl; clear h4 htl) | (go_at_call 28; refine (unhide HCD _ ((unhide HT).env.below (by (repeat (first | refine Below.setCell ?_ (by simp; omega) _ | refine Below.drew ?_ | exact Below.refl _ _))))).mono ?_; rintro e w5 ⟨rfl, rfl⟩))
  refine gen_post ?_
  intro V2 hV
  have HRS : Hid (Below w.heap.size w V2) := by
    rw [hV]
    refine (unhide HT).res _ ?_
    (repeat (first | refine Chg.setCell ?_ (.inl (by constructor <;> (simp; try omega))) _ | refine Chg.alloc ?_ _ | refine Chg.drew ?_ | exact Chg.refl _ _))
  have v0 : V2.cell? ⟨w.heap.size + 1, 0, none⟩ = some (.int .i64 0) := by rw [hV]; go_simp
  have v1 : V2.cell? ⟨w.heap.size + 1, 1, none⟩ = some (.int .i64 1) := by rw [hV]; go_simp
  have v2 : V2.cell? ⟨w.heap.size + 1, 2, none⟩ = some (.string (strB [])) := by rw [hV]; go_simp
  have v3 : V2.cell? ⟨w.heap.size + 1, 3, none⟩ = some (.slice none 0 0) := by rw [hV]; go_simp
  clear hV p0 p1 p2 p3 q0 q1 q2 q3 pf qf
  exact bodyPost_ret (v := .agg #[.int .i64 0, .int .i64 1, .string (strB []), .slice none 0 0]) (by simp [results, Tryd.results12, go_sem, v0, v1, v2, v3]) rfl ⟨rfl, unhide HRS⟩
set_option maxRecDepth 100000 in
set_option maxHeartbeats 1000000 in
theorem playn_7 {w : World} {E : Nat → Addr} {B : Nat} {pv : Value} {o : Op5} (V : Env w E B) (hB : B ≤ w.heap.size) (ok : o.Ok) (hp : Strs w pv o.L) (hk : o.kd = 7) :
    Calls Tryd.prog 12 #[.pointer none, opV o pv] w fun e w' => e = .returned (ansV ⟨0, nilC o, [], []⟩ (.slice none 0 0)) ∧ Below w.heap.size w w' := by
  have _ := ok
  have HR : nilC o = 0 := by unfold nilC; rw [hk]; rfl
  rw [HR]
  have HOP : Hid (∀ W, Below w.heap.size w W → Calls Tryd.prog 18 #[.pointer none] W fun e w' => e = .returned (.slice none 0 0) ∧ Below W.heap.size W w') := fun W hb => (live_nil W).mono fun e w2 hh => ⟨hh.1, by rw [hh.2]; exact Below.refl _ _⟩
  have HCD : Hid (∀ w', Env w' E B → Calls Tryd.prog 28 #[.nilIface] w' fun e w2 => e = .returned (.int .i64 0) ∧ w2 = w') := fun w' v => code_0 w'
  obtain ⟨ao, cp, rfl, -, -⟩ := hp
  have HTL : Hid (∀ W3 w4, W3 = ((w.alloc (.cells #[.int .i64 7, .int .i64 o.run, .int .i64 o.at_, .int .i64 o.n, .slice ao o.L.length cp] 30)).alloc (.cells #[.int .i64 0, .int .i64 0, .string (strB []), .slice none 0 0] 33)).alloc (.cells #[.int .i64 0, .int .i64 0, .string (strB []), .slice none 0 0] 33) → Below W3.heap.size W3 w4 → Tn w w4 E B) := fun W3 w4 hW hr => Tn.mk0 hW V hB hr
  unfold opV ansV
  simp only [hk]
  clear V hk HR ok
  go_enter Tryd.func12, Tryd.ntmps12
  go_wp2_with (first | (go_at_call 18; refine (unhide HOP _ (by (repeat (first | exact Below.refl _ _ | refine Below.drew ?_ | refine Below.alloc ?_ (by first | (simp; done) | (simp; omega)) _ | refine Below.setCell ?_ (by first | (simp; done) | (simp; omega)) _)))).mono ?_; rintro e w4 ⟨rfl, h4⟩; have htl := unhide HTL _ w4 rfl h4; obtain ⟨q0, q1, q2, q3, qf⟩ := ans_cells htl.b2; obtain ⟨p0, p1, p2, p3, pf⟩ := ans_cells htl.b1; have hz := htl.sz; have HT := hide htl; clear h4 htl) | (go_at_call 28; refine (unhide HCD _ ((unhide HT).env.below (by (repeat (first | refine Below.setCell ?_ (by simp; omega) _ | refine Below.drew ?_ | exact Below.refl _ _))))).mono ?_; rintro e w5 ⟨rfl, rfl⟩))
  refine gen_post ?_
  intro V2 hV
  have HRS : Hid (Below w.heap.size w V2) := by
    rw [hV]
    refine (unhide HT).res _ ?_
    (repeat (first | refine Chg.setCell ?_ (.inl (by constructor <;> (simp; try omega))) _ | refine Chg.alloc ?_ _ | refine Chg.drew ?_ | exact Chg.refl _ _))
  have v0 : V2.cell? ⟨w.heap.size + 1, 0, none⟩ = some (.int .i64 0) := by rw [hV]; go_simp
  have v1 : V2.cell? ⟨w.heap.size + 1, 1, none⟩ = some (.int .i64 0) := by rw [hV]; go_simp
  have v2 : V2.cell? ⟨w.heap.size + 1, 2, none⟩ = some (.string (strB [])) := by rw [hV]; go_simp
  have v3 : V2.cell? ⟨w.heap.size + 1, 3, none⟩ = some (.slice none 0 0) := by rw [hV]; go_simp
  clear hV p0 p1 p2 p3 q0 q1 q2 q3 pf qf
  exact bodyPost_ret (v := .agg #[.int .i64 0, .int .i64 0, .string (strB []), .slice none 0 0]) (by simp [results, Tryd.results12, go_sem, v0, v1, v2, v3]) rfl ⟨rfl, unhide HRS⟩
set_option maxRecDepth 100000 in
set_option maxHeartbeats 1000000 in
theorem playn_8 {w : World} {E : Nat → Addr} {B : Nat} {pv : Value} {o : Op5} (V : Env w E B) (hB : B ≤ w.heap.size) (ok : o.Ok) (hp : Strs w pv o.L) (hk : o.kd = 8) :
    Calls Tryd.prog 12 #[.pointer none, opV o pv] w fun e w' => e = .returned (ansV ⟨0, nilC o, [], []⟩ (.slice none 0 0)) ∧ Below w.heap.size w w' := by
  have _ := ok
  have HR : nilC o = 0 := by unfold nilC; rw [hk]; rfl
  rw [HR]
  have HOP : Hid (∀ W, Below w.heap.size w W → Calls Tryd.prog 19 #[.pointer none] W fun e w' => e = .returned (.int .i64 0) ∧ Below W.heap.size W w') := fun W hb => (used_nil W).mono fun e w2 hh => ⟨hh.1, by rw [hh.2]; exact Below.refl _ _⟩
  have HCD : Hid (∀ w', Env w' E B → Calls Tryd.prog 28 #[.nilIface] w' fun e w2 => e = .returned (.int .i64 0) ∧ w2 = w') := fun w' v => code_0 w'
  obtain ⟨ao, cp, rfl, -, -⟩ := hp
  have HTL : Hid (∀ W3 w4, W3 = ((w.alloc (.cells #[.int .i64 8, .int .i64 o.run, .int .i64 o.at_, .int .i64 o.n, .slice ao o.L.length cp] 30)).alloc (.cells #[.int .i64 0, .int .i64 0, .string (strB []), .slice none 0 0] 33)).alloc (.cells #[.int .i64 0, .int .i64 0, .string (strB []), .slice none 0 0] 33) → Below W3.heap.size W3 w4 → Tn w w4 E B) := fun W3 w4 hW hr => Tn.mk0 hW V hB hr
  unfold opV ansV
  simp only [hk]
  clear V hk HR ok
  go_enter Tryd.func12, Tryd.ntmps12
  go_wp2_with (first | (go_at_call 19; refine (unhide HOP _ (by (repeat (first | exact Below.refl _ _ | refine Below.drew ?_ | refine Below.alloc ?_ (by first | (simp; done) | (simp; omega)) _ | refine Below.setCell ?_ (by first | (simp; done) | (simp; omega)) _)))).mono ?_; rintro e w4 ⟨rfl, h4⟩; have htl := unhide HTL _ w4 rfl h4; obtain ⟨q0, q1, q2, q3, qf⟩ := ans_cells htl.b2; obtain ⟨p0, p1, p2, p3, pf⟩ := ans_cells htl.b1; have hz := htl.sz; have HT := hide htl; clear h4 htl) | (go_at_call 28; refine (unhide HCD _ ((unhide HT).env.below (by (repeat (first | refine Below.setCell ?_ (by simp; omega) _ | refine Below.drew ?_ | exact Below.refl _ _))))).mono ?_; rintro e w5 ⟨rfl, rfl⟩))
  refine gen_post ?_
  intro V2 hV
  have HRS : Hid (Below w.heap.size w V2) := by
    rw [hV]
    refine (unhide HT).res _ ?_
    (repeat (first | refine Chg.setCell ?_ (.inl (by constructor <;> (simp; try omega))) _ | refine Chg.alloc ?_ _ | refine Chg.drew ?_ | exact Chg.refl _ _))
  have v0 : V2.cell? ⟨w.heap.size + 1, 0, none⟩ = some (.int .i64 0) := by rw [hV]; go_simp
  have v1 : V2.cell? ⟨w.heap.size + 1, 1, none⟩ = some (.int .i64 0) := by rw [hV]; go_simp
  have v2 : V2.cell? ⟨w.heap.size + 1, 2, none⟩ = some (.string (strB [])) := by rw [hV]; go_simp
  have v3 : V2.cell? ⟨w.heap.size + 1, 3, none⟩ = some (.slice none 0 0) := by rw [hV]; go_simp
  clear hV p0 p1 p2 p3 q0 q1 q2 q3 pf qf
  exact bodyPost_ret (v := .agg #[.int .i64 0, .int .i64 0, .string (strB []), .slice none 0 0]) (by simp [results, Tryd.results12, go_sem, v0, v1, v2, v3]) rfl ⟨rfl, unhide HRS⟩
set_option maxRecDepth 100000 in
set_option maxHeartbeats 1000000 in
theorem playn_9 {w : World} {E : Nat → Addr} {B : Nat} {pv : Value} {o : Op5} (V : Env w E B) (hB : B ≤ w.heap.size) (ok : o.Ok) (hp : Strs w pv o.L) (hk : o.kd = 9) :
    Calls Tryd.prog 12 #[.pointer none, opV o pv] w fun e w' => e = .returned (ansV ⟨0, nilC o, [], []⟩ (.slice none 0 0)) ∧ Below w.heap.size w w' := by
  have _ := ok
  have HR : nilC o = 0 := by unfold nilC; rw [hk]; rfl
  rw [HR]
  have HOP : Hid (∀ W, Below w.heap.size w W → Calls Tryd.prog 20 #[.pointer none] W fun e w' => e = .returned (.int .i64 0) ∧ Below W.heap.size W w') := fun W hb => (peak_nil W).mono fun e w2 hh => ⟨hh.1, by rw [hh.2]; exact Below.refl _ _⟩
  have HCD : Hid (∀ w', Env w' E B → Calls Tryd.prog 28 #[.nilIface] w' fun e w2 => e = .returned (.int .i64 0) ∧ w2 = w') := fun w' v => code_0 w'
  obtain ⟨ao, cp, rfl, -, -⟩ := hp
  have HTL : Hid (∀ W3 w4, W3 = ((w.alloc (.cells #[.int .i64 9, .int .i64 o.run, .int .i64 o.at_, .int .i64 o.n, .slice ao o.L.length cp] 30)).alloc (.cells #[.int .i64 0, .int .i64 0, .string (strB []), .slice none 0 0] 33)).alloc (.cells #[.int .i64 0, .int .i64 0, .string (strB []), .slice none 0 0] 33) → Below W3.heap.size W3 w4 → Tn w w4 E B) := fun W3 w4 hW hr => Tn.mk0 hW V hB hr
  unfold opV ansV
  simp only [hk]
  clear V hk HR ok
  go_enter Tryd.func12, Tryd.ntmps12
  go_wp2_with (first | (go_at_call 20; refine (unhide HOP _ (by (repeat (first | exact Below.refl _ _ | refine Below.drew ?_ | refine Below.alloc ?_ (by first | (simp; done) | (simp; omega)) _ | refine Below.setCell ?_ (by first | (simp; done) | (simp; omega)) _)))).mono ?_; rintro e w4 ⟨rfl, h4⟩; have htl := unhide HTL _ w4 rfl h4; obtain ⟨q0, q1, q2, q3, qf⟩ := ans_cells htl.b2; obtain ⟨p0, p1, p2, p3, pf⟩ := ans_cells htl.b1; have hz := htl.sz; have HT := hide htl; clear h4 htl) | (go_at_call 28; refine (unhide HCD _ ((unhide HT).env.below (by (repeat (first | refine Below.setCell ?_ (by simp; omega) _ | refine Below.drew ?_ | exact Below.refl _ _))))).mono ?_; rintro e w5 ⟨rfl, rfl⟩))
  refine gen_post ?_
  intro V2 hV
  have HRS : Hid (Below w.heap.size w V2) := by
    rw [hV]
    refine (unhide HT).res _ ?_
    (repeat (first | refine Chg.setCell ?_ (.inl (by constructor <;> (simp; try omega))) _ | refine Chg.alloc ?_ _ | refine Chg.drew ?_ | exact Chg.refl _ _))
  have v0 : V2.cell? ⟨w.heap.size + 1, 0, none⟩ = some (.int .i64 0) := by rw [hV]; go_simp
  have v1 : V2.cell? ⟨w.heap.size + 1, 1, none⟩ = some (.int .i64 0) := by rw [hV]; go_simp
  have v2 : V2.cell? ⟨w.heap.size + 1, 2, none⟩ = some (.string (strB [])) := by rw [hV]; go_simp
  have v3 : V2.cell? ⟨w.heap.size + 1, 3, none⟩ = some (.slice none 0 0) := by rw [hV]; go_simp
  clear hV p0 p1 p2 p3 q0 q1 q2 q3 pf qf
  exact bodyPost_ret (v := .agg #[.int .i64 0, .int .i64 0, .string (strB []), .slice none 0 0]) (by simp [results, Tryd.results12, go_sem, v0, v1, v2, v3]) rfl ⟨rfl, unhide HRS⟩
set_option maxRecDepth 100000 in
set_option maxHeartbeats 1000000 in
theorem playn_10 {w : World} {E : Nat → Addr} {B : Nat} {pv : Value} {o : Op5} (V : Env w E B) (hB : B ≤ w.heap.size) (ok : o.Ok) (hp : Strs w pv o.L) (hk : o.kd = 10) :
    Calls Tryd.prog 12 #[.pointer none, opV o pv] w fun e w' => e = .returned (ansV ⟨0, nilC o, [], []⟩ (.slice none 0 0)) ∧ Below w.heap.size w w' := by
  have _ := ok
  have HR : nilC o = 0 := by unfold nilC; rw [hk]; rfl
  rw [HR]
  have HOP : Hid (∀ W, Below w.heap.size w W → Calls Tryd.prog 15 #[.pointer none] W fun e w' => e = .returned (.int .i64 0) ∧ Below W.heap.size W w') := fun W hb => (made_nil W).mono fun e w2 hh => ⟨hh.1, by rw [hh.2]; exact Below.refl _ _⟩
  have HCD : Hid (∀ w', Env w' E B → Calls Tryd.prog 28 #[.nilIface] w' fun e w2 => e = .returned (.int .i64 0) ∧ w2 = w') := fun w' v => code_0 w'
  obtain ⟨ao, cp, rfl, -, -⟩ := hp
  have HTL : Hid (∀ W3 w4, W3 = ((w.alloc (.cells #[.int .i64 10, .int .i64 o.run, .int .i64 o.at_, .int .i64 o.n, .slice ao o.L.length cp] 30)).alloc (.cells #[.int .i64 0, .int .i64 0, .string (strB []), .slice none 0 0] 33)).alloc (.cells #[.int .i64 0, .int .i64 0, .string (strB []), .slice none 0 0] 33) → Below W3.heap.size W3 w4 → Tn w w4 E B) := fun W3 w4 hW hr => Tn.mk0 hW V hB hr
  unfold opV ansV
  simp only [hk]
  clear V hk HR ok
  go_enter Tryd.func12, Tryd.ntmps12
  go_wp2_with (first | (go_at_call 15; refine (unhide HOP _ (by (repeat (first | exact Below.refl _ _ | refine Below.drew ?_ | refine Below.alloc ?_ (by first | (simp; done) | (simp; omega)) _ | refine Below.setCell ?_ (by first | (simp; done) | (simp; omega)) _)))).mono ?_; rintro e w4 ⟨rfl, h4⟩; have htl := unhide HTL _ w4 rfl h4; obtain ⟨q0, q1, q2, q3, qf⟩ := ans_cells htl.b2; obtain ⟨p0, p1, p2, p3, pf⟩ := ans_cells htl.b1; have hz := htl.sz; have HT := hide htl; clear h4 htl) | (go_at_call 28; refine (unhide HCD _ ((unhide HT).env.below (by (repeat (first | refine Below.setCell ?_ (by simp; omega) _ | refine Below.drew ?_ | exact Below.refl _ _))))).mono ?_; rintro e w5 ⟨rfl, rfl⟩))
  refine gen_post ?_
  intro V2 hV
  have HRS : Hid (Below w.heap.size w V2) := by
    rw [hV]
    refine (unhide HT).res _ ?_
    (repeat (first | refine Chg.setCell ?_ (.inl (by constructor <;> (simp; try omega))) _ | refine Chg.alloc ?_ _ | refine Chg.drew ?_ | exact Chg.refl _ _))
  have v0 : V2.cell? ⟨w.heap.size + 1, 0, none⟩ = some (.int .i64 0) := by rw [hV]; go_simp
  have v1 : V2.cell? ⟨w.heap.size + 1, 1, none⟩ = some (.int .i64 0) := by rw [hV]; go_simp
  have v2 : V2.cell? ⟨w.heap.size + 1, 2, none⟩ = some (.string (strB [])) := by rw [hV]; go_simp
  have v3 : V2.cell? ⟨w.heap.size + 1, 3, none⟩ = some (.slice none 0 0) := by rw [hV]; go_simp
  clear hV p0 p1 p2 p3 q0 q1 q2 q3 pf qf
  exact bodyPost_ret (v := .agg #[.int .i64 0, .int .i64 0, .string (strB []), .slice none 0 0]) (by simp [results, Tryd.results12, go_sem, v0, v1, v2, v3]) rfl ⟨rfl, unhide HRS⟩
set_option maxRecDepth 100000 in
set_option maxHeartbeats 1000000 in
theorem playn_11 {w : World} {E : Nat → Addr} {B : Nat} {pv : Value} {o : Op5} (V : Env w E B) (hB : B ≤ w.heap.size) (ok : o.Ok) (hp : Strs w pv o.L) (hk : o.kd = 11) :
    Calls Tryd.prog 12 #[.pointer none, opV o pv] w fun e w' => e = .returned (ansV ⟨0, nilC o, [], []⟩ (.slice none 0 0)) ∧ Below w.heap.size w w' := by
  have _ := ok
  have HR : nilC o = 0 := by unfold nilC; rw [hk]; rfl
  rw [HR]
  have HOP : Hid (∀ W, Below w.heap.size w W → Calls Tryd.prog 21 #[.pointer none, .int .i64 o.n] W fun e w' => e = .returned (.tuple #[]) ∧ Below W.heap.size W w') := fun W hb => (break_nil W o.n).mono fun e w2 hh => ⟨hh.1, by rw [hh.2]; exact Below.refl _ _⟩
  have HCD : Hid (∀ w', Env w' E B → Calls Tryd.prog 28 #[.nilIface] w' fun e w2 => e = .returned (.int .i64 0) ∧ w2 = w') := fun w' v => code_0 w'
  obtain ⟨ao, cp, rfl, -, -⟩ := hp
  have HTL : Hid (∀ W3 w4, W3 = ((w.alloc (.cells #[.int .i64 11, .int .i64 o.run, .int .i64 o.at_, .int .i64 o.n, .slice ao o.L.length cp] 30)).alloc (.cells #[.int .i64 0, .int .i64 0, .string (strB []), .slice none 0 0] 33)).alloc (.cells #[.int .i64 0, .int .i64 0, .string (strB []), .slice none 0 0] 33) → Below W3.heap.size W3 w4 → Tn w w4 E B) := fun W3 w4 hW hr => Tn.mk0 hW V hB hr
  unfold opV ansV
  simp only [hk]
  clear V hk HR ok
  go_enter Tryd.func12, Tryd.ntmps12
  go_wp2_with (first | (go_at_call 21; refine (unhide HOP _ (by (repeat (first | exact Below.refl _ _ | refine Below.drew ?_ | refine Below.alloc ?_ (by first | (simp; done) | (simp; omega)) _ | refine Below.setCell ?_ (by first | (simp; done) | (simp; omega)) _)))).mono ?_; rintro e w4 ⟨rfl, h4⟩; have htl := unhide HTL _ w4 rfl h4; obtain ⟨q0, q1, q2, q3, qf⟩ := ans_cells htl.b2; obtain ⟨p0, p1, p2, p3, pf⟩ := ans_cells htl.b1; have hz := htl.sz; have HT := hide htl; clear h4 htl) | (go_at_call 28; refine (unhide HCD _ ((unhide HT).env.below (by (repeat (first | refine Below.setCell ?_ (by simp; omega) _ | refine Below.drew ?_ | exact Below.refl _ _))))).mono ?_; rintro e w5 ⟨rfl, rfl⟩))
  refine gen_post ?_
  intro V2 hV
  have HRS : Hid (Below w.heap.size w V2) := by
    rw [hV]
    refine (unhide HT).res _ ?_
    (repeat (first | refine Chg.setCell ?_ (.inl (by constructor <;> (simp; try omega))) _ | refine Chg.alloc ?_ _ | refine Chg.drew ?_ | exact Chg.refl _ _))
  have v0 : V2.cell? ⟨w.heap.size + 1, 0, none⟩ = some (.int .i64 0) := by rw [hV]; go_simp
  have v1 : V2.cell? ⟨w.heap.size + 1, 1, none⟩ = some (.int .i64 0) := by rw [hV]; go_simp
  have v2 : V2.cell? ⟨w.heap.size + 1, 2, none⟩ = some (.string (strB [])) := by rw [hV]; go_simp
  have v3 : V2.cell? ⟨w.heap.size + 1, 3, none⟩ = some (.slice none 0 0) := by rw [hV]; go_simp
  clear hV p0 p1 p2 p3 q0 q1 q2 q3 pf qf
  exact bodyPost_ret (v := .agg #[.int .i64 0, .int .i64 0, .string (strB []), .slice none 0 0]) (by simp [results, Tryd.results12, go_sem, v0, v1, v2, v3]) rfl ⟨rfl, unhide HRS⟩
set_option maxRecDepth 100000 in
set_option maxHeartbeats 1000000 in
theorem playn_x {w : World} {E : Nat → Addr} {B : Nat} {pv : Value} {o : Op5} (V : Env w E B) (hB : B ≤ w.heap.size) (ok : o.Ok) (hp : Strs w pv o.L) (h1 : ¬ o.kd = 1) (h2 : ¬ o.kd = 2) (h3 : ¬ o.kd = 3) (h4 : ¬ o.kd = 4) (h5 : ¬ o.kd = 5) (h6 : ¬ o.kd = 6) (h7 : ¬ o.kd = 7) (h8 : ¬ o.kd = 8) (h9 : ¬ o.kd = 9) (h10 : ¬ o.kd = 10) (h11 : ¬ o.kd = 11) :
    Calls Tryd.prog 12 #[.pointer none, opV o pv] w fun e w' => e = .returned (ansV ⟨0, nilC o, [], []⟩ (.slice none 0 0)) ∧ Below w.heap.size w w' := by
  have _ := ok
  have HR : nilC o = 0 := by unfold nilC; rw [if_neg (by omega)]
  rw [HR]
  obtain ⟨ao, cp, rfl, -, -⟩ := hp
  have HTL : Hid (∀ W3 w4, W3 = ((w.alloc (.cells #[.int .i64 o.kd, .int .i64 o.run, .int .i64 o.at_, .int .i64 o.n, .slice ao o.L.length cp] 30)).alloc (.cells #[.int .i64 0, .int .i64 0, .string (strB []), .slice none 0 0] 33)).alloc (.cells #[.int .i64 0, .int .i64 0, .string (strB []), .slice none 0 0] 33) → Below W3.heap.size W3 w4 → Tn w w4 E B) := fun W3 w4 hW hr => Tn.mk0 hW V hB hr
  have HCX : Hid (∀ W3, W3 = ((w.alloc (.cells #[.int .i64 o.kd, .int .i64 o.run, .int .i64 o.at_, .int .i64 o.n, .slice ao o.L.length cp] 30)).alloc (.cells #[.int .i64 0, .int .i64 0, .string (strB []), .slice none 0 0] 33)).alloc (.cells #[.int .i64 0, .int .i64 0, .string (strB []), .slice none 0 0] 33) → Calls Tryd.prog 28 #[.nilIface] W3 fun e w2 => e = .returned (.int .i64 0) ∧ Tn w w2 E B) := fun W3 hW => (code_0 W3).mono fun e w2 hh => ⟨hh.1, by
    rw [hh.2]
    exact unhide HTL W3 W3 hW (Below.refl _ _)⟩
  unfold opV ansV
  generalize o.kd = kd at *
  clear V HR ok
  go_enter Tryd.func12, Tryd.ntmps12
  go_wp2_with (go_at_call 28; refine (unhide HCX _ rfl).mono ?_; rintro e w4 ⟨rfl, htl⟩; obtain ⟨q0, q1, q2, q3, qf⟩ := ans_cells htl.b2; obtain ⟨p0, p1, p2, p3, pf⟩ := ans_cells htl.b1; have hz := htl.sz; have HT := hide htl; clear htl)
  refine gen_post ?_
  intro V2 hV
  have HRS : Hid (Below w.heap.size w V2) := by
    rw [hV]
    refine (unhide HT).res _ ?_
    (repeat (first | refine Chg.setCell ?_ (.inl (by constructor <;> (simp; try omega))) _ | refine Chg.alloc ?_ _ | refine Chg.drew ?_ | exact Chg.refl _ _))
  have v0 : V2.cell? ⟨w.heap.size + 1, 0, none⟩ = some (.int .i64 0) := by rw [hV]; go_simp
  have v1 : V2.cell? ⟨w.heap.size + 1, 1, none⟩ = some (.int .i64 0) := by rw [hV]; go_simp
  have v2 : V2.cell? ⟨w.heap.size + 1, 2, none⟩ = some (.string (strB [])) := by rw [hV]; go_simp
  have v3 : V2.cell? ⟨w.heap.size + 1, 3, none⟩ = some (.slice none 0 0) := by rw [hV]; go_simp
  clear hV p0 p1 p2 p3 q0 q1 q2 q3 pf qf
  exact bodyPost_ret (v := .agg #[.int .i64 0, .int .i64 0, .string (strB []), .slice none 0 0]) (by simp [results, Tryd.results12, go_sem, v0, v1, v2, v3]) rfl ⟨rfl, unhide HRS⟩
set_option maxRecDepth 100000 in
set_option maxHeartbeats 1000000 in
theorem playn_2 {w : World} {E : Nat → Addr} {B : Nat} {pv : Value} {o : Op5} (V : Env w E B) (hB : B ≤ w.heap.size) (ok : o.Ok) (hp : Strs w pv o.L) (hk : o.kd = 2) :
    Calls Tryd.prog 12 #[.pointer none, opV o pv] w fun e w' => e = .returned (ansV ⟨0, nilC o, [], []⟩ (.slice none 0 0)) ∧ Below w.heap.size w w' := by
  have HR : nilC o = 1 := by unfold nilC; rw [hk]; rfl
  rw [HR]
  have HOP : Hid (∀ W v, Below w.heap.size w W → Calls Tryd.prog 23 #[.pointer none, .int .i64 o.run, v] W fun e w' => e = .returned (er E 1) ∧ Below W.heap.size W w') := fun W v hb => append_nil W o.run v ((V.below (hb.mono hB)).g)
  have HCD : Hid (∀ w', Env w' E B → Calls Tryd.prog 28 #[er E 1] w' fun e w2 => e = .returned (.int .i64 1) ∧ w2 = w') := fun w' v => code_1 v
  have HSP := hide hp
  have HLL := hide ok.len
  obtain ⟨ao, cp, rfl, -, -⟩ := hp
  have HTL : Hid (∀ W3 w4, W3 = ((w.alloc (.cells #[.int .i64 2, .int .i64 o.run, .int .i64 o.at_, .int .i64 o.n, .slice ao o.L.length cp] 30)).alloc (.cells #[.int .i64 0, .int .i64 0, .string (strB []), .slice none 0 0] 33)).alloc (.cells #[.int .i64 0, .int .i64 0, .string (strB []), .slice none 0 0] 33) → Below W3.heap.size W3 w4 → Tn w w4 E B) := fun W3 w4 hW hr => Tn.mk0 hW V hB hr
  unfold opV ansV
  simp only [hk]
  clear V hk HR ok
  go_enter Tryd.func12, Tryd.ntmps12
  go_wp2
  refine gen_world ?_
  intro V hV
  have hbw : Below w.heap.size w V := by rw [hV]; (repeat (first | exact Below.refl _ _ | refine Below.drew ?_ | refine Below.alloc ?_ (by first | (simp; done) | (simp; omega)) _ | refine Below.setCell ?_ (by first | (simp; done) | (simp; omega)) _))
  have hst : Strs V.drew (.slice ao o.L.length cp) o.L := (unhide HSP).below hbw.drew
  obtain ⟨v', V', hap, hbV, hstr, hgs, a', c', rfl⟩ := copy_run hst (unhide HLL) 28
  have k1 : V.cell? ⟨w.heap.size, 1, none⟩ = some (.int .i64 o.run) := by rw [hV]; go_simp
  have k4 : V.cell? ⟨w.heap.size, 4, none⟩ = some (.slice ao o.L.length cp) := by rw [hV]; go_simp
  have hVs : w.heap.size < V.heap.size := by rw [hV]; simp; omega
  have j1 : V'.cell? ⟨w.heap.size, 1, none⟩ = some (.int .i64 o.run) := (hbV.cell (p := ⟨w.heap.size, 1, none⟩) hVs).trans k1
  have j4 : V'.cell? ⟨w.heap.size, 4, none⟩ = some (.slice ao o.L.length cp) := (hbV.cell (p := ⟨w.heap.size, 4, none⟩) hVs).trans k4
  have HOV := hide (unhide HOP V' (.slice a' o.L.length c') ((hbw.drew).trans (hbV.mono (by show w.heap.size ≤ V.heap.size; omega))))
  have HTV : Hid (∀ w4, Below V'.heap.size V' w4 → Tn w w4 E B) := fun w4 h4 => unhide HTL V w4 hV ((((Below.refl _ V).drew).trans hbV).trans (h4.mono hbV.size))
  have HKP : Hid (∀ w4, Below V'.heap.size V' w4 → w4.cell? ⟨w.heap.size, 1, none⟩ = some (.int .i64 o.run) ∧ w4.cell? ⟨w.heap.size, 4, none⟩ = some (.slice ao o.L.length cp)) := fun w4 h4 => by
    have l : w.heap.size < V'.heap.size := Nat.lt_of_lt_of_le hVs hbV.size
    exact ⟨(h4.cell (p := ⟨w.heap.size, 1, none⟩) l).trans j1, (h4.cell (p := ⟨w.heap.size, 4, none⟩) l).trans j4⟩
  have HAP : Hid ((Builtin.append_ #[28, 28] 28 #[.slice none 0 0, .slice ao o.L.length cp]).run Tryd.prog V.drew = .ok (.slice a' o.L.length c') V') := hap
  generalize o.L.length = N at *
  clear hap hV hbw hst hbV hstr hgs hVs HOP HTL HSP
  go_region_held3 (fun w' => w'.cell? ⟨w.heap.size, 1, none⟩ = some (.int .i64 o.run) ∧ w'.cell? ⟨w.heap.size, 4, none⟩ = some (.slice ao N cp)) (first | exact ⟨i1, i4⟩ | exact ⟨j1, j4⟩ | exact ⟨k1, k4⟩) (first | (go_at_call 23; refine (unhide HOV).mono ?_; rintro e w4 ⟨rfl, h4⟩; have HT := hide (unhide HTV w4 h4); have i1 := (unhide HKP w4 h4).1; have i4 := (unhide HKP w4 h4).2; clear h4) | (refine step_app (by rfl) _ _ _ (by rfl) _ _ _ _ (by rfl) (by rfl) (by exact unhide HAP) ?_))
  all_goals
    clear HAP HOV HTV HKP k1 k4 j1 j4 i1 i4
    obtain ⟨q0, q1, q2, q3, qf⟩ := ans_cells (unhide HT).b2
    obtain ⟨p0, p1, p2, p3, pf⟩ := ans_cells (unhide HT).b1
    have hz := (unhide HT).sz
    go_wp2_with (go_at_call 28; refine (unhide HCD _ ((unhide HT).env.below (by (repeat (first | refine Below.setCell ?_ (by simp; omega) _ | refine Below.drew ?_ | exact Below.refl _ _))))).mono ?_; rintro e w5 ⟨rfl, rfl⟩)
    refine gen_post ?_
    intro V2 hV
    have HRS : Hid (Below w.heap.size w V2) := by
      rw [hV]
      refine (unhide HT).res _ ?_
      (repeat (first | refine Chg.setCell ?_ (.inl (by constructor <;> (simp; try omega))) _ | refine Chg.alloc ?_ _ | refine Chg.drew ?_ | exact Chg.refl _ _))
    have v0 : V2.cell? ⟨w.heap.size + 1, 0, none⟩ = some (.int .i64 0) := by rw [hV]; go_simp
    have v1 : V2.cell? ⟨w.heap.size + 1, 1, none⟩ = some (.int .i64 1) := by rw [hV]; go_simp
    have v2 : V2.cell? ⟨w.heap.size + 1, 2, none⟩ = some (.string (strB [])) := by rw [hV]; go_simp
    have v3 : V2.cell? ⟨w.heap.size + 1, 3, none⟩ = some (.slice none 0 0) := by rw [hV]; go_simp
    clear hV p0 p1 p2 p3 q0 q1 q2 q3 pf qf
    exact bodyPost_ret (v := .agg #[.int .i64 0, .int .i64 1, .string (strB []), .slice none 0 0]) (by simp [results, Tryd.results12, go_sem, v0, v1, v2, v3]) rfl ⟨rfl, unhide HRS⟩
theorem playn_any {w : World} {E : Nat → Addr} {B : Nat} {pv : Value} {o : Op5} (V : Env w E B) (hB : B ≤ w.heap.size) (ok : o.Ok) (hp : Strs w pv o.L) :
    Calls Tryd.prog 12 #[.pointer none, opV o pv] w fun e w' => e = .returned (ansV ⟨0, nilC o, [], []⟩ (.slice none 0 0)) ∧ Below w.heap.size w w' := by
  by_cases h1 : o.kd = 1
  · exact playn_1 V hB ok hp h1
  by_cases h2 : o.kd = 2
  · exact playn_2 V hB ok hp h2
  by_cases h3 : o.kd = 3
  · exact playn_3 V hB ok hp h3
  by_cases h4 : o.kd = 4
  · exact playn_4 V hB ok hp h4
  by_cases h5 : o.kd = 5
  · exact playn_5 V hB ok hp h5
  by_cases h6 : o.kd = 6
  · exact playn_6 V hB ok hp h6
  by_cases h7 : o.kd = 7
  · exact playn_7 V hB ok hp h7
  by_cases h8 : o.kd = 8
  · exact playn_8 V hB ok hp h8
  by_cases h9 : o.kd = 9
  · exact playn_9 V hB ok hp h9
  by_cases h10 : o.kd = 10
  · exact playn_10 V hB ok hp h10
  by_cases h11 : o.kd = 11
  · exact playn_11 V hB ok hp h11
  exact playn_x V hB ok hp h1 h2 h3 h4 h5 h6 h7 h8 h9 h10 h11
theorem plays_any {w : World} {sb : Nat} {m : Sto} {F : Nat → Prop} {E : Nat → Addr} {B : Nat} {pv : Value} {o : Op5} (h : At w sb m F) (V : Env w E B) (hF : ∀ b, F b → B ≤ b) (hB : B ≤ w.heap.size) (ok : o.Ok) (hp : Strs w pv o.L) (hpo : ∀ g off n c, pv = .slice (some ⟨g, off, none⟩) n c → ¬ F g) :
    Calls Tryd.prog 12 #[.pointer (some ⟨sb, 0, none⟩), opV o pv] w fun e w' => ∃ lv, e = .returned (ansV (ply m o).1 lv) ∧ Res F w sb (ply m o).2 w' ∧ Ints w' lv (ply m o).1.l := by
  by_cases h1 : o.kd = 1
  · exact plays_1 h V hF hB ok hp h1
  by_cases h2 : o.kd = 2
  · exact plays_2 h V hF hB ok hp h2 hpo
  by_cases h3 : o.kd = 3
  · exact plays_3 h V hF hB ok hp h3
  by_cases h4 : o.kd = 4
  · exact plays_4 h V hF hB ok hp h4
  by_cases h5 : o.kd = 5
  · exact plays_5 h V hF hB ok hp h5
  by_cases h6 : o.kd = 6
  · exact plays_6 h V hF hB ok hp h6
  by_cases h7 : o.kd = 7
  · exact plays_7 h V hF hB ok hp h7
  by_cases h8 : o.kd = 8
  · exact plays_8 h V hF hB ok hp h8
  by_cases h9 : o.kd = 9
  · exact plays_9 h V hF hB ok hp h9
  by_cases h10 : o.kd = 10
  · exact plays_10 h V hF hB ok hp h10
  by_cases h11 : o.kd = 11
  · exact plays_11 h V hF hB ok hp h11
  exact plays_x h V hF hB ok hp h1 h2 h3 h4 h5 h6 h7 h8 h9 h10 h11
end Rs
end Go.Proofs.YtgmgnhkphlegpaaDoor
