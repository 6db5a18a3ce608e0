/- Layer 5: plays of a store. -/
import Derived.Test.YtdlmpogmoepkjaaDoorPlB
namespace Go.Proofs.YtdlmpogmoepkjaaDoor
open Go.RowKit
namespace Rs
theorem gen_post {P : Program} {f : Func} {R : Ending → World → Prop} {e : Exit} {a : Act} {W : World} (h : ∀ V, V = W → bodyPost P f R e a V) : bodyPost P f R e a W := h W rfl
set_option maxRecDepth 100000 in
set_option maxHeartbeats 1000000 in
theorem plays_1 {w : World} {sb : Nat} {m : Sto} {F : Nat → Prop} {E : Nat → Addr} {B : Nat} {pv : Value} {o : Op5} (h : At w sb m F) (V : Env w E B) (hF : ∀ b, F b → B ≤ b) (hB : B ≤ w.heap.size) (ok : o.Ok) (hp : Strs w pv o.L) (hk : o.kd = 1) :
    Calls Tryd.prog 9 #[.pointer (some ⟨sb, 0, none⟩), opV o pv] w fun e w' => ∃ lv, e = .returned (ansV (ply m o).1 lv) ∧ Res F w sb (ply m o).2 w' ∧ Ints w' lv (ply m o).1.l := by
  have _ := ok
  have HR : ply m o = (⟨(crt m).1.1, (crt m).1.2, [], []⟩, (crt m).2) := by unfold ply; rw [if_pos hk]
  rw [HR]
  have HOP : Hid (∀ W, Below w.heap.size w W → Calls Tryd.prog 17 #[.pointer (some ⟨sb, 0, none⟩)] W fun e w' => e = .returned (.tuple #[.int .i64 (crt m).1.1, (errV E ((crt m).1.2))]) ∧ Res F W sb ((crt m).2) w') := fun W hb => create_any (at_below h hb) ((V.below (hb.mono hB)).gs hF)
  have HCD : Hid (∀ w', Env w' E B → Calls Tryd.prog 24 #[(errV E ((crt m).1.2))] w' fun e w2 => e = .returned (.int .i64 (((crt m).1.2 : Nat) : Int)) ∧ w2 = w') := fun w' v => code_any v (crt_code m)
  obtain ⟨ao, cp, rfl, -, -⟩ := hp
  have HTL : Hid (∀ W3 w4, W3 = ((w.alloc (.cells #[.int .i64 1, .int .i64 o.run, .int .i64 o.at_, .int .i64 o.n, .slice ao o.L.length cp] 30)).alloc (.cells #[.int .i64 0, .int .i64 0, .string (strB []), .slice none 0 0] 33)).alloc (.cells #[.int .i64 0, .int .i64 0, .string (strB []), .slice none 0 0] 33) → Res F W3 sb ((crt m).2) w4 → Tl w w4 E B F sb ((crt m).2)) := fun W3 w4 hW hr => Tl.mk0 hW V hB hF h.lt hr
  unfold opV ansV
  simp only [hk]
  generalize (crt m).1.1 = n1 at *
  generalize errV E ((crt m).1.2) = ev at *
  generalize (crt m).1.2 = c1 at *
  generalize (crt m).2 = m2 at *
  clear h V hF hk HR ok
  go_enter Tryd.func9, Tryd.ntmps9
  go_wp2_with (first | (go_at_call 17; refine (unhide HOP _ (by (repeat (first | exact Below.refl _ _ | refine Below.drew ?_ | refine Below.alloc ?_ (by first | (simp; done) | (simp; omega)) _ | refine Below.setCell ?_ (by first | (simp; done) | (simp; omega)) _)))).mono ?_; rintro e w4 ⟨rfl, h4⟩; have htl := unhide HTL _ w4 rfl h4; obtain ⟨q0, q1, q2, q3, qf⟩ := ans_cells htl.b2; obtain ⟨p0, p1, p2, p3, pf⟩ := ans_cells htl.b1; have hz := htl.sz; have HT := hide htl; clear h4 htl) | (go_at_call 24; refine (unhide HCD _ ((unhide HT).env.below (by (repeat (first | refine Below.setCell ?_ (by simp; omega) _ | refine Below.drew ?_ | exact Below.refl _ _))))).mono ?_; rintro e w5 ⟨rfl, rfl⟩))
  refine gen_post ?_
  intro V hV
  have HRS : Hid (Res F w sb m2 V) := by
    rw [hV]
    refine (unhide HT).res _ ?_
    (repeat (first | refine Chg.setCell ?_ (.inl (by constructor <;> (simp; try omega))) _ | refine Chg.alloc ?_ _ | refine Chg.drew ?_ | exact Chg.refl _ _))
  have v0 : V.cell? ⟨w.heap.size + 1, 0, none⟩ = some (.int .i64 n1) := by rw [hV]; go_simp
  have v1 : V.cell? ⟨w.heap.size + 1, 1, none⟩ = some (.int .i64 ((c1 : Nat) : Int)) := by rw [hV]; go_simp
  have v2 : V.cell? ⟨w.heap.size + 1, 2, none⟩ = some (.string (strB [])) := by rw [hV]; go_simp
  have v3 : V.cell? ⟨w.heap.size + 1, 3, none⟩ = some (.slice none 0 0) := by rw [hV]; go_simp
  clear hV p0 p1 p2 p3 q0 q1 q2 q3 pf qf
  exact bodyPost_ret (v := .agg #[.int .i64 n1, .int .i64 ((c1 : Nat) : Int), .string (strB []), .slice none 0 0]) (by simp [results, Tryd.results9, go_sem, v0, v1, v2, v3]) rfl ⟨.slice none 0 0, rfl, unhide HRS, ints_nil _⟩
set_option maxRecDepth 100000 in
set_option maxHeartbeats 1000000 in
theorem plays_3 {w : World} {sb : Nat} {m : Sto} {F : Nat → Prop} {E : Nat → Addr} {B : Nat} {pv : Value} {o : Op5} (h : At w sb m F) (V : Env w E B) (hF : ∀ b, F b → B ≤ b) (hB : B ≤ w.heap.size) (ok : o.Ok) (hp : Strs w pv o.L) (hk : o.kd = 3) :
    Calls Tryd.prog 9 #[.pointer (some ⟨sb, 0, none⟩), opV o pv] w fun e w' => ∃ lv, e = .returned (ansV (ply m o).1 lv) ∧ Res F w sb (ply m o).2 w' ∧ Ints w' lv (ply m o).1.l := by
  have _ := ok
  have HR : ply m o = (⟨0, (sel m o.run).1, [], []⟩, (sel m o.run).2) := by unfold ply; rw [if_neg (by omega)]; rw [if_neg (by omega)]; rw [if_pos hk]
  rw [HR]
  have HOP : Hid (∀ W, Below w.heap.size w W → Calls Tryd.prog 19 #[.pointer (some ⟨sb, 0, none⟩), .int .i64 o.run] W fun e w' => e = .returned ((errV E ((sel m o.run).1))) ∧ Res F W sb ((sel m o.run).2) w') := fun W hb => seal_any (at_below h hb) ((V.below (hb.mono hB)).gs hF) ok.r1 ok.r2
  have HCD : Hid (∀ w', Env w' E B → Calls Tryd.prog 24 #[(errV E ((sel m o.run).1))] w' fun e w2 => e = .returned (.int .i64 (((sel m o.run).1 : Nat) : Int)) ∧ w2 = w') := fun w' v => code_any v (sel_code m o.run)
  obtain ⟨ao, cp, rfl, -, -⟩ := hp
  have HTL : Hid (∀ W3 w4, W3 = ((w.alloc (.cells #[.int .i64 3, .int .i64 o.run, .int .i64 o.at_, .int .i64 o.n, .slice ao o.L.length cp] 30)).alloc (.cells #[.int .i64 0, .int .i64 0, .string (strB []), .slice none 0 0] 33)).alloc (.cells #[.int .i64 0, .int .i64 0, .string (strB []), .slice none 0 0] 33) → Res F W3 sb ((sel m o.run).2) w4 → Tl w w4 E B F sb ((sel m o.run).2)) := fun W3 w4 hW hr => Tl.mk0 hW V hB hF h.lt hr
  unfold opV ansV
  simp only [hk]
  generalize errV E ((sel m o.run).1) = ev at *
  generalize (sel m o.run).1 = c1 at *
  generalize (sel m o.run).2 = m2 at *
  clear h V hF hk HR ok
  go_enter Tryd.func9, Tryd.ntmps9
  go_wp2_with (first | (go_at_call 19; refine (unhide HOP _ (by (repeat (first | exact Below.refl _ _ | refine Below.drew ?_ | refine Below.alloc ?_ (by first | (simp; done) | (simp; omega)) _ | refine Below.setCell ?_ (by first | (simp; done) | (simp; omega)) _)))).mono ?_; rintro e w4 ⟨rfl, h4⟩; have htl := unhide HTL _ w4 rfl h4; obtain ⟨q0, q1, q2, q3, qf⟩ := ans_cells htl.b2; obtain ⟨p0, p1, p2, p3, pf⟩ := ans_cells htl.b1; have hz := htl.sz; have HT := hide htl; clear h4 htl) | (go_at_call 24; refine (unhide HCD _ ((unhide HT).env.below (by (repeat (first | refine Below.setCell ?_ (by simp; omega) _ | refine Below.drew ?_ | exact Below.refl _ _))))).mono ?_; rintro e w5 ⟨rfl, rfl⟩))
  refine gen_post ?_
  intro V hV
  have HRS : Hid (Res F w sb m2 V) := by
    rw [hV]
    refine (unhide HT).res _ ?_
    (repeat (first | refine Chg.setCell ?_ (.inl (by constructor <;> (simp; try omega))) _ | refine Chg.alloc ?_ _ | refine Chg.drew ?_ | exact Chg.refl _ _))
  have v0 : V.cell? ⟨w.heap.size + 1, 0, none⟩ = some (.int .i64 0) := by rw [hV]; go_simp
  have v1 : V.cell? ⟨w.heap.size + 1, 1, none⟩ = some (.int .i64 ((c1 : Nat) : Int)) := by rw [hV]; go_simp
  have v2 : V.cell? ⟨w.heap.size + 1, 2, none⟩ = some (.string (strB [])) := by rw [hV]; go_simp
  have v3 : V.cell? ⟨w.heap.size + 1, 3, none⟩ = some (.slice none 0 0) := by rw [hV]; go_simp
  clear hV p0 p1 p2 p3 q0 q1 q2 q3 pf qf
  exact bodyPost_ret (v := .agg #[.int .i64 0, .int .i64 ((c1 : Nat) : Int), .string (strB []), .slice none 0 0]) (by simp [results, Tryd.results9, go_sem, v0, v1, v2, v3]) rfl ⟨.slice none 0 0, rfl, unhide HRS, ints_nil _⟩
set_option maxRecDepth 100000 in
set_option maxHeartbeats 1000000 in
theorem plays_4 {w : World} {sb : Nat} {m : Sto} {F : Nat → Prop} {E : Nat → Addr} {B : Nat} {pv : Value} {o : Op5} (h : At w sb m F) (V : Env w E B) (hF : ∀ b, F b → B ≤ b) (hB : B ≤ w.heap.size) (ok : o.Ok) (hp : Strs w pv o.L) (hk : o.kd = 4) :
    Calls Tryd.prog 9 #[.pointer (some ⟨sb, 0, none⟩), opV o pv] w fun e w' => ∃ lv, e = .returned (ansV (ply m o).1 lv) ∧ Res F w sb (ply m o).2 w' ∧ Ints w' lv (ply m o).1.l := by
  have _ := ok
  have HR : ply m o = (⟨0, (rea m o.run o.at_ o.n).2, (rea m o.run o.at_ o.n).1, []⟩, m) := by unfold ply; rw [if_neg (by omega)]; rw [if_neg (by omega)]; rw [if_neg (by omega)]; rw [if_pos hk]
  rw [HR]
  have HOP : Hid (∀ W, Below w.heap.size w W → Calls Tryd.prog 20 #[.pointer (some ⟨sb, 0, none⟩), .int .i64 o.run, .int .i64 o.at_, .int .i64 o.n] W fun e w' => e = .returned (.tuple #[.string (strB (rea m o.run o.at_ o.n).1), (errV E ((rea m o.run o.at_ o.n).2))]) ∧ Res F W sb (m) w') := fun W hb => (read_any (at_below h hb) (V.below (hb.mono hB)) hF ok.r1 ok.r2 ok.a2 ok.n2).mono fun e w2 hh => ⟨hh.1, ((at_below h hb).res (Chg.refl F W)).below hh.2⟩
  have HCD : Hid (∀ w', Env w' E B → Calls Tryd.prog 24 #[(errV E ((rea m o.run o.at_ o.n).2))] w' fun e w2 => e = .returned (.int .i64 (((rea m o.run o.at_ o.n).2 : Nat) : Int)) ∧ w2 = w') := fun w' v => code_any v (rea_code m o.run o.at_ o.n)
  obtain ⟨ao, cp, rfl, -, -⟩ := hp
  have HTL : Hid (∀ W3 w4, W3 = ((w.alloc (.cells #[.int .i64 4, .int .i64 o.run, .int .i64 o.at_, .int .i64 o.n, .slice ao o.L.length cp] 30)).alloc (.cells #[.int .i64 0, .int .i64 0, .string (strB []), .slice none 0 0] 33)).alloc (.cells #[.int .i64 0, .int .i64 0, .string (strB []), .slice none 0 0] 33) → Res F W3 sb (m) w4 → Tl w w4 E B F sb (m)) := fun W3 w4 hW hr => Tl.mk0 hW V hB hF h.lt hr
  unfold opV ansV
  simp only [hk]
  generalize (rea m o.run o.at_ o.n).1 = T1 at *
  generalize errV E ((rea m o.run o.at_ o.n).2) = ev at *
  generalize (rea m o.run o.at_ o.n).2 = c1 at *
  clear h V hF hk HR ok
  go_enter Tryd.func9, Tryd.ntmps9
  go_wp2_with (first | (go_at_call 20; refine (unhide HOP _ (by (repeat (first | exact Below.refl _ _ | refine Below.drew ?_ | refine Below.alloc ?_ (by first | (simp; done) | (simp; omega)) _ | refine Below.setCell ?_ (by first | (simp; done) | (simp; omega)) _)))).mono ?_; rintro e w4 ⟨rfl, h4⟩; have htl := unhide HTL _ w4 rfl h4; obtain ⟨q0, q1, q2, q3, qf⟩ := ans_cells htl.b2; obtain ⟨p0, p1, p2, p3, pf⟩ := ans_cells htl.b1; have hz := htl.sz; have HT := hide htl; clear h4 htl) | (go_at_call 24; refine (unhide HCD _ ((unhide HT).env.below (by (repeat (first | refine Below.setCell ?_ (by simp; omega) _ | refine Below.drew ?_ | exact Below.refl _ _))))).mono ?_; rintro e w5 ⟨rfl, rfl⟩))
  refine gen_post ?_
  intro V hV
  have HRS : Hid (Res F w sb m V) := by
    rw [hV]
    refine (unhide HT).res _ ?_
    (repeat (first | refine Chg.setCell ?_ (.inl (by constructor <;> (simp; try omega))) _ | refine Chg.alloc ?_ _ | refine Chg.drew ?_ | exact Chg.refl _ _))
  have v0 : V.cell? ⟨w.heap.size + 1, 0, none⟩ = some (.int .i64 0) := by rw [hV]; go_simp
  have v1 : V.cell? ⟨w.heap.size + 1, 1, none⟩ = some (.int .i64 ((c1 : Nat) : Int)) := by rw [hV]; go_simp
  have v2 : V.cell? ⟨w.heap.size + 1, 2, none⟩ = some (.string (strB T1)) := by rw [hV]; go_simp
  have v3 : V.cell? ⟨w.heap.size + 1, 3, none⟩ = some (.slice none 0 0) := by rw [hV]; go_simp
  clear hV p0 p1 p2 p3 q0 q1 q2 q3 pf qf
  exact bodyPost_ret (v := .agg #[.int .i64 0, .int .i64 ((c1 : Nat) : Int), .string (strB T1), .slice none 0 0]) (by simp [results, Tryd.results9, go_sem, v0, v1, v2, v3]) rfl ⟨.slice none 0 0, rfl, unhide HRS, ints_nil _⟩
set_option maxRecDepth 100000 in
set_option maxHeartbeats 1000000 in
theorem plays_5 {w : World} {sb : Nat} {m : Sto} {F : Nat → Prop} {E : Nat → Addr} {B : Nat} {pv : Value} {o : Op5} (h : At w sb m F) (V : Env w E B) (hF : ∀ b, F b → B ≤ b) (hB : B ≤ w.heap.size) (ok : o.Ok) (hp : Strs w pv o.L) (hk : o.kd = 5) :
    Calls Tryd.prog 9 #[.pointer (some ⟨sb, 0, none⟩), opV o pv] w fun e w' => ∃ lv, e = .returned (ansV (ply m o).1 lv) ∧ Res F w sb (ply m o).2 w' ∧ Ints w' lv (ply m o).1.l := by
  have _ := ok
  have HR : ply m o = (⟨(siz m o.run).1, (siz m o.run).2, [], []⟩, m) := by unfold ply; rw [if_neg (by omega)]; rw [if_neg (by omega)]; rw [if_neg (by omega)]; rw [if_neg (by omega)]; rw [if_pos hk]
  rw [HR]
  have HOP : Hid (∀ W, Below w.heap.size w W → Calls Tryd.prog 21 #[.pointer (some ⟨sb, 0, none⟩), .int .i64 o.run] W fun e w' => e = .returned (.tuple #[.int .i64 (siz m o.run).1, (errV E ((siz m o.run).2))]) ∧ Res F W sb (m) w') := fun W hb => (size_any (at_below h hb) ((V.below (hb.mono hB)).gs hF) ok.r1 ok.r2).mono fun e w2 hh => ⟨hh.1, ((at_below h hb).res (Chg.refl F W)).below hh.2⟩
  have HCD : Hid (∀ w', Env w' E B → Calls Tryd.prog 24 #[(errV E ((siz m o.run).2))] w' fun e w2 => e = .returned (.int .i64 (((siz m o.run).2 : Nat) : Int)) ∧ w2 = w') := fun w' v => code_any v (siz_code m o.run)
  obtain ⟨ao, cp, rfl, -, -⟩ := hp
  have HTL : Hid (∀ W3 w4, W3 = ((w.alloc (.cells #[.int .i64 5, .int .i64 o.run, .int .i64 o.at_, .int .i64 o.n, .slice ao o.L.length cp] 30)).alloc (.cells #[.int .i64 0, .int .i64 0, .string (strB []), .slice none 0 0] 33)).alloc (.cells #[.int .i64 0, .int .i64 0, .string (strB []), .slice none 0 0] 33) → Res F W3 sb (m) w4 → Tl w w4 E B F sb (m)) := fun W3 w4 hW hr => Tl.mk0 hW V hB hF h.lt hr
  unfold opV ansV
  simp only [hk]
  generalize (siz m o.run).1 = n1 at *
  generalize errV E ((siz m o.run).2) = ev at *
  generalize (siz m o.run).2 = c1 at *
  clear h V hF hk HR ok
  go_enter Tryd.func9, Tryd.ntmps9
  go_wp2_with (first | (go_at_call 21; refine (unhide HOP _ (by (repeat (first | exact Below.refl _ _ | refine Below.drew ?_ | refine Below.alloc ?_ (by first | (simp; done) | (simp; omega)) _ | refine Below.setCell ?_ (by first | (simp; done) | (simp; omega)) _)))).mono ?_; rintro e w4 ⟨rfl, h4⟩; have htl := unhide HTL _ w4 rfl h4; obtain ⟨q0, q1, q2, q3, qf⟩ := ans_cells htl.b2; obtain ⟨p0, p1, p2, p3, pf⟩ := ans_cells htl.b1; have hz := htl.sz; have HT := hide htl; clear h4 htl) | (go_at_call 24; refine (unhide HCD _ ((unhide HT).env.below (by (repeat (first | refine Below.setCell ?_ (by simp; omega) _ | refine Below.drew ?_ | exact Below.refl _ _))))).mono ?_; rintro e w5 ⟨rfl, rfl⟩))
  refine gen_post ?_
  intro V hV
  have HRS : Hid (Res F w sb m V) := by
    rw [hV]
    refine (unhide HT).res _ ?_
    (repeat (first | refine Chg.setCell ?_ (.inl (by constructor <;> (simp; try omega))) _ | refine Chg.alloc ?_ _ | refine Chg.drew ?_ | exact Chg.refl _ _))
  have v0 : V.cell? ⟨w.heap.size + 1, 0, none⟩ = some (.int .i64 n1) := by rw [hV]; go_simp
  have v1 : V.cell? ⟨w.heap.size + 1, 1, none⟩ = some (.int .i64 ((c1 : Nat) : Int)) := by rw [hV]; go_simp
  have v2 : V.cell? ⟨w.heap.size + 1, 2, none⟩ = some (.string (strB [])) := by rw [hV]; go_simp
  have v3 : V.cell? ⟨w.heap.size + 1, 3, none⟩ = some (.slice none 0 0) := by rw [hV]; go_simp
  clear hV p0 p1 p2 p3 q0 q1 q2 q3 pf qf
  exact bodyPost_ret (v := .agg #[.int .i64 n1, .int .i64 ((c1 : Nat) : Int), .string (strB []), .slice none 0 0]) (by simp [results, Tryd.results9, go_sem, v0, v1, v2, v3]) rfl ⟨.slice none 0 0, rfl, unhide HRS, ints_nil _⟩
set_option maxRecDepth 100000 in
set_option maxHeartbeats 1000000 in
theorem plays_6 {w : World} {sb : Nat} {m : Sto} {F : Nat → Prop} {E : Nat → Addr} {B : Nat} {pv : Value} {o : Op5} (h : At w sb m F) (V : Env w E B) (hF : ∀ b, F b → B ≤ b) (hB : B ≤ w.heap.size) (ok : o.Ok) (hp : Strs w pv o.L) (hk : o.kd = 6) :
    Calls Tryd.prog 9 #[.pointer (some ⟨sb, 0, none⟩), opV o pv] w fun e w' => ∃ lv, e = .returned (ansV (ply m o).1 lv) ∧ Res F w sb (ply m o).2 w' ∧ Ints w' lv (ply m o).1.l := by
  have _ := ok
  have HR : ply m o = (⟨0, (rem m o.run).1, [], []⟩, (rem m o.run).2) := by unfold ply; rw [if_neg (by omega)]; rw [if_neg (by omega)]; rw [if_neg (by omega)]; rw [if_neg (by omega)]; rw [if_neg (by omega)]; rw [if_pos hk]
  rw [HR]
  have HOP : Hid (∀ W, Below w.heap.size w W → Calls Tryd.prog 22 #[.pointer (some ⟨sb, 0, none⟩), .int .i64 o.run] W fun e w' => e = .returned ((errV E ((rem m o.run).1))) ∧ Res F W sb ((rem m o.run).2) w') := fun W hb => remove_any (at_below h hb) ((V.below (hb.mono hB)).gs hF) ok.r1 ok.r2
  have HCD : Hid (∀ w', Env w' E B → Calls Tryd.prog 24 #[(errV E ((rem m o.run).1))] w' fun e w2 => e = .returned (.int .i64 (((rem m o.run).1 : Nat) : Int)) ∧ w2 = w') := fun w' v => code_any v (rem_code m o.run)
  obtain ⟨ao, cp, rfl, -, -⟩ := hp
  have HTL : Hid (∀ W3 w4, W3 = ((w.alloc (.cells #[.int .i64 6, .int .i64 o.run, .int .i64 o.at_, .int .i64 o.n, .slice ao o.L.length cp] 30)).alloc (.cells #[.int .i64 0, .int .i64 0, .string (strB []), .slice none 0 0] 33)).alloc (.cells #[.int .i64 0, .int .i64 0, .string (strB []), .slice none 0 0] 33) → Res F W3 sb ((rem m o.run).2) w4 → Tl w w4 E B F sb ((rem m o.run).2)) := fun W3 w4 hW hr => Tl.mk0 hW V hB hF h.lt hr
  unfold opV ansV
  simp only [hk]
  generalize errV E ((rem m o.run).1) = ev at *
  generalize (rem m o.run).1 = c1 at *
  generalize (rem m o.run).2 = m2 at *
  clear h V hF hk HR ok
  go_enter Tryd.func9, Tryd.ntmps9
  go_wp2_with (first | (go_at_call 22; refine (unhide HOP _ (by (repeat (first | exact Below.refl _ _ | refine Below.drew ?_ | refine Below.alloc ?_ (by first | (simp; done) | (simp; omega)) _ | refine Below.setCell ?_ (by first | (simp; done) | (simp; omega)) _)))).mono ?_; rintro e w4 ⟨rfl, h4⟩; have htl := unhide HTL _ w4 rfl h4; obtain ⟨q0, q1, q2, q3, qf⟩ := ans_cells htl.b2; obtain ⟨p0, p1, p2, p3, pf⟩ := ans_cells htl.b1; have hz := htl.sz; have HT := hide htl; clear h4 htl) | (go_at_call 24; refine (unhide HCD _ ((unhide HT).env.below (by (repeat (first | refine Below.setCell ?_ (by simp; omega) _ | refine Below.drew ?_ | exact Below.refl _ _))))).mono ?_; rintro e w5 ⟨rfl, rfl⟩))
  refine gen_post ?_
  intro V hV
  have HRS : Hid (Res F w sb m2 V) := by
    rw [hV]
    refine (unhide HT).res _ ?_
    (repeat (first | refine Chg.setCell ?_ (.inl (by constructor <;> (simp; try omega))) _ | refine Chg.alloc ?_ _ | refine Chg.drew ?_ | exact Chg.refl _ _))
  have v0 : V.cell? ⟨w.heap.size + 1, 0, none⟩ = some (.int .i64 0) := by rw [hV]; go_simp
  have v1 : V.cell? ⟨w.heap.size + 1, 1, none⟩ = some (.int .i64 ((c1 : Nat) : Int)) := by rw [hV]; go_simp
  have v2 : V.cell? ⟨w.heap.size + 1, 2, none⟩ = some (.string (strB [])) := by rw [hV]; go_simp
  have v3 : V.cell? ⟨w.heap.size + 1, 3, none⟩ = some (.slice none 0 0) := by rw [hV]; go_simp
  clear hV p0 p1 p2 p3 q0 q1 q2 q3 pf qf
  exact bodyPost_ret (v := .agg #[.int .i64 0, .int .i64 ((c1 : Nat) : Int), .string (strB []), .slice none 0 0]) (by simp [results, Tryd.results9, go_sem, v0, v1, v2, v3]) rfl ⟨.slice none 0 0, rfl, unhide HRS, ints_nil _⟩
set_option maxRecDepth 100000 in
set_option maxHeartbeats 1000000 in
theorem plays_8 {w : World} {sb : Nat} {m : Sto} {F : Nat → Prop} {E : Nat → Addr} {B : Nat} {pv : Value} {o : Op5} (h : At w sb m F) (V : Env w E B) (hF : ∀ b, F b → B ≤ b) (hB : B ≤ w.heap.size) (ok : o.Ok) (hp : Strs w pv o.L) (hk : o.kd = 8) :
    Calls Tryd.prog 9 #[.pointer (some ⟨sb, 0, none⟩), opV o pv] w fun e w' => ∃ lv, e = .returned (ansV (ply m o).1 lv) ∧ Res F w sb (ply m o).2 w' ∧ Ints w' lv (ply m o).1.l := by
  have _ := ok
  have HR : ply m o = (⟨(tot m.runs : Int), 0, [], []⟩, m) := by unfold ply; rw [if_neg (by omega)]; rw [if_neg (by omega)]; rw [if_neg (by omega)]; rw [if_neg (by omega)]; rw [if_neg (by omega)]; rw [if_neg (by omega)]; rw [if_neg (by omega)]; rw [if_pos hk]
  rw [HR]
  have HOP : Hid (∀ W, Below w.heap.size w W → Calls Tryd.prog 14 #[.pointer (some ⟨sb, 0, none⟩)] W fun e w' => e = .returned (.int .i64 (tot m.runs : Int)) ∧ Res F W sb (m) w') := fun W hb => (used_any (at_below h hb)).mono fun e w2 hh => ⟨hh.1, by rw [hh.2]; exact (at_below h hb).res (Chg.refl F W)⟩
  have HCD : Hid (∀ w', Env w' E B → Calls Tryd.prog 24 #[.nilIface] w' fun e w2 => e = .returned (.int .i64 ((0 : Nat) : Int)) ∧ w2 = w') := fun w' v => code_0 w'
  obtain ⟨ao, cp, rfl, -, -⟩ := hp
  have HTL : Hid (∀ W3 w4, W3 = ((w.alloc (.cells #[.int .i64 8, .int .i64 o.run, .int .i64 o.at_, .int .i64 o.n, .slice ao o.L.length cp] 30)).alloc (.cells #[.int .i64 0, .int .i64 0, .string (strB []), .slice none 0 0] 33)).alloc (.cells #[.int .i64 0, .int .i64 0, .string (strB []), .slice none 0 0] 33) → Res F W3 sb (m) w4 → Tl w w4 E B F sb (m)) := fun W3 w4 hW hr => Tl.mk0 hW V hB hF h.lt hr
  unfold opV ansV
  simp only [hk]
  generalize (tot m.runs : Int) = n1 at *
  clear h V hF hk HR ok
  go_enter Tryd.func9, Tryd.ntmps9
  go_wp2_with (first | (go_at_call 14; refine (unhide HOP _ (by (repeat (first | exact Below.refl _ _ | refine Below.drew ?_ | refine Below.alloc ?_ (by first | (simp; done) | (simp; omega)) _ | refine Below.setCell ?_ (by first | (simp; done) | (simp; omega)) _)))).mono ?_; rintro e w4 ⟨rfl, h4⟩; have htl := unhide HTL _ w4 rfl h4; obtain ⟨q0, q1, q2, q3, qf⟩ := ans_cells htl.b2; obtain ⟨p0, p1, p2, p3, pf⟩ := ans_cells htl.b1; have hz := htl.sz; have HT := hide htl; clear h4 htl) | (go_at_call 24; refine (unhide HCD _ ((unhide HT).env.below (by (repeat (first | refine Below.setCell ?_ (by simp; omega) _ | refine Below.drew ?_ | exact Below.refl _ _))))).mono ?_; rintro e w5 ⟨rfl, rfl⟩))
  refine gen_post ?_
  intro V hV
  have HRS : Hid (Res F w sb m V) := by
    rw [hV]
    refine (unhide HT).res _ ?_
    (repeat (first | refine Chg.setCell ?_ (.inl (by constructor <;> (simp; try omega))) _ | refine Chg.alloc ?_ _ | refine Chg.drew ?_ | exact Chg.refl _ _))
  have v0 : V.cell? ⟨w.heap.size + 1, 0, none⟩ = some (.int .i64 n1) := by rw [hV]; go_simp
  have v1 : V.cell? ⟨w.heap.size + 1, 1, none⟩ = some (.int .i64 ((0 : Nat) : Int)) := by rw [hV]; go_simp
  have v2 : V.cell? ⟨w.heap.size + 1, 2, none⟩ = some (.string (strB [])) := by rw [hV]; go_simp
  have v3 : V.cell? ⟨w.heap.size + 1, 3, none⟩ = some (.slice none 0 0) := by rw [hV]; go_simp
  clear hV p0 p1 p2 p3 q0 q1 q2 q3 pf qf
  exact bodyPost_ret (v := .agg #[.int .i64 n1, .int .i64 ((0 : Nat) : Int), .string (strB []), .slice none 0 0]) (by simp [results, Tryd.results9, go_sem, v0, v1, v2, v3]) rfl ⟨.slice none 0 0, rfl, unhide HRS, ints_nil _⟩
set_option maxRecDepth 100000 in
set_option maxHeartbeats 1000000 in
theorem plays_9 {w : World} {sb : Nat} {m : Sto} {F : Nat → Prop} {E : Nat → Addr} {B : Nat} {pv : Value} {o : Op5} (h : At w sb m F) (V : Env w E B) (hF : ∀ b, F b → B ≤ b) (hB : B ≤ w.heap.size) (ok : o.Ok) (hp : Strs w pv o.L) (hk : o.kd = 9) :
    Calls Tryd.prog 9 #[.pointer (some ⟨sb, 0, none⟩), opV o pv] w fun e w' => ∃ lv, e = .returned (ansV (ply m o).1 lv) ∧ Res F w sb (ply m o).2 w' ∧ Ints w' lv (ply m o).1.l := by
  have _ := ok
  have HR : ply m o = (⟨(m.peak : Int), 0, [], []⟩, m) := by unfold ply; rw [if_neg (by omega)]; rw [if_neg (by omega)]; rw [if_neg (by omega)]; rw [if_neg (by omega)]; rw [if_neg (by omega)]; rw [if_neg (by omega)]; rw [if_neg (by omega)]; rw [if_neg (by omega)]; rw [if_pos hk]
  rw [HR]
  have HOP : Hid (∀ W, Below w.heap.size w W → Calls Tryd.prog 15 #[.pointer (some ⟨sb, 0, none⟩)] W fun e w' => e = .returned (.int .i64 (m.peak : Int)) ∧ Res F W sb (m) w') := fun W hb => (peak_any (at_below h hb)).mono fun e w2 hh => ⟨hh.1, by rw [hh.2]; exact (at_below h hb).res (Chg.refl F W)⟩
  have HCD : Hid (∀ w', Env w' E B → Calls Tryd.prog 24 #[.nilIface] w' fun e w2 => e = .returned (.int .i64 ((0 : Nat) : Int)) ∧ w2 = w') := fun w' v => code_0 w'
  obtain ⟨ao, cp, rfl, -, -⟩ := hp
  have HTL : Hid (∀ W3 w4, W3 = ((w.alloc (.cells #[.int .i64 9, .int .i64 o.run, .int .i64 o.at_, .int .i64 o.n, .slice ao o.L.length cp] 30)).alloc (.cells #[.int .i64 0, .int .i64 0, .string (strB []), .slice none 0 0] 33)).alloc (.cells #[.int .i64 0, .int .i64 0, .string (strB []), .slice none 0 0] 33) → Res F W3 sb (m) w4 → Tl w w4 E B F sb (m)) := fun W3 w4 hW hr => Tl.mk0 hW V hB hF h.lt hr
  unfold opV ansV
  simp only [hk]
  generalize (m.peak : Int) = n1 at *
  clear h V hF hk HR ok
  go_enter Tryd.func9, Tryd.ntmps9
  go_wp2_with (first | (go_at_call 15; refine (unhide HOP _ (by (repeat (first | exact Below.refl _ _ | refine Below.drew ?_ | refine Below.alloc ?_ (by first | (simp; done) | (simp; omega)) _ | refine Below.setCell ?_ (by first | (simp; done) | (simp; omega)) _)))).mono ?_; rintro e w4 ⟨rfl, h4⟩; have htl := unhide HTL _ w4 rfl h4; obtain ⟨q0, q1, q2, q3, qf⟩ := ans_cells htl.b2; obtain ⟨p0, p1, p2, p3, pf⟩ := ans_cells htl.b1; have hz := htl.sz; have HT := hide htl; clear h4 htl) | (go_at_call 24; refine (unhide HCD _ ((unhide HT).env.below (by (repeat (first | refine Below.setCell ?_ (by simp; omega) _ | refine Below.drew ?_ | exact Below.refl _ _))))).mono ?_; rintro e w5 ⟨rfl, rfl⟩))
  refine gen_post ?_
  intro V hV
  have HRS : Hid (Res F w sb m V) := by
    rw [hV]
    refine (unhide HT).res _ ?_
    (repeat (first | refine Chg.setCell ?_ (.inl (by constructor <;> (simp; try omega))) _ | refine Chg.alloc ?_ _ | refine Chg.drew ?_ | exact Chg.refl _ _))
  have v0 : V.cell? ⟨w.heap.size + 1, 0, none⟩ = some (.int .i64 n1) := by rw [hV]; go_simp
  have v1 : V.cell? ⟨w.heap.size + 1, 1, none⟩ = some (.int .i64 ((0 : Nat) : Int)) := by rw [hV]; go_simp
  have v2 : V.cell? ⟨w.heap.size + 1, 2, none⟩ = some (.string (strB [])) := by rw [hV]; go_simp
  have v3 : V.cell? ⟨w.heap.size + 1, 3, none⟩ = some (.slice none 0 0) := by rw [hV]; go_simp
  clear hV p0 p1 p2 p3 q0 q1 q2 q3 pf qf
  exact bodyPost_ret (v := .agg #[.int .i64 n1, .int .i64 ((0 : Nat) : Int), .string (strB []), .slice none 0 0]) (by simp [results, Tryd.results9, go_sem, v0, v1, v2, v3]) rfl ⟨.slice none 0 0, rfl, unhide HRS, ints_nil _⟩
set_option maxRecDepth 100000 in
set_option maxHeartbeats 1000000 in
theorem plays_10 {w : World} {sb : Nat} {m : Sto} {F : Nat → Prop} {E : Nat → Addr} {B : Nat} {pv : Value} {o : Op5} (h : At w sb m F) (V : Env w E B) (hF : ∀ b, F b → B ≤ b) (hB : B ≤ w.heap.size) (ok : o.Ok) (hp : Strs w pv o.L) (hk : o.kd = 10) :
    Calls Tryd.prog 9 #[.pointer (some ⟨sb, 0, none⟩), opV o pv] w fun e w' => ∃ lv, e = .returned (ansV (ply m o).1 lv) ∧ Res F w sb (ply m o).2 w' ∧ Ints w' lv (ply m o).1.l := by
  have _ := ok
  have HR : ply m o = (⟨(m.made : Int), 0, [], []⟩, m) := by unfold ply; rw [if_neg (by omega)]; rw [if_neg (by omega)]; rw [if_neg (by omega)]; rw [if_neg (by omega)]; rw [if_neg (by omega)]; rw [if_neg (by omega)]; rw [if_neg (by omega)]; rw [if_neg (by omega)]; rw [if_neg (by omega)]; rw [if_pos hk]
  rw [HR]
  have HOP : Hid (∀ W, Below w.heap.size w W → Calls Tryd.prog 16 #[.pointer (some ⟨sb, 0, none⟩)] W fun e w' => e = .returned (.int .i64 (m.made : Int)) ∧ Res F W sb (m) w') := fun W hb => (made_any (at_below h hb)).mono fun e w2 hh => ⟨hh.1, by rw [hh.2]; exact (at_below h hb).res (Chg.refl F W)⟩
  have HCD : Hid (∀ w', Env w' E B → Calls Tryd.prog 24 #[.nilIface] w' fun e w2 => e = .returned (.int .i64 ((0 : Nat) : Int)) ∧ w2 = w') := fun w' v => code_0 w'
  obtain ⟨ao, cp, rfl, -, -⟩ := hp
  have HTL : Hid (∀ W3 w4, W3 = ((w.alloc (.cells #[.int .i64 10, .int .i64 o.run, .int .i64 o.at_, .int .i64 o.n, .slice ao o.L.length cp] 30)).alloc (.cells #[.int .i64 0, .int .i64 0, .string (strB []), .slice none 0 0] 33)).alloc (.cells #[.int .i64 0, .int .i64 0, .string (strB []), .slice none 0 0] 33) → Res F W3 sb (m) w4 → Tl w w4 E B F sb (m)) := fun W3 w4 hW hr => Tl.mk0 hW V hB hF h.lt hr
  unfold opV ansV
  simp only [hk]
  generalize (m.made : Int) = n1 at *
  clear h V hF hk HR ok
  go_enter Tryd.func9, Tryd.ntmps9
  go_wp2_with (first | (go_at_call 16; refine (unhide HOP _ (by (repeat (first | exact Below.refl _ _ | refine Below.drew ?_ | refine Below.alloc ?_ (by first | (simp; done) | (simp; omega)) _ | refine Below.setCell ?_ (by first | (simp; done) | (simp; omega)) _)))).mono ?_; rintro e w4 ⟨rfl, h4⟩; have htl := unhide HTL _ w4 rfl h4; obtain ⟨q0, q1, q2, q3, qf⟩ := ans_cells htl.b2; obtain ⟨p0, p1, p2, p3, pf⟩ := ans_cells htl.b1; have hz := htl.sz; have HT := hide htl; clear h4 htl) | (go_at_call 24; refine (unhide HCD _ ((unhide HT).env.below (by (repeat (first | refine Below.setCell ?_ (by simp; omega) _ | refine Below.drew ?_ | exact Below.refl _ _))))).mono ?_; rintro e w5 ⟨rfl, rfl⟩))
  refine gen_post ?_
  intro V hV
  have HRS : Hid (Res F w sb m V) := by
    rw [hV]
    refine (unhide HT).res _ ?_
    (repeat (first | refine Chg.setCell ?_ (.inl (by constructor <;> (simp; try omega))) _ | refine Chg.alloc ?_ _ | refine Chg.drew ?_ | exact Chg.refl _ _))
  have v0 : V.cell? ⟨w.heap.size + 1, 0, none⟩ = some (.int .i64 n1) := by rw [hV]; go_simp
  have v1 : V.cell? ⟨w.heap.size + 1, 1, none⟩ = some (.int .i64 ((0 : Nat) : Int)) := by rw [hV]; go_simp
  have v2 : V.cell? ⟨w.heap.size + 1, 2, none⟩ = some (.string (strB [])) := by rw [hV]; go_simp
  have v3 : V.cell? ⟨w.heap.size + 1, 3, none⟩ = some (.slice none 0 0) := by rw [hV]; go_simp
  clear hV p0 p1 p2 p3 q0 q1 q2 q3 pf qf
  exact bodyPost_ret (v := .agg #[.int .i64 n1, .int .i64 ((0 : Nat) : Int), .string (strB []), .slice none 0 0]) (by simp [results, Tryd.results9, go_sem, v0, v1, v2, v3]) rfl ⟨.slice none 0 0, rfl, unhide HRS, ints_nil _⟩
set_option maxRecDepth 100000 in
set_option maxHeartbeats 1000000 in
theorem plays_11 {w : World} {sb : Nat} {m : Sto} {F : Nat → Prop} {E : Nat → Addr} {B : Nat} {pv : Value} {o : Op5} (h : At w sb m F) (V : Env w E B) (hF : ∀ b, F b → B ≤ b) (hB : B ≤ w.heap.size) (ok : o.Ok) (hp : Strs w pv o.L) (hk : o.kd = 11) :
    Calls Tryd.prog 9 #[.pointer (some ⟨sb, 0, none⟩), opV o pv] w fun e w' => ∃ lv, e = .returned (ansV (ply m o).1 lv) ∧ Res F w sb (ply m o).2 w' ∧ Ints w' lv (ply m o).1.l := by
  have _ := ok
  have HR : ply m o = (⟨0, 0, [], []⟩, m.brk o.n) := by unfold ply; rw [if_neg (by omega)]; rw [if_neg (by omega)]; rw [if_neg (by omega)]; rw [if_neg (by omega)]; rw [if_neg (by omega)]; rw [if_neg (by omega)]; rw [if_neg (by omega)]; rw [if_neg (by omega)]; rw [if_neg (by omega)]; rw [if_neg (by omega)]; rw [if_pos hk]
  rw [HR]
  have HOP : Hid (∀ W, Below w.heap.size w W → Calls Tryd.prog 23 #[.pointer (some ⟨sb, 0, none⟩), .int .i64 o.n] W fun e w' => e = .returned (.tuple #[]) ∧ Res F W sb (m.brk o.n) w') := fun W hb => break_any (at_below h hb) o.n ok.n2
  have HCD : Hid (∀ w', Env w' E B → Calls Tryd.prog 24 #[.nilIface] w' fun e w2 => e = .returned (.int .i64 ((0 : Nat) : Int)) ∧ w2 = w') := fun w' v => code_0 w'
  obtain ⟨ao, cp, rfl, -, -⟩ := hp
  have HTL : Hid (∀ W3 w4, W3 = ((w.alloc (.cells #[.int .i64 11, .int .i64 o.run, .int .i64 o.at_, .int .i64 o.n, .slice ao o.L.length cp] 30)).alloc (.cells #[.int .i64 0, .int .i64 0, .string (strB []), .slice none 0 0] 33)).alloc (.cells #[.int .i64 0, .int .i64 0, .string (strB []), .slice none 0 0] 33) → Res F W3 sb (m.brk o.n) w4 → Tl w w4 E B F sb (m.brk o.n)) := fun W3 w4 hW hr => Tl.mk0 hW V hB hF h.lt hr
  unfold opV ansV
  simp only [hk]
  generalize m.brk o.n = m2 at *
  clear h V hF hk HR ok
  go_enter Tryd.func9, Tryd.ntmps9
  go_wp2_with (first | (go_at_call 23; refine (unhide HOP _ (by (repeat (first | exact Below.refl _ _ | refine Below.drew ?_ | refine Below.alloc ?_ (by first | (simp; done) | (simp; omega)) _ | refine Below.setCell ?_ (by first | (simp; done) | (simp; omega)) _)))).mono ?_; rintro e w4 ⟨rfl, h4⟩; have htl := unhide HTL _ w4 rfl h4; obtain ⟨q0, q1, q2, q3, qf⟩ := ans_cells htl.b2; obtain ⟨p0, p1, p2, p3, pf⟩ := ans_cells htl.b1; have hz := htl.sz; have HT := hide htl; clear h4 htl) | (go_at_call 24; refine (unhide HCD _ ((unhide HT).env.below (by (repeat (first | refine Below.setCell ?_ (by simp; omega) _ | refine Below.drew ?_ | exact Below.refl _ _))))).mono ?_; rintro e w5 ⟨rfl, rfl⟩))
  refine gen_post ?_
  intro V hV
  have HRS : Hid (Res F w sb m2 V) := by
    rw [hV]
    refine (unhide HT).res _ ?_
    (repeat (first | refine Chg.setCell ?_ (.inl (by constructor <;> (simp; try omega))) _ | refine Chg.alloc ?_ _ | refine Chg.drew ?_ | exact Chg.refl _ _))
  have v0 : V.cell? ⟨w.heap.size + 1, 0, none⟩ = some (.int .i64 0) := by rw [hV]; go_simp
  have v1 : V.cell? ⟨w.heap.size + 1, 1, none⟩ = some (.int .i64 ((0 : Nat) : Int)) := by rw [hV]; go_simp
  have v2 : V.cell? ⟨w.heap.size + 1, 2, none⟩ = some (.string (strB [])) := by rw [hV]; go_simp
  have v3 : V.cell? ⟨w.heap.size + 1, 3, none⟩ = some (.slice none 0 0) := by rw [hV]; go_simp
  clear hV p0 p1 p2 p3 q0 q1 q2 q3 pf qf
  exact bodyPost_ret (v := .agg #[.int .i64 0, .int .i64 ((0 : Nat) : Int), .string (strB []), .slice none 0 0]) (by simp [results, Tryd.results9, go_sem, v0, v1, v2, v3]) rfl ⟨.slice none 0 0, rfl, unhide HRS, ints_nil _⟩
end Rs
end Go.Proofs.YtdlmpogmoepkjaaDoor
