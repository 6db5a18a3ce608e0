/- Layer 6: Close where it goes well. -/
import Derived.Test.YtigffjbefbndnaaDoorWq
namespace Go.Proofs.YtigffjbefbndnaaDoor
open Go.RowKit
namespace Rs
/-- a writer and its store while they are closed -/
structure Cw (w wr : World) (E : Nat → Addr) (F G : Nat → Prop) (sb wb : Nat) (x : Wri) (m : Sto) (bv : Value) (F' : Nat → Prop) : Prop where
  sto : wr.heap[wb]? = some (.cells (wriC E sb x bv) 86 (0, 0))
  row : wr.ownsRow 0 5 1 bv x.buf.length (x.buf.map encB)
  at_ : At wr sb m F'
  sub : ∀ b, F' b → Up F w wr b
  nwb : ¬ F' wb
  ng : ∀ g, bv.ownBlock = some g → ¬ F' g
  chg : Chg (fun b => F b ∨ G b) w wr
section
variable {w wr : World} {E : Nat → Addr} {F G : Nat → Prop} {sb wb : Nat} {x : Wri} {m : Sto} {bv : Value} {F' : Nat → Prop}
theorem Cw.start (h : At w sb m F) (hw : WIn w E sb wb x G bv) (hd : ∀ b, F b → ¬ G b) : Cw w w E F G sb wb x m bv F :=
  ⟨hw.sto, hw.row, h, fun _ hF => .inl hF, fun hF => hd wb hF hw.own, fun g hg hF => hd g hF (hw.rowG g hg), Chg.refl _ _⟩
theorem Cw.below {W : World} (h : Cw w wr E F G sb wb x m bv F') (hb : Below wr.heap.size wr W) : Cw w W E F G sb wb x m bv F' :=
  ⟨(hb.block wb (Array.getElem?_eq_some_iff.1 h.sto).1).trans h.sto, own_kept h.row fun k hk => hb.block k (h.row.lt k hk).2, h.at_.kept (fun b hF => hb.block b (h.at_.lt b hF)) (fun _ x => x) (fun b hF => Nat.lt_of_lt_of_le (h.at_.lt b hF) hb.size), fun b hF => (h.sub b hF).imp id fun y => ⟨y.1, Nat.lt_of_lt_of_le y.2 hb.size⟩, h.nwb, h.ng, h.chg.trans (Chg.of_below hb)⟩
theorem Cw.res {w3 : World} {m' : Sto} (h : Cw w wr E F G sb wb x m bv F') (r : Res F' wr sb m' w3) : Cw w w3 E F G sb wb x m' bv (Up F' wr w3) := by
  have l1 := (Array.getElem?_eq_some_iff.1 h.sto).1
  have l3 := h.chg.size
  have l4 := r.2.size
  refine ⟨(r.2.block wb l1 h.nwb).trans h.sto, own_kept h.row fun k hk => r.2.block k (h.row.lt k hk).2 (h.ng k hk), r.1, fun b hb => ?_, fun hb => ?_, fun k hk hb => ?_, h.chg.trans (r.2.mono fun b hb => ?_)⟩
  · rcases hb with hb | hb
    · exact (h.sub b hb).imp id fun y => ⟨y.1, by omega⟩
    · exact .inr ⟨by omega, hb.2⟩
  · rcases hb with hb | hb
    · exact h.nwb hb
    · omega
  · rcases hb with hb | hb
    · exact h.ng k hk hb
    · have := (h.row.lt k hk).2; omega
  · rcases h.sub b hb with y | y
    · exact .inl (.inl y)
    · exact .inr y
/-- behind Close -/
def CRes (F G : Nat → Prop) (w : World) (sb wb : Nat) (m : Sto) (w' : World) : Prop :=
  ∃ F', At w' sb m F' ∧ (∀ b, F' b → Up F w w' b) ∧ ¬ F' wb ∧ w'.heap[wb]? = some (.cells #[.pointer none, .int .i64 0, .int .i64 0, .slice none 0 0, .nilIface] 86 (0, 0)) ∧ Chg (fun b => F b ∨ G b) w w'
theorem Cw.fin (h : Cw w wr E F G sb wb x m bv F') (hG : G wb) : CRes F G w sb wb m (((((wr.setCell ⟨wb, 0, none⟩ (.pointer none)).setCell ⟨wb, 1, none⟩ (.int .i64 0)).setCell ⟨wb, 2, none⟩ (.int .i64 0)).setCell ⟨wb, 3, none⟩ (.slice none 0 0)).setCell ⟨wb, 4, none⟩ .nilIface) := by
  refine ⟨F', h.at_.kept (fun b hF => ?_) (fun _ x => x) (fun b hF => by simpa using h.at_.lt b hF), fun b hF => ?_, h.nwb, ?_, ((((h.chg.setCell (.inl (.inr hG)) _).setCell (.inl (.inr hG)) _).setCell (.inl (.inr hG)) _).setCell (.inl (.inr hG)) _).setCell (.inl (.inr hG)) _⟩
  · have hne : b ≠ wb := fun e => h.nwb (e ▸ hF)
    rw [Below.heap_setCell _ _ _ _ hne, Below.heap_setCell _ _ _ _ hne, Below.heap_setCell _ _ _ _ hne, Below.heap_setCell _ _ _ _ hne, Below.heap_setCell _ _ _ _ hne]
  · refine (h.sub b hF).imp id fun y => ⟨y.1, by simpa using y.2⟩
  · rw [set_heap1 (set_heap1 (set_heap1 (set_heap1 (set_heap1 h.sto _) _) _) _) _]
    simp [wriC]
end
theorem zero_writer (w : World) : (zeroValue 86).run Tryd.prog w = .ok (.agg #[.pointer none, .int .i64 0, .int .i64 0, .slice none 0 0, .nilIface]) w := by kernel_rfl
set_option maxRecDepth 100000 in
set_option maxHeartbeats 2000000 in
theorem close_go {w : World} {E : Nat → Addr} {B sb wb : Nat} {m m2 : Sto} {F G : Nat → Prop} {x : Wri} {bv : Value} (V : Env w E B) (hF : ∀ b, F b → B ≤ b) (hG : ∀ b, G b → B ≤ b) (hB : B ≤ w.heap.size) (h : At w sb m F) (hw : WIn w E sb wb x G bv) (hd : ∀ b, F b → ¬ G b) (hx : x.dead = 0) (hrun : x.run ≤ 16777216)
    (m1 : Sto) (h1 : x.buf = [] → m1 = m) (h2 : x.buf ≠ [] → app m x.run [strB x.buf] = (0, m1)) (h3 : sel m1 x.run = (0, m2)) :
    Calls Tryd.prog 40 #[.pointer (some ⟨wb, 0, none⟩)] w fun e w' => e = .returned (.tuple #[.int .i64 x.run, .nilIface]) ∧ CRes F G w sb wb m2 w' := by
  have HCK := hide (check_any hw)
  rw [show errV E x.dead = .nilIface by rw [hx]; rfl] at HCK
  have HC0 := hide (Cw.start h hw hd)
  have HV := hide V
  have HBB : Hid (∀ W, Chg (fun b => F b ∨ G b) w W → Below B w W) := fun W c => c.below hB (fun k hk => hk.elim (hF k) (hG k))
  have HFB : Hid (∀ {W : World} {mm : Sto} {FF : Nat → Prop}, Cw w W E F G sb wb x mm bv FF → ∀ b, FF b → B ≤ b) := fun {W mm FF} c b hb => by
    rcases c.sub b hb with y | y
    · exact hF b y
    · omega
  have HSL : Hid (∀ {W : World} {FF : Nat → Prop}, Cw w W E F G sb wb x m1 bv FF → Calls Tryd.prog 54 #[.pointer (some ⟨sb, 0, none⟩), .int .i64 x.run] W fun e w' => e = .returned .nilIface ∧ Cw w w' E F G sb wb x m2 bv (Up FF W w')) := fun {W FF} c => by
    have q := seal_any (k := (x.run : Int)) c.at_ (((unhide HV).below (unhide HBB W c.chg)).gs (unhide HFB c)) (by omega) (by omega)
    rw [h3] at q
    exact q.mono fun e w' hh => ⟨hh.1, c.res hh.2⟩
  have HOW := hide hw.own
  obtain ⟨ab, cb, rfl⟩ := own_slice hw.row
  have hzw := zero_writer
  have hbl : x.buf.length < 4096 := by have := hw.small; have := hw.blk2; omega
  by_cases hb : x.buf = []
  · obtain rfl := h1 hb
    have hl0 : x.buf.length = 0 := by rw [hb]; rfl
    obtain ⟨c0, c1, c2, c3, c4, cf⟩ := wcells (unhide HC0).sto
    have hwb : wb < w.heap.size := (Array.getElem?_eq_some_iff.1 (unhide HC0).sto).1
    rw [hl0] at c3
    clear V h hw hd h2 h3 h1 hx hb
    go_enter Tryd.func40, Tryd.ntmps40
    go_wp2_with fail
    refine (unhide HCK).mono ?_
    rintro e w0 ⟨rfl, hw0⟩
    have hw00 := hw0.symm
    subst hw00
    clear hw0 HCK
    go_wp2
    go_region_held3 (fun w' => w'.cell? ⟨wb, 0, none⟩ = some (.pointer (some ⟨sb, 0, none⟩)) ∧ w'.cell? ⟨wb, 1, none⟩ = some (.int .i64 x.run))
      (first | exact ⟨c0, c1⟩ | exact s3)
      (first | (go_at_call 54; refine (unhide HSL ((unhide HC0).below (by (repeat (first | exact Below.refl _ _ | refine Below.drew ?_ | refine Below.alloc ?_ (by first | (simp; done) | (simp; omega)) _ | refine Below.setCell ?_ (by first | (simp; done) | (simp; omega)) _))))).mono ?_; rintro e w3 ⟨rfl, hl3⟩; have HL3 := hide hl3; obtain ⟨z0, z1, z2, z3, z4, zf⟩ := wcells hl3.sto; have s3 := (⟨z0, z1⟩ : _ ∧ _); have hz3 : wb < w3.heap.size := (Array.getElem?_eq_some_iff.1 hl3.sto).1; clear hl3))
    clear s3
    have HFI := hide ((unhide HL3).fin (unhide HOW))
    go_wp2
    go_ret2
    exact ⟨rfl, unhide HFI⟩
  · have hap := h2 hb
    have hlp : 0 < x.buf.length := List.length_pos_iff.2 hb
    have hlz : 0 < (x.buf.length : Int) := by omega
    obtain ⟨X, hX⟩ : ∃ X, strB x.buf = X := ⟨_, rfl⟩
    have HCV : Hid (∀ {W : World} {mm : Sto} {FF : Nat → Prop}, Cw w W E F G sb wb x mm (.slice ab x.buf.length cb) FF → (convert 66 9 (.slice ab x.buf.length cb)).run Tryd.prog W = .ok (.string X) W) := fun {W mm FF} hW => by
      obtain ⟨g, rfl⟩ : ∃ g, ab = some ⟨g, 0, none⟩ := by
        rcases hW.row.2 with ⟨_, e⟩ | ⟨g, cap, cur, e, _⟩
        · omega
        · injection e with e _ _; exact ⟨g, e⟩
      have := conv_row hW.row 0 x.buf.length cb (by omega)
      rw [List.drop_zero, List.take_length, hX] at this
      exact this
    have HAPP : Hid (∀ W, Below w.heap.size w W → w.heap.size < W.heap.size → W.cell? ⟨w.heap.size, 0, none⟩ = some (.string X) → Calls Tryd.prog 51 #[.pointer (some ⟨sb, 0, none⟩), .int .i64 x.run, .slice (some ⟨w.heap.size, 0, none⟩) 1 1] W fun e w' => e = .returned .nilIface ∧ Cw w w' E F G sb wb x m1 (.slice ab x.buf.length cb) (Up F W w')) := fun W hW hlt hcell => by
      have l := (unhide HC0).below hW
      have q := append_any (k := (x.run : Int)) (v := .slice (some ⟨w.heap.size, 0, none⟩) 1 1) (L := [X]) l.at_ (((unhide HV).below (unhide HBB W l.chg)).gs (unhide HFB l)) (by omega) (by omega) ⟨_, 1, rfl, by simp, fun _ => ⟨w.heap.size, 0, rfl, hlt, fun hb => by have := h.lt _ hb; omega, fun j y hy => by
        have : j = 0 := by
          have := (List.getElem?_eq_some_iff.1 hy).1
          simpa using this
        subst this
        simp at hy
        subst hy
        rw [Nat.zero_add]; exact hcell⟩⟩
      rw [← hX, hap] at q
      exact q.mono fun e w' hh => ⟨hh.1, l.res hh.2⟩
    obtain ⟨c0, c1, c2, c3, c4, cf⟩ := wcells (unhide HC0).sto
    have hwb : wb < w.heap.size := (Array.getElem?_eq_some_iff.1 (unhide HC0).sto).1
    have s0 := unhide HCV (unhide HC0)
    obtain ⟨n, hn⟩ : ∃ n, x.buf.length = n := ⟨_, rfl⟩
    rw [hn] at hlp hlz s0 c3 hbl HCV HAPP HC0 HSL HFB
    clear V h hw hd h2 h3 h1 hx hb hap hX hn HFB
    go_enter Tryd.func40, Tryd.ntmps40
    go_wp2_with fail
    refine (unhide HCK).mono ?_
    rintro e w0 ⟨rfl, hw0⟩
    have hw00 := hw0.symm
    subst hw00
    clear hw0 HCK
    go_wp2
    go_region_held3 (fun w' => w'.cell? ⟨wb, 0, none⟩ = some (.pointer (some ⟨sb, 0, none⟩)) ∧ w'.cell? ⟨wb, 1, none⟩ = some (.int .i64 x.run) ∧ w'.cell? ⟨wb, 3, none⟩ = some (.slice ab n cb) ∧ (convert 66 9 (.slice ab n cb)).run Tryd.prog w' = .ok (.string X) w')
      (first | exact ⟨c0, c1, c3, s0⟩ | exact s2 | (refine ⟨?_, ?_, ?_, unhide HCV ((unhide HC0).below (by (repeat (first | exact Below.refl _ _ | refine Below.drew ?_ | refine Below.alloc ?_ (by first | (simp; done) | (simp; omega)) _ | refine Below.setCell ?_ (by first | (simp; done) | (simp; omega)) _))))⟩ <;> go_simp))
      (first | (go_at_call 51; refine (unhide HAPP _ (by (repeat (first | exact Below.refl _ _ | refine Below.drew ?_ | refine Below.alloc ?_ (by first | (simp; done) | (simp; omega)) _ | refine Below.setCell ?_ (by first | (simp; done) | (simp; omega)) _))) (by simp) (by go_simp)).mono ?_; rintro e w2 ⟨rfl, hl2⟩; have HL2 := hide hl2; obtain ⟨y0, y1, y2, y3, y4, yf⟩ := wcells hl2.sto; have s2 := (⟨y0, y1, y3, unhide HCV hl2⟩ : _ ∧ _ ∧ _ ∧ _); have hz2 : wb < w2.heap.size := (Array.getElem?_eq_some_iff.1 hl2.sto).1; clear hl2))
    clear s2 s0 c0 c1 c2 c3 c4 cf
    go_wp2
    go_region_held3 (fun w' => w'.cell? ⟨wb, 0, none⟩ = some (.pointer (some ⟨sb, 0, none⟩)) ∧ w'.cell? ⟨wb, 1, none⟩ = some (.int .i64 x.run))
      (first | exact ⟨y0, y1⟩ | exact s3)
      (first | (go_at_call 54; refine (unhide HSL ((unhide HL2).below (by (repeat (first | exact Below.refl _ _ | refine Below.drew ?_ | refine Below.alloc ?_ (by first | (simp; done) | (simp; omega)) _ | refine Below.setCell ?_ (by first | (simp; done) | (simp; omega)) _))))).mono ?_; rintro e w3 ⟨rfl, hl3⟩; have HL3 := hide hl3; obtain ⟨z0, z1, z2, z3, z4, zf⟩ := wcells hl3.sto; have s3 := (⟨z0, z1⟩ : _ ∧ _); have hz3 : wb < w3.heap.size := (Array.getElem?_eq_some_iff.1 hl3.sto).1; clear hl3))
    clear s3 y0 y1 y2 y3 y4 yf
    have HFI := hide ((unhide HL3).fin (unhide HOW))
    go_wp2
    go_ret2
    exact ⟨rfl, unhide HFI⟩
end Rs
end Go.Proofs.YtigffjbefbndnaaDoor
