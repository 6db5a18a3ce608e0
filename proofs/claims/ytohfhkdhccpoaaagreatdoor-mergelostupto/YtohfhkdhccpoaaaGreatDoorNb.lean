/- Layer 10, the plain part: a sort of any outcome: what it may answer, what it leaves. No walk. -/
import Derived.Test.YtohfhkdhccpoaaaGreatDoorNa
namespace Go.Proofs.YtohfhkdhccpoaaaGreatDoor
open Go.RowKit Go.Shelf
namespace Rs
open Sm (Tx ofS)
/-- the failures of a batch -/
def Cb (c : Nat) : Prop := c = 0 ∨ c = 7 ∨ c = 8 ∨ c = 9
theorem ls_app_cb {m0 m : Sto} {n : Nat} {t : List UInt8} (h : Ls m0 m n t false) (L : List ByteArray) : Cb (app m n L).1 := by
  have hl : look m.runs n = some ⟨n, t, false⟩ := by rw [h.runs]; exact look_last (r := ⟨n, t, false⟩) h.lo
  unfold app Cb
  split
  · simp
  · rw [hl]
    simp only [Bool.false_eq_true, if_false]
    split <;> simp
theorem ls_sel_cb {m0 m : Sto} {n : Nat} {t : List UInt8} (h : Ls m0 m n t false) : Cb (sel m n).1 := by
  have hl : look m.runs n = some ⟨n, t, false⟩ := by rw [h.runs]; exact look_last (r := ⟨n, t, false⟩) h.lo
  unfold sel Cb
  split
  · simp
  · rw [hl]
    simp
theorem ls_puts_cb (n : Nat) (m0 : Sto) (bs : Nat) (hb : 1 ≤ bs) : ∀ (j : Nat) (m : Sto) (t T : List UInt8), T.length ≤ j → Ls m0 m n t false → Cb (wputs n bs m T).1 := by
  intro j
  induction j with
  | zero =>
    intro m t T hT h
    rw [wputs_stop (by omega)]
    exact .inl rfl
  | succ j ih =>
    intro m t T hT h
    by_cases hl : T.length < bs
    · rw [wputs_stop hl]; exact .inl rfl
    · by_cases h0 : (app m n [strB (T.take bs)]).1 = 0
      · rw [wputs_go hb hl h0]
        exact ih _ _ _ (by rw [List.length_drop]; omega) (ls_app h h0)
      · rw [wputs_no hb hl h0]
        exact ls_app_cb h _
theorem ls_clo_cb {m0 m : Sto} {n : Nat} {t buf : List UInt8} (h : Ls m0 m n t false) : Cb (wclo n m buf).1 := by
  unfold wclo
  split
  · exact ls_sel_cb h
  · split
    · rename_i h1
      exact ls_sel_cb (ls_app h h1)
    · exact ls_app_cb h _
theorem bat_cb {m : Sto} (ok : m.Ok) (L : List Tx) : Cb (bat m L).1 := by
  unfold bat
  by_cases hc : (crt m).1.2 = 0
  · rw [if_neg (fun e => e hc)]
    have hl : Ls m (crt m).2 (m.made + 1) [] false := by
      refine ⟨?_, fun x hx => by have := ok.nums x hx; omega⟩
      unfold crt at hc ⊢
      by_cases h1 : m.ahead = 1
      · rw [if_pos h1] at hc; cases hc
      · rw [if_neg h1] at hc ⊢
        by_cases h2 : 16777216 ≤ m.made
        · rw [if_pos h2] at hc; cases hc
        · rw [if_neg h2]; rfl
    obtain ⟨t1, l1⟩ := ls_puts2 (m.made + 1) m 512 (by decide) _ (crt m).2 [] (Um.frs (Um.rl L)) (Nat.le_refl _) hl
    have q1 := ls_puts_cb (m.made + 1) m 512 (by decide) _ (crt m).2 [] (Um.frs (Um.rl L)) (Nat.le_refl _) hl
    unfold batN
    split
    · exact q1
    · split
      · exact ls_clo_cb l1
      · exact .inl rfl
  · rw [if_pos hc]
    unfold crt Cb
    split
    · simp
    · split <;> simp
theorem fwr_rz {m0 m : Sto} {st : Nat → List Tx} {f : For} (h : RZ m0 m st f.made) (hf : ∀ x ∈ f.buf, x.size ≤ 255) :
    Cb (fwr m f).1 ∧ ((fwr m f).1 = 0 → (∃ st', RZ m0 (fwr m f).2.1 st' (fwr m f).2.2.made ∧ ((fwr m f).2.2.made.map st').flatten.length ≤ (f.made.map st).flatten.length + f.buf.length) ∧ (fwr m f).2.2.buf = [] ∧ (fwr m f).2.2.made.length = f.made.length + 1) ∧ ((fwr m f).1 ≠ 0 → (fwr m f).2.1.runs = m0.runs ∧ (fwr m f).2.1.Ok) := by
  have hfo : ∀ x ∈ ofS f.buf, x.size ≤ 255 := fun x hx => hf x (Sm.ofS_mem.1 hx)
  have hcb := bat_cb h.ok (ofS f.buf)
  unfold fwr
  by_cases h0 : (bat m (ofS f.buf)).1 = 0
  · rw [if_pos h0]
    refine ⟨.inl rfl, fun _ => ⟨⟨stU st (m.made + 1) (ofS f.buf), ?_⟩, rfl, by simp [For.wrote]⟩, fun e => absurd rfl e⟩
    have q := h.more (Sm.ofS_rs f.buf) hfo h0
    rw [show (bat m (ofS f.buf)).2.2 = m.made + 1 from (bat_ls h.ok h0).2.1]
    refine ⟨q, ?_⟩
    show ((f.made ++ [m.made + 1]).map (stU st (m.made + 1) (ofS f.buf))).flatten.length ≤ _
    rw [List.map_append, map_stU (fun k hk => by have := h.hi hk; omega), List.flatten_append, List.length_append]
    have := Sm.ofS_len f.buf
    simp [stU]
    omega
  · rw [if_neg h0]
    exact ⟨hcb, fun e => absurd e h0, fun _ => ⟨h.fail h0, remAll_okx (bat_okx h.ok _)⟩⟩
theorem adds_rz {m0 : Sto} : ∀ (X : List Tx) (m : Sto) (f : For) (st : Nat → List Tx), RZ m0 m st f.made → (∀ x ∈ f.buf, x.size ≤ 255) → (∀ x ∈ X, x.size ≤ 255) →
    Cb (adds m f X).1 ∧ ((adds m f X).1 = 0 → (∃ st', RZ m0 (adds m f X).2.1 st' (adds m f X).2.2.made ∧ ((adds m f X).2.2.made.map st').flatten.length + (adds m f X).2.2.buf.length ≤ (f.made.map st).flatten.length + f.buf.length + X.length) ∧ (∀ x ∈ (adds m f X).2.2.buf, x.size ≤ 255) ∧ (adds m f X).2.2.made.length ≤ f.made.length + X.length) ∧ ((adds m f X).1 ≠ 0 → (adds m f X).2.1.runs = m0.runs ∧ (adds m f X).2.1.Ok)
  | [], m, f, st, h, hf, _ => ⟨.inl rfl, fun _ => ⟨⟨st, h, by simp [adds]⟩, hf, by simp [adds]⟩, fun e => absurd rfl e⟩
  | x :: t, m, f, st, h, hf, hx => by
    have hx1 := hx x (List.mem_cons_self ..)
    have ht : ∀ y ∈ t, y.size ≤ 255 := fun y hy => hx y (List.mem_cons_of_mem _ hy)
    have hfp : ∀ y ∈ (f.push x).buf, y.size ≤ 255 := fun y hy => by
      rcases List.mem_append.1 hy with q | q
      · exact hf y q
      · rw [List.mem_singleton.1 q]; exact hx1
    by_cases hl : f.buf.length + 1 < f.size
    · rw [adds_room hl]
      obtain ⟨q1, q2, q3⟩ := adds_rz t m (f.push x) st h hfp ht
      exact ⟨q1, fun e => ⟨by
        obtain ⟨st', z1, z2⟩ := (q2 e).1
        refine ⟨st', z1, ?_⟩
        rw [show (f.push x).made = f.made from rfl, show (f.push x).buf.length = f.buf.length + 1 by simp [For.push]] at z2
        rw [List.length_cons]
        omega, (q2 e).2.1, by have q := (q2 e).2.2; rw [show (f.push x).made = f.made from rfl] at q; rw [List.length_cons]; omega⟩, q3⟩
    · obtain ⟨q1, q2, q3⟩ := fwr_rz (f := f.push x) h hfp
      by_cases h0 : (fwr m (f.push x)).1 = 0
      · rw [adds_go hl h0]
        obtain ⟨⟨st', z1, z4⟩, z2, z3⟩ := q2 h0
        obtain ⟨r1, r2, r3⟩ := adds_rz t _ _ st' z1 (by rw [z2]; exact fun _ q => by cases q) ht
        exact ⟨r1, fun e => ⟨by
          obtain ⟨st2, y1, y2⟩ := (r2 e).1
          refine ⟨st2, y1, ?_⟩
          rw [z2] at y2
          rw [show (f.push x).made = f.made from rfl, show (f.push x).buf.length = f.buf.length + 1 by simp [For.push]] at z4
          rw [List.length_cons]
          simp only [List.length_nil] at y2
          omega, (r2 e).2.1, by have q := (r2 e).2.2; rw [show (f.push x).made = f.made from rfl] at z3; rw [List.length_cons]; omega⟩, r3⟩
      · have e : adds m f (x :: t) = fwr m (f.push x) := by rw [adds, if_neg hl, if_neg h0]
        rw [e]
        exact ⟨q1, fun e => absurd e h0, q3⟩
theorem fins_rz {m0 m : Sto} {st : Nat → List Tx} {f : For} (h : RZ m0 m st f.made) (hf : ∀ x ∈ f.buf, x.size ≤ 255) :
    Cb (fins m f).1 ∧ ((fins m f).1 = 0 → (∃ st', RZ m0 (fins m f).2.1 st' (fins m f).2.2.made ∧ ((fins m f).2.2.made.map st').flatten.length ≤ (f.made.map st).flatten.length + f.buf.length) ∧ (fins m f).2.2.made.length ≤ f.made.length + 1) ∧ ((fins m f).1 ≠ 0 → (fins m f).2.1.runs = m0.runs ∧ (fins m f).2.1.Ok) := by
  unfold fins
  by_cases hb : f.buf = []
  · rw [if_pos hb]
    exact ⟨.inl rfl, fun _ => ⟨⟨st, h, Nat.le_add_right _ _⟩, Nat.le_succ _⟩, fun e => absurd rfl e⟩
  · rw [if_neg hb]
    obtain ⟨q1, q2, q3⟩ := fwr_rz h hf
    exact ⟨q1, fun e => ⟨(q2 e).1, Nat.le_of_eq (q2 e).2.2⟩, q3⟩
theorem mgA_rz {m0 : Sto} {fan : Nat} (h2 : 2 ≤ fan) : ∀ (f : Nat) (m : Sto) (st : Nat → List Tx) (qs : List Nat), RZ m0 m st qs → qs ≠ [] → qs.length ≤ f + 1 →
    Cb (mgA fan f m st qs).1 ∧ ((mgA fan f m st qs).1 = 0 → ∃ st', RZ m0 (mgA fan f m st qs).2.1 st' [(mgA fan f m st qs).2.2]) ∧ ((mgA fan f m st qs).1 ≠ 0 → (mgA fan f m st qs).2.1.runs = m0.runs ∧ (mgA fan f m st qs).2.2 = 0) := by
  intro f
  induction f with
  | zero =>
    intro m st qs h hne hl
    rw [mgA_one (by omega)]
    obtain ⟨k, rfl⟩ : ∃ k, qs = [k] := by
      match qs, hne, hl with
      | [k], _, _ => exact ⟨k, rfl⟩
    exact ⟨.inl rfl, fun _ => ⟨st, h⟩, fun e => absurd rfl e⟩
  | succ f ih =>
    intro m st qs h hne hl
    by_cases h1 : qs.length ≤ 1
    · rw [mgA_one h1]
      obtain ⟨k, rfl⟩ : ∃ k, qs = [k] := by
        match qs, hne, h1 with
        | [k], _, _ => exact ⟨k, rfl⟩
      exact ⟨.inl rfl, fun _ => ⟨st, h⟩, fun e => absurd rfl e⟩
    · by_cases h0 : (bat m (jL fan st qs)).1 = 0
      · rw [mgA_go h1 h0]
        have q := h.more (L := jL fan st qs) (Sm.ofS_rs _) (jL_fit h.qs) h0
        rw [show (bat m (jL fan st qs)).2.2 = m.made + 1 from (bat_ls h.ok h0).2.1]
        have e : qs ++ [m.made + 1] = qs.take fan ++ (qs.drop fan ++ [m.made + 1]) := by rw [← List.append_assoc, List.take_append_drop]
        rw [e] at q
        refine ih _ _ _ (RZ.lessAll _ _ _ q) (by simp) ?_
        simp
        omega
      · rw [mgA_no h1 h0]
        exact ⟨bat_cb h.ok _, fun e => absurd e h0, fun _ => ⟨h.fail h0, rfl⟩⟩
/-- the outcome of a sort: the failure, the store, the run -/
inductive Srt (m : Sto) (b fan : Nat) (X : List Tx) : Nat → Sto → Nat → Prop
  | long (h : X.any long = true) : Srt m b fan X 10 m 0
  | add {c : Nat} {m1 : Sto} {f1 : For} (h : X.any long = false) (hA : adds m ⟨b, [], [], 0⟩ X = (c, m1, f1)) (hc : c ≠ 0) : Srt m b fan X c m1 0
  | fin {c : Nat} {m1 m2 : Sto} {f1 f2 : For} (h : X.any long = false) (hA : adds m ⟨b, [], [], 0⟩ X = (0, m1, f1)) (hR : fins m1 f1 = (c, m2, f2)) (hc : c ≠ 0) : Srt m b fan X c m2 0
  | mrg {m1 m2 : Sto} {f1 f2 : For} {st : Nat → List Tx} (h : X.any long = false) (hA : adds m ⟨b, [], [], 0⟩ X = (0, m1, f1)) (hR : fins m1 f1 = (0, m2, f2)) (hq : Qs m2 st f2.made) (hz : f2.made.length ≤ X.length + 1) (hn : (f2.made.map st).flatten.length ≤ X.length) : Srt m b fan X (mrg fan m2 st f2.made).1 (mrg fan m2 st f2.made).2.1 (mrg fan m2 st f2.made).2.2
theorem srt_ex {m : Sto} (ok : m.Ok) (b fan : Nat) (h2 : 2 ≤ fan) (X : List Tx) : ∃ c m' n, Srt m b fan X c m' n ∧ (Cb c ∨ c = 10) ∧ (c = 0 → ∃ r : Run, m'.runs = m.runs ++ [r] ∧ r.num = n) ∧ (c ≠ 0 → m'.runs = m.runs ∧ n = 0) := by
  by_cases hl : X.any long = true
  · exact ⟨10, m, 0, .long hl, .inr rfl, (fun e => by cases e), fun _ => ⟨rfl, rfl⟩⟩
  · have hl' : X.any long = false := by simpa using hl
    have hx := long_no hl'
    obtain ⟨a1, a2, a3⟩ := adds_rz X m ⟨b, [], [], 0⟩ (fun _ => []) (RZ.start ok _) (fun _ q => by cases q) hx
    obtain ⟨cA, m1, f1, hA⟩ : ∃ cA m1 f1, adds m ⟨b, [], [], 0⟩ X = (cA, m1, f1) := ⟨_, _, _, rfl⟩
    rw [hA] at a1 a2 a3
    by_cases hc : cA = 0
    · subst hc
      obtain ⟨⟨st1, r1, l1⟩, hbf, hml⟩ := a2 rfl
      obtain ⟨b1, b2, b3⟩ := fins_rz r1 hbf
      obtain ⟨cF, m2, f2, hF⟩ : ∃ cF m2 f2, fins m1 f1 = (cF, m2, f2) := ⟨_, _, _, rfl⟩
      rw [hF] at b1 b2 b3
      by_cases hc2 : cF = 0
      · subst hc2
        obtain ⟨⟨st2, r2, l2⟩, hml2⟩ := b2 rfl
        have hlen : f2.made.length ≤ X.length + 1 := by simp at hml; simp at hml2; omega
        have hn : (f2.made.map st2).flatten.length ≤ X.length := by simp at l1; simp at l2; simp; omega
        refine ⟨_, _, _, .mrg hl' hA hF r2.qs hlen hn, ?_⟩
        by_cases hne : f2.made = []
        · rw [mrg, if_pos hne]
          rw [hne] at r2
          have e0 : m2.runs = m.runs := by have := r2.runs; simpa using this
          refine ⟨.inl (bat_cb r2.ok _), fun e => ⟨_, by rw [(bat_ls r2.ok e).1, e0], (bat_ls r2.ok e).2.1.symm⟩, fun e => ⟨(bat_fail r2.ok e).trans e0, ?_⟩⟩
          unfold bat at e ⊢
          split
          · rfl
          · rename_i h3
            rw [if_neg h3] at e
            unfold batN at e ⊢
            split
            · rfl
            · rename_i h4
              rw [if_neg h4] at e
              split
              · rfl
              · rename_i h5
                rw [if_neg h5] at e
                exact absurd rfl e
        · rw [mrg, if_neg hne]
          obtain ⟨d1, d2, d3⟩ := mgA_rz h2 f2.made.length m2 st2 f2.made r2 hne (Nat.le_succ _)
          exact ⟨.inl d1, fun e => by
            obtain ⟨st3, r3⟩ := d2 e
            exact ⟨rn st3 _, by rw [r3.runs]; rfl, rfl⟩, d3⟩
      · exact ⟨cF, m2, 0, .fin hl' hA hF hc2, .inl b1, fun e => absurd e hc2, fun _ => ⟨(b3 hc2).1, rfl⟩⟩
    · exact ⟨cA, m1, 0, .add hl' hA hc, .inl a1, fun e => absurd e hc, fun _ => ⟨(a3 hc).1, rfl⟩⟩
end Rs
end Go.Proofs.YtohfhkdhccpoaaaGreatDoor
