/- Layer 10, the plain part: a sort in a store that has room. No walk. -/
import Derived.Test.YtohfhkdhccpoaaaGreatDoorGp
import Derived.Test.YtohfhkdhccpoaaaGreatDoorGj
import Derived.Test.YtohfhkdhccpoaaaGreatDoorGf
import Derived.BigQuiet
import Derived.Laws.Cover1
import Derived.Test.YtohfhkdhccpoaaaGreatDoorGa
namespace Go.Proofs.YtohfhkdhccpoaaaGreatDoor
open Go.RowKit Go.Shelf
namespace Rs
open Sm (Tx ofS)
def rn (st : Nat → List Tx) (k : Nat) : Run := ⟨k, Um.frs (Um.rl (st k)), true⟩
/-- what m0 had, and behind it the runs qs, in which the texts X stand -/
structure RQ (m0 m : Sto) (st : Nat → List Tx) (qs : List Nat) (X : List Tx) : Prop where
  ok : m.Ok
  cap : m.cap = m0.cap
  ahead : m.ahead = 0
  runs : m.runs = m0.runs ++ qs.map (rn st)
  srt : qs.Pairwise (· < ·)
  lo : ∀ k ∈ qs, m0.made < k
  old : ∀ r ∈ m0.runs, r.num ≤ m0.made
  le : m0.made ≤ m.made
  rs : ∀ k ∈ qs, Sm.Rs (st k)
  mem : ∀ x, x ∈ (qs.map st).flatten ↔ x ∈ X
  sz : fz (qs.map st).flatten ≤ fz X
  fit : ∀ x ∈ X, x.size ≤ 255
  last : ∀ k, qs.getLast? = some k → k = m.made
theorem RQ.fitk {m0 m : Sto} {st : Nat → List Tx} {qs : List Nat} {X : List Tx} (h : RQ m0 m st qs X) {k : Nat} (hk : k ∈ qs) : ∀ x ∈ st k, x.size ≤ 255 := fun x hx => h.fit x ((h.mem x).1 (List.mem_flatten.2 ⟨_, List.mem_map.2 ⟨k, hk, rfl⟩, hx⟩))
theorem RQ.std {m0 m : Sto} {st : Nat → List Tx} {qs : List Nat} {X : List Tx} (h : RQ m0 m st qs X) {k : Nat} (hk : k ∈ qs) : Std m k (st k) :=
  ⟨⟨rn st k, look_of h.ok.sorted (r := rn st k) (by rw [h.runs]; exact List.mem_append.2 (.inr (List.mem_map.2 ⟨k, hk, rfl⟩))), rfl, rfl⟩, h.rs k hk, h.fitk hk⟩
theorem RQ.qs {m0 m : Sto} {st : Nat → List Tx} {qs : List Nat} {X : List Tx} (h : RQ m0 m st qs X) : Qs m st qs := ⟨fun _ hk => h.std hk, h.srt.imp fun a => Nat.ne_of_lt a⟩
theorem RQ.hi {m0 m : Sto} {st : Nat → List Tx} {qs : List Nat} {X : List Tx} (h : RQ m0 m st qs X) {k : Nat} (hk : k ∈ qs) : k ≤ m.made := (h.std hk).le h.ok
theorem RQ.swap {m0 m : Sto} {st : Nat → List Tx} {qs : List Nat} {X Y : List Tx} (h : RQ m0 m st qs X) (hm : ∀ x, x ∈ X ↔ x ∈ Y) (hz : fz (qs.map st).flatten ≤ fz Y) : RQ m0 m st qs Y :=
  { h with mem := fun x => (h.mem x).trans (hm x), sz := hz, fit := fun x hx => h.fit x ((hm x).2 hx) }
theorem tot_rn {st : Nat → List Tx} : ∀ {qs : List Nat}, (∀ x ∈ (qs.map st).flatten, x.size ≤ 255) → tot (qs.map (rn st)) ≤ fz (qs.map st).flatten
  | [], _ => by simp [tot]
  | k :: t, h => by
    have h1 := tot_rn (qs := t) fun x hx => h x (by simp only [List.map_cons, List.flatten_cons]; exact List.mem_append.2 (.inr hx))
    have h2 := frs_le (D := st k) fun x hx => h x (by simp only [List.map_cons, List.flatten_cons]; exact List.mem_append.2 (.inl hx))
    simp only [List.map_cons, List.flatten_cons, fz_app, tot]
    show (Um.frs (Um.rl (st k))).length + _ ≤ _
    omega
theorem RQ.tot {m0 m : Sto} {st : Nat → List Tx} {qs : List Nat} {X : List Tx} (h : RQ m0 m st qs X) : tot m.runs ≤ tot m0.runs + fz X := by
  have h1 := tot_rn (st := st) (qs := qs) fun x hx => h.fit x ((h.mem x).1 hx)
  have h2 := h.sz
  rw [h.runs, tot_app]
  omega
theorem map_stU {st : Nat → List Tx} {n : Nat} {L : List Tx} {qs : List Nat} (h : ∀ k ∈ qs, k ≠ n) : qs.map (stU st n L) = qs.map st := List.map_congr_left fun k hk => if_neg (h k hk)
theorem map_rnU {st : Nat → List Tx} {n : Nat} {L : List Tx} {qs : List Nat} (h : ∀ k ∈ qs, k ≠ n) : qs.map (rn (stU st n L)) = qs.map (rn st) := List.map_congr_left fun k hk => by unfold rn; rw [stU, if_neg (h k hk)]
/-- one run more -/
theorem RQ.more {m0 m : Sto} {st : Nat → List Tx} {qs : List Nat} {X L : List Tx} (h : RQ m0 m st qs X) (hr : Sm.Rs L) (hf : ∀ x ∈ L, x.size ≤ 255) (hm : m.made < 16777216) (hc : Rs.tot m0.runs + fz X + fz L ≤ m0.cap) :
    (bat m L).1 = 0 ∧ (bat m L).2.2 = m.made + 1 ∧ (bat m L).2.1.made = m.made + 1 ∧ RQ m0 (bat m L).2.1 (stU st (m.made + 1) L) (qs ++ [m.made + 1]) (X ++ L) := by
  have ht := h.tot
  have hL := frs_le hf
  have hcap : Rs.tot m.runs + (Um.frs (Um.rl L)).length ≤ m.cap := by rw [h.cap]; omega
  obtain ⟨b0, bl⟩ := bat_room (L := L) h.ok h.ahead hm hcap
  have hn : ∀ k ∈ qs, k ≠ m.made + 1 := fun k hk => by have := h.hi hk; omega
  have bok := bl.ok h.ok rfl hm hcap
  have e1 : (qs ++ [m.made + 1]).map (stU st (m.made + 1) L) = qs.map st ++ [L] := by
    rw [List.map_append, map_stU hn]
    simp [stU]
  have hfl : ((qs ++ [m.made + 1]).map (stU st (m.made + 1) L)).flatten = (qs.map st).flatten ++ L := by rw [e1]; simp
  refine ⟨b0, ((bat_made m L).1 b0).2, bl.made, bok, by rw [bl.cap, h.cap], bl.ahead, ?_, ?_, ?_, h.old, ?_, ?_, ?_, ?_, ?_, ?_⟩
  · rw [bl.runs, h.runs, List.map_append, map_rnU hn, List.append_assoc]
    simp [rn, stU]
  · rw [List.pairwise_append]
    refine ⟨h.srt, by simp, fun a ha c hc => ?_⟩
    simp at hc
    have := h.hi ha
    omega
  · intro k hk
    rcases List.mem_append.1 hk with q | q
    · exact h.lo k q
    · simp at q; have := h.le; omega
  · rw [bl.made]; have := h.le; omega
  · intro k hk
    rcases List.mem_append.1 hk with q | q
    · rw [stU, if_neg (hn k q)]; exact h.rs k q
    · simp at q; subst q; rw [stU, if_pos rfl]; exact hr
  · intro x
    rw [hfl, List.mem_append, List.mem_append, h.mem]
  · rw [hfl, fz_app, fz_app]
    have := h.sz
    omega
  · intro x hx
    rcases List.mem_append.1 hx with q | q
    · exact h.fit x q
    · exact hf x q
  · intro k hk
    rw [bl.made]
    simpa using hk.symm
/-- the first run is removed -/
theorem RQ.less {m0 m : Sto} {st : Nat → List Tx} {k : Nat} {t : List Nat} {X : List Tx} (h : RQ m0 m st (k :: t) X) : RQ m0 (rem m k).2 st t (t.map st).flatten := by
  obtain ⟨r, h1, _, _⟩ := (h.std (List.mem_cons_self ..)).run
  have hrm := look_mem h1
  have e : (rem m k).2 = { m with runs := drop m.runs k } := by unfold rem; rw [h1]
  have hnum : (r.num : Int) = k := hrm.2
  have hlt := List.pairwise_cons.1 h.srt
  have hd : drop m.runs k = m0.runs ++ t.map (rn st) := by
    rw [h.runs, List.map_cons]
    unfold drop
    rw [List.filter_append, List.filter_cons]
    have a1 : m0.runs.filter (fun r => !((r.num : Int) == (k : Int))) = m0.runs := List.filter_eq_self.2 fun x hx => by
      have := h.old x hx
      have := h.lo k (List.mem_cons_self ..)
      have : (x.num : Int) ≠ k := by omega
      simp [this]
    have a2 : (t.map (rn st)).filter (fun r => !((r.num : Int) == (k : Int))) = t.map (rn st) := List.filter_eq_self.2 fun x hx => by
      obtain ⟨j, hj, rfl⟩ := List.mem_map.1 hx
      have := hlt.1 j hj
      have : ((rn st j).num : Int) ≠ k := by show (j : Int) ≠ k; omega
      simp [this]
    rw [a1, a2]
    simp [rn]
  rw [e]
  have okd := drop_ok h.ok hrm.1
  rw [hnum] at okd
  refine ⟨okd, h.cap, h.ahead, hd, hlt.2, fun j hj => h.lo j (List.mem_cons_of_mem _ hj), h.old, h.le, fun j hj => h.rs j (List.mem_cons_of_mem _ hj), fun _ => Iff.rfl, Nat.le_refl _, fun x hx => h.fit x ((h.mem x).1 ?_), fun j hj => h.last j ?_⟩
  · rw [List.map_cons, List.flatten_cons]
    exact List.mem_append.2 (.inr hx)
  · rw [List.getLast?_cons, hj]; rfl
theorem RQ.lessAll {m0 : Sto} {st : Nat → List Tx} : ∀ (A B : List Nat) (m : Sto) (X : List Tx), RQ m0 m st (A ++ B) X → RQ m0 (remAll m A) st B (B.map st).flatten ∧ (remAll m A).made = m.made
  | [], B, m, X, h => ⟨h.swap (fun x => (h.mem x).symm) (Nat.le_refl _), rfl⟩
  | k :: A, B, m, X, h => by
    rw [remAll_cons]
    obtain ⟨h1, h2⟩ := RQ.lessAll A B _ _ (RQ.less h)
    exact ⟨h1, h2.trans (made_rem m k)⟩
/-- a round of merging -/
theorem RQ.round {m0 m : Sto} {st : Nat → List Tx} {qs : List Nat} {X : List Tx} (h : RQ m0 m st qs X) (fan : Nat) (hm : m.made < 16777216) (hc : Rs.tot m0.runs + 2 * fz X ≤ m0.cap) :
    (bat m (jL fan st qs)).1 = 0 ∧ (bat m (jL fan st qs)).2.2 = m.made + 1 ∧ RQ m0 (remAll (bat m (jL fan st qs)).2.1 (qs.take fan)) (stU st (m.made + 1) (jL fan st qs)) (qs.drop fan ++ [m.made + 1]) X ∧ (remAll (bat m (jL fan st qs)).2.1 (qs.take fan)).made = m.made + 1 := by
  have hmem : ∀ x ∈ jL fan st qs, x ∈ X := fun x hx => by
    obtain ⟨l, hl, hx⟩ := List.mem_flatten.1 (Sm.ofS_mem.1 hx)
    obtain ⟨k, hk, rfl⟩ := List.mem_map.1 hl
    exact (h.mem x).1 (List.mem_flatten.2 ⟨_, List.mem_map.2 ⟨k, List.mem_of_mem_take hk, rfl⟩, hx⟩)
  have hfz : fz (jL fan st qs) ≤ fz X := fz_mem _ _ (nodup_of (Sm.ofS_rs _)) hmem
  obtain ⟨b0, b1, b2, b3⟩ := h.more (L := jL fan st qs) (Sm.ofS_rs _) (fun x hx => h.fit x (hmem x hx)) hm (by omega)
  have hn : ∀ k ∈ qs, k ≠ m.made + 1 := fun k hk => by have := h.hi hk; omega
  have hn2 : ∀ k ∈ qs.drop fan, k ≠ m.made + 1 := fun k hk => hn k (List.mem_of_mem_drop hk)
  have e : qs ++ [m.made + 1] = qs.take fan ++ (qs.drop fan ++ [m.made + 1]) := by rw [← List.append_assoc, List.take_append_drop]
  rw [e] at b3
  obtain ⟨b4, b5⟩ := RQ.lessAll _ _ _ _ b3
  have hfl : ((qs.drop fan ++ [m.made + 1]).map (stU st (m.made + 1) (jL fan st qs))).flatten = ((qs.drop fan).map st).flatten ++ jL fan st qs := by
    rw [List.map_append, map_stU hn2]
    simp [stU]
  have hsp : (qs.map st).flatten = ((qs.take fan).map st).flatten ++ ((qs.drop fan).map st).flatten := by
    rw [← List.flatten_append, ← List.map_append, List.take_append_drop]
  refine ⟨b0, b1, b4.swap (fun x => ?_) ?_, b5.trans b2⟩
  · rw [hfl, List.mem_append, ← h.mem, hsp, List.mem_append]
    unfold jL
    rw [Sm.ofS_mem]
    exact Or.comm
  · rw [hfl, fz_app]
    have h1 := h.sz
    rw [hsp, fz_app] at h1
    have h2 : fz (jL fan st qs) ≤ fz ((qs.take fan).map st).flatten := fz_ofS _
    omega
theorem mgA_room {m0 : Sto} {fan : Nat} {X : List Tx} (h2 : 2 ≤ fan) (hc : Rs.tot m0.runs + 2 * fz X ≤ m0.cap) : ∀ (f : Nat) (m : Sto) (st : Nat → List Tx) (qs : List Nat), RQ m0 m st qs X → qs ≠ [] → qs.length ≤ f + 1 → m.made + qs.length ≤ 16777216 →
    ∃ m' st' n, mgA fan f m st qs = (0, m', n) ∧ RQ m0 m' st' [n] X ∧ m'.made + 1 ≤ m.made + qs.length ∧ (fan = 2 → m'.made + 1 = m.made + qs.length) := by
  intro f
  induction f with
  | zero =>
    intro m st qs h hne hl _
    obtain ⟨n, rfl⟩ : ∃ n, qs = [n] := List.length_eq_one_iff.1 (by have := List.length_pos_iff.2 hne; omega)
    exact ⟨m, st, n, rfl, h, by simp, fun _ => by simp⟩
  | succ f ih =>
    intro m st qs h hne hl hm
    have hpos := List.length_pos_iff.2 hne
    by_cases h1 : qs.length ≤ 1
    · obtain ⟨n, rfl⟩ : ∃ n, qs = [n] := List.length_eq_one_iff.1 (by omega)
      exact ⟨m, st, n, mgA_one h1, h, by simp, fun _ => by simp⟩
    · obtain ⟨b0, b1, b3, b4⟩ := h.round fan (by omega) hc
      rw [mgA_go h1 b0, b1]
      have hll : (qs.drop fan ++ [m.made + 1]).length ≤ qs.length - 1 := by
        rw [List.length_append, List.length_drop]
        simp only [List.length_cons, List.length_nil]
        omega
      obtain ⟨m', st', n, q1, q2, q3, q4⟩ := ih _ _ _ b3 (by simp) (by omega) (by rw [b4]; omega)
      refine ⟨m', st', n, q1, q2, by rw [b4] at q3; omega, fun e => ?_⟩
      have q5 := q4 e
      rw [b4, List.length_append, List.length_drop, e] at q5
      simp only [List.length_cons, List.length_nil] at q5
      omega
end Rs
end Go.Proofs.YtohfhkdhccpoaaaGreatDoor
/- Layer 10, the plain part: a whole sort in a store that has room. No walk. -/
namespace Go.Proofs.YtohfhkdhccpoaaaGreatDoor
open Go.RowKit Go.Shelf
namespace Rs
open Sm (Tx ofS)
/-- in the midst of forming batches of the words D -/
structure FQ (m0 : Sto) (b : Nat) (m : Sto) (f : For) (D : List Tx) : Prop where
  ex : ∃ st X, RQ m0 m st f.made X ∧ (∀ x, x ∈ X ∨ x ∈ f.buf ↔ x ∈ D) ∧ fz X + fz f.buf ≤ fz D
  size : f.size = b
  buf : f.buf.length < b
  fit : ∀ x ∈ f.buf, x.size ≤ 255
  few : f.made.length + f.buf.length ≤ D.length
  made : m.made = m0.made + f.made.length
  cnt : f.made.length * b + f.buf.length = D.length
theorem FQ.wr {m0 : Sto} {m : Sto} {f : For} {D : List Tx} {st : Nat → List Tx} {X : List Tx} (h : RQ m0 m st f.made X) (hx : ∀ x, x ∈ X ∨ x ∈ f.buf ↔ x ∈ D) (hz : fz X + fz f.buf ≤ fz D) (fit : ∀ x ∈ f.buf, x.size ≤ 255) (hm : m.made < 16777216) (hc : Rs.tot m0.runs + fz D ≤ m0.cap) :
    (fwr m f).1 = 0 ∧ (fwr m f).2.1.made = m.made + 1 ∧ (fwr m f).2.2 = f.wrote (m.made + 1) ∧ ∃ st', RQ m0 (fwr m f).2.1 st' (f.made ++ [m.made + 1]) D := by
  have h1 := fz_ofS f.buf
  obtain ⟨b0, b1, b2, b3⟩ := h.more (L := ofS f.buf) (Sm.ofS_rs _) (fun x hx => fit x (Sm.ofS_mem.1 hx)) hm (by omega)
  unfold fwr
  rw [if_pos b0, b1]
  refine ⟨rfl, b2, rfl, _, b3.swap (fun x => ?_) ?_⟩
  · rw [List.mem_append, Sm.ofS_mem]; exact hx x
  · have := b3.sz
    rw [fz_app] at this
    omega
theorem FQ.add {m0 : Sto} {b : Nat} {m : Sto} {f : For} {D : List Tx} (h : FQ m0 b m f D) {x : Tx} (hx : x.size ≤ 255) (hc : Rs.tot m0.runs + fz (D ++ [x]) ≤ m0.cap) (hm : m0.made + D.length < 16777216) (hb : 1 ≤ b) :
    (f.buf.length + 1 < f.size → FQ m0 b m (f.push x) (D ++ [x])) ∧ (¬ f.buf.length + 1 < f.size → (fwr m (f.push x)).1 = 0 ∧ FQ m0 b (fwr m (f.push x)).2.1 (fwr m (f.push x)).2.2 (D ++ [x])) := by
  obtain ⟨⟨st, X, r, hmem, hsz⟩, h1, h2, h3, h4, h5, h6⟩ := h
  have hmem' : ∀ y, y ∈ X ∨ y ∈ (f.push x).buf ↔ y ∈ D ++ [x] := fun y => by
    show y ∈ X ∨ y ∈ f.buf ++ [x] ↔ _
    rw [List.mem_append, List.mem_append, ← hmem]
    exact or_assoc.symm
  have hsz' : fz X + fz (f.push x).buf ≤ fz (D ++ [x]) := by
    show fz X + fz (f.buf ++ [x]) ≤ _
    rw [fz_app, fz_app]; omega
  have hfit' : ∀ y ∈ (f.push x).buf, y.size ≤ 255 := fun y hy => by
    rcases List.mem_append.1 hy with q | q
    · exact h3 y q
    · simp at q; subst q; exact hx
  refine ⟨fun hl => ⟨⟨st, X, r, hmem', hsz'⟩, h1, ?_, hfit', ?_, h5, ?_⟩, fun hl => ?_⟩
  · show (f.buf ++ [x]).length < b
    rw [List.length_append]; simp only [List.length_cons, List.length_nil]; omega
  · show f.made.length + (f.buf ++ [x]).length ≤ (D ++ [x]).length
    rw [List.length_append, List.length_append]; simp only [List.length_cons, List.length_nil]; omega
  · show f.made.length * b + (f.buf ++ [x]).length = (D ++ [x]).length
    rw [List.length_append, List.length_append]; simp only [List.length_cons, List.length_nil]; omega
  · obtain ⟨w0, w1, w2, st', w3⟩ := FQ.wr (f := f.push x) r hmem' hsz' hfit' (by omega) hc
    refine ⟨w0, ?_⟩
    rw [w2]
    refine ⟨⟨st', D ++ [x], w3, fun y => ?_, ?_⟩, h1, ?_, (fun y hy => by cases hy), ?_, ?_, ?_⟩
    · simp [For.wrote]
    · simp [For.wrote, fz]
    · simp only [For.wrote, List.length_nil]; omega
    · simp only [For.wrote, For.push, List.length_append, List.length_cons, List.length_nil]; omega
    · rw [w1, h5]; simp only [For.wrote, For.push, List.length_append, List.length_cons, List.length_nil]; omega
    · simp only [For.wrote, For.push, List.length_append, List.length_cons, List.length_nil, Nat.add_mul]; omega
theorem FQ.adds {m0 : Sto} {b : Nat} (hb : 1 ≤ b) : ∀ (V : List Tx) (m : Sto) (f : For) (D : List Tx), FQ m0 b m f D → (∀ x ∈ V, x.size ≤ 255) → Rs.tot m0.runs + fz (D ++ V) ≤ m0.cap → m0.made + (D ++ V).length ≤ 16777216 →
    (adds m f V).1 = 0 ∧ FQ m0 b (adds m f V).2.1 (adds m f V).2.2 (D ++ V)
  | [], m, f, D, h, _, _, _ => ⟨rfl, by rw [List.append_nil]; exact h⟩
  | x :: t, m, f, D, h, hx, hc, hm => by
    have e : D ++ x :: t = (D ++ [x]) ++ t := by simp
    rw [e] at hc hm ⊢
    have hc1 := hc
    rw [fz_app] at hc1
    have hm1 := hm
    rw [List.length_append, List.length_append] at hm1
    simp only [List.length_cons, List.length_nil] at hm1
    obtain ⟨a1, a2⟩ := h.add (x := x) (hx x (List.mem_cons_self ..)) (by omega) (by omega) hb
    have ht : ∀ y ∈ t, y.size ≤ 255 := fun y hy => hx y (List.mem_cons_of_mem _ hy)
    by_cases hl : f.buf.length + 1 < f.size
    · rw [adds_room hl]
      exact FQ.adds hb t m _ _ (a1 hl) ht hc hm
    · rw [adds_go hl (a2 hl).1]
      exact FQ.adds hb t _ _ _ (a2 hl).2 ht hc hm
/-- what a sort leaves -/
structure Sorted (m0 m : Sto) (n : Nat) (X : List Tx) : Prop where
  ok : m.Ok
  cap : m.cap = m0.cap
  ahead : m.ahead = 0
  runs : m.runs = m0.runs ++ [⟨n, Um.frs (Um.rl (ofS X)), true⟩]
  lo : m0.made < n
  hi : n = m.made
theorem srt_room {m0 : Sto} (ok : m0.Ok) (ha : m0.ahead = 0) {b fan : Nat} (hb : 1 ≤ b) (h2 : 2 ≤ fan) {X : List Tx} (hx : ∀ x ∈ X, x.size ≤ 255) (hc : Rs.tot m0.runs + 2 * fz X ≤ m0.cap) (hm : m0.made + 2 * X.length + 1 ≤ 16777216) :
    ∃ m1 f1 m2 f2 st, adds m0 ⟨b, [], [], 0⟩ X = (0, m1, f1) ∧ fins m1 f1 = (0, m2, f2) ∧ Qs m2 st f2.made ∧ f2.made.length ≤ 16777216 ∧ ∃ m' n, mrg fan m2 st f2.made = (0, m', n) ∧ Sorted m0 m' n X ∧ m'.made ≤ m0.made + 2 * X.length + 1 ∧ (X ≠ [] → fan = 2 → b = 1 → m'.made + 1 = m0.made + 2 * X.length) ∧ (X ≠ [] → X.length ≤ b → m'.made = m0.made + 1) := by
  have r0 : RQ m0 m0 (fun _ => []) [] [] := ⟨ok, rfl, ha, by simp, by simp, (fun _ q => by cases q), (fun r hr => (ok.nums r hr).2), Nat.le_refl _, (fun _ q => by cases q), fun x => by simp, by simp, (fun _ q => by cases q), (fun k hk => by cases hk)⟩
  have f0 : FQ m0 b m0 ⟨b, [], [], 0⟩ [] := ⟨⟨_, [], r0, fun x => by simp, by simp [fz]⟩, rfl, hb, (fun _ q => by cases q), by simp, by simp, by simp⟩
  obtain ⟨a0, a1⟩ := FQ.adds hb X m0 ⟨b, [], [], 0⟩ [] f0 hx (by rw [List.nil_append]; omega) (by rw [List.nil_append]; omega)
  rw [List.nil_append] at a1
  obtain ⟨m1, hm1⟩ : ∃ m1, (adds m0 ⟨b, [], [], 0⟩ X).2.1 = m1 := ⟨_, rfl⟩
  obtain ⟨f1, hf1⟩ : ∃ f1, (adds m0 ⟨b, [], [], 0⟩ X).2.2 = f1 := ⟨_, rfl⟩
  rw [hm1, hf1] at a1
  have hA : adds m0 ⟨b, [], [], 0⟩ X = (0, m1, f1) := Prod.ext a0 (Prod.ext hm1 hf1)
  obtain ⟨⟨st, Y, r, hmem, hsz⟩, q1, q2, q3, q4, q5, q6⟩ := a1
  have hF : ∃ m2 f2 st2, fins m1 f1 = (0, m2, f2) ∧ RQ m0 m2 st2 f2.made X ∧ m2.made = m0.made + f2.made.length ∧ f2.made.length ≤ X.length ∧ (X ≠ [] → f2.made ≠ []) ∧ (b = 1 → f2.made.length = X.length) ∧ (X.length ≤ b → f2.made.length ≤ 1) := by
    have hq1 : X.length ≤ b → f1.made.length = 0 ∨ (f1.made.length = 1 ∧ f1.buf.length = 0) := fun hl => by
      rcases hq : f1.made.length with _ | _ | q
      · exact .inl rfl
      · rw [hq] at q6
        exact .inr ⟨rfl, by omega⟩
      · rw [hq, Nat.add_mul, Nat.add_mul] at q6
        have : 0 ≤ q * b := Nat.zero_le _
        omega
    by_cases hbuf : f1.buf = []
    · have hb0 : f1.buf.length = 0 := by rw [hbuf]; rfl
      refine ⟨m1, f1, st, by unfold fins; rw [if_pos hbuf], r.swap (fun x => ?_) ?_, q5, by omega, fun hX e => ?_, fun e => ?_, fun hl => ?_⟩
      · rw [← hmem, hbuf]; simp
      · have := r.sz; omega
      · rw [e, hb0] at q6
        have := List.length_pos_iff.2 hX
        simp at q6
        omega
      · rw [e] at q6; omega
      · rcases hq1 hl with z | z <;> omega
    · have hpos := List.length_pos_iff.2 hbuf
      obtain ⟨w0, w1, w2, st', w3⟩ := FQ.wr r hmem hsz q3 (by omega) (by omega)
      have hml : (fwr m1 f1).2.2.made.length = f1.made.length + 1 := by rw [w2]; simp [For.wrote]
      refine ⟨(fwr m1 f1).2.1, (fwr m1 f1).2.2, st', by unfold fins; rw [if_neg hbuf]; exact Prod.ext w0 rfl, by rw [w2]; exact w3, by omega, by omega, fun _ e => ?_, fun e => by omega, fun hl => ?_⟩
      · rw [e] at hml; simp at hml
      · rcases hq1 hl with z | z <;> omega
  obtain ⟨m2, f2, st2, g1, g2, g3, g4, g5, g6, g7⟩ := hF
  refine ⟨m1, f1, m2, f2, st2, hA, g1, g2.qs, by omega, ?_⟩
  have fin : ∀ m' st' n, RQ m0 m' st' [n] X → Sorted m0 m' n X := fun m' st' n rr => by
    have e : st' n = ofS X := Sm.rs_ext (rr.rs n (by simp)) (Sm.ofS_rs X) fun x => by rw [Sm.ofS_mem, ← rr.mem]; simp
    refine ⟨rr.ok, rr.cap, rr.ahead, ?_, rr.lo n (by simp), rr.last n (by simp)⟩
    rw [rr.runs]
    simp [rn, e]
  by_cases hne : f2.made = []
  · have hX : X = [] := Classical.byContradiction fun e => g5 e hne
    rw [hne] at g2 ⊢
    obtain ⟨b0, b1, b2, b3⟩ := g2.more (L := []) (by simp [Sm.Rs]) (fun _ q => by cases q) (by rw [g3, hne]; simp; omega) (by rw [fz_nil]; omega)
    refine ⟨(bat m2 []).2.1, m2.made + 1, ?_, fin _ _ _ (b3.swap (fun x => by simp) (by have := b3.sz; simpa using this)), by rw [b2, g3, hne]; simp, fun e => absurd hX e, fun e => absurd hX e⟩
    rw [mrg, if_pos rfl]
    exact Prod.ext b0 (Prod.ext rfl b1)
  · obtain ⟨m', st', n, z1, z2, z3, z4⟩ := mgA_room h2 hc f2.made.length m2 st2 f2.made g2 hne (Nat.le_succ _) (by omega)
    have z5 := fin _ _ _ z2
    have z6 := z5.lo
    have z7 := z5.hi
    refine ⟨m', n, ?_, z5, by omega, fun _ e1 e2 => ?_, fun _ hl => ?_⟩
    · rw [mrg, if_neg hne]
      exact z1
    · have := z4 e1; have := g6 e2; omega
    · have := g7 hl; omega
end Rs
end Go.Proofs.YtohfhkdhccpoaaaGreatDoor
/- Layer 9: the laws' own fit, text, ints. -/
namespace Go.Proofs.YtohfhkdhccpoaaaGreatDoor
open Go.RowKit
namespace Rs
open Sm (Tx ofS)
/-- what fits: short texts, with their sizes' sum -/
structure Fit (D : List Tx) (z : Nat) : Prop where
  short : ∀ x ∈ D, x.size ≤ 255
  sum : fz D = z
theorem Fit.push {D : List Tx} {z : Nat} {x : Tx} (h : Fit D z) (hx : x.size ≤ 255) : Fit (D ++ [x]) (z + (x.size + 2)) := by
  refine ⟨fun y hy => ?_, ?_⟩
  · rcases List.mem_append.1 hy with hy | hy
    · exact h.short y hy
    · rw [List.mem_singleton.1 hy]; exact hx
  · rw [fz_app, h.sum, fz_cons, fz_nil]
set_option maxRecDepth 100000 in
set_option maxHeartbeats 2000000 in
theorem fit_any {w : World} {v : Value} {L : List Tx} (hT : Um.Txs w v L) (hn : L.length ≤ 9223372036854775807) :
    Calls Tryz.prog 14 #[v] w fun e w' => ∃ u D z, e = .returned (.tuple #[u, .int .i64 (z : Nat)]) ∧ z ≤ 1048832 ∧ Fit D z ∧ Um.OwnT w.heap.size w' u D ∧ Below w.heap.size w w' := by
  obtain ⟨i0, hi, hz0, hz1, hz2⟩ := Um.info_parts Um.infoT
  obtain ⟨ao, cap, rfl, hcap, hnn, hat⟩ := hT
  have HAT := hide hat
  obtain ⟨N, hN⟩ : ∃ N, N = L.length := ⟨_, rfl⟩
  have HN := hide hN
  rw [← hN] at hn hcap ⊢
  clear hat hN hnn
  go_enter Tryz.func14, Tryz.ntmps14
  go_wp2
  go_loopw [4, 5, 10] (fun s4 s5 s10 wr => ∃ (k z : Nat) (u : Value) (D : List Tx), u = s4 ∧ s5 = .int .i64 z ∧ s10 = .int .i64 k ∧ k ≤ N ∧ z ≤ 1048832 ∧ 2 * D.length ≤ z ∧ Hid (Fit D z) ∧ Hid (Um.OwnT w.heap.size wr u D) ∧ Hid (Below w.heap.size w wr)) (fun _ _ k _ => N - (intOf k).toNat)
  case atStart => exact ⟨0, 0, _, [], rfl, rfl, rfl, Nat.zero_le _, by omega, by simp, ⟨by simp, rfl⟩, Um.ownT_nil _ _, Below.refl _ _⟩
  case round =>
    obtain ⟨k, z, u, D, rfl, rfl, rfl, hk, hz, hD, HFT, HO, HBr⟩ := hrel
    by_cases hlt : k < N
    · have hltz : (k : Int) < (N : Int) := by omega
      have hk0 : 0 ≤ (k : Int) := by omega
      have hltN : k < L.length := by rw [← unhide HN]; exact hlt
      obtain ⟨x, hx⟩ : ∃ x, L[k]? = some x := ⟨_, List.getElem?_eq_getElem hltN⟩
      obtain ⟨g, off, rfl, hg, hc⟩ := unhide HAT (by omega)
      have hcx : wr.cell? ⟨g, off + k, none⟩ = some (.string x) := ((unhide HBr).cell (p := ⟨g, off + k, none⟩) hg).trans (hc k x hx)
      clear hc hx hltN
      by_cases hs : x.size ≤ 255
      · have hsz : (x.size : Int) ≤ 255 := by omega
        by_cases hzz : z < 1048576
        · have hzz2 : (z : Int) < 1048576 := by omega
          have HF2 := hide ((unhide HFT).push hs)
          go_wp2_with (at_builtin; refine wpList_append_own _ rfl _ _ 29 rfl w.heap.size 9 i0 (.string ByteArray.empty) 1 16 Tryz.underlying29 hi hz0 hz1 hz2 rfl (by decide) _ _ _ rfl ((unhide HO).below ((Below.refl _ _).alloc (Nat.le_refl _) _)) ⟨wr.heap.size, 0, none⟩ 1 1 [.string x] rfl rfl (Um.new_cells _ #[.string x] _) (by simp [Value.oneCell']) (by unfold maxLen; omega) (by omega) (by have := (unhide HBr).size; simp; omega) ?_; intro v' w2 hown' hgrow hnil; clear hnil; have HO2 := hide (Um.ownT_push hown'); have HB2 := hide (Um.push1 (unhide HO) (unhide HBr) (Nat.le_refl _) hgrow); clear hown' hgrow)
          go_roundw
          case rel => exact ⟨k + 1, z + (x.size + 2), v', D ++ [x], rfl, by go_num, by go_num, by omega, by omega, by simp only [List.length_append, List.length_cons, List.length_nil]; omega, HF2, HO2, HB2⟩
          case measure => simp [intOf]; omega
        · have hzz2 : ¬ (z : Int) < 1048576 := by omega
          go_wp2
          go_roundw
          case rel => exact ⟨k + 1, z, _, D, rfl, rfl, by go_num, by omega, by omega, hD, HFT, HO, HBr⟩
          case measure => simp [intOf]; omega
      · have hsz : ¬ (x.size : Int) ≤ 255 := by omega
        go_wp2
        go_roundw
        case rel => exact ⟨k + 1, z, _, D, rfl, rfl, by go_num, by omega, by omega, hD, HFT, HO, HBr⟩
        case measure => simp [intOf]; omega
    · have hltz : ¬ (k : Int) < (N : Int) := by omega
      obtain ⟨a2, c2, rfl⟩ := own_slice (unhide HO)
      go_wp2
      go_ret2
      exact ⟨_, D, z, rfl, by omega, unhide HFT, unhide HO, unhide HBr⟩
set_option maxRecDepth 100000 in
theorem text_any {w : World} {E : Nat → Addr} {B sb n : Nat} {m : Sto} {F : Nat → Prop} {T : List UInt8} (V : EnvR w E B) (hF : ∀ b, F b → B ≤ b) (hB : B ≤ w.heap.size) (h : At w sb m F) (hn : n ≤ 16777216) (hl : look m.runs n = some ⟨n, T, true⟩) :
    Calls Tryz.prog 18 #[.pointer (some ⟨sb, 0, none⟩), .int .i64 n] w fun e w' => e = .returned (.string (strB T)) ∧ Below w.heap.size w w' := by
  have hT : T.length ≤ 67108864 := by
    have h1 := tot_mem (look_mem hl).1
    have h2 := h.ok.used
    have h3 := h.ok.cap
    simp only at h1
    omega
  have HSZ : Hid (Calls Tryz.prog 40 #[.pointer (some ⟨sb, 0, none⟩), .int .i64 n] w fun e w' => e = .returned (.tuple #[.int .i64 T.length, .nilIface]) ∧ Below w.heap.size w w') := by
    have q := size_any (k := (n : Int)) h (V.gs hF) (by omega) (by omega)
    rw [show siz m n = ((T.length : Int), 0) by unfold siz; rw [hl]] at q
    exact q
  have HRD : Hid (∀ W, Below w.heap.size w W → Calls Tryz.prog 41 #[.pointer (some ⟨sb, 0, none⟩), .int .i64 n, .int .i64 0, .int .i64 T.length] W fun e w' => e = .returned (.tuple #[.string (strB T), .nilIface]) ∧ Below w.heap.size w w') := fun W hW => by
    have q := read_any (k := (n : Int)) (a := 0) (n := (T.length : Int)) (h.kept (w' := W) (fun b hb => hW.block b (h.lt b hb)) (fun _ x => x) (fun b hb => Nat.lt_of_lt_of_le (h.lt b hb) hW.size)) (V.below (hW.mono hB)) hF (by omega) (by omega) (by omega) (by omega)
    have e : rea m n 0 (T.length : Int) = (T, 0) := by
      unfold rea
      rw [hl]
      simp only [if_true]
      rw [if_neg (by omega)]
      simp
    rw [e] at q
    exact q.mono fun e w' hh => ⟨hh.1, hW.trans (hh.2.mono hW.size)⟩
  clear V hF h hl
  go_enter Tryz.func18, Tryz.ntmps18
  go_wp2_with (first
    | (go_at_call 40; refine (unhide HSZ).mono ?_; rintro e w1 ⟨rfl, h1⟩; have H1 := hide h1; clear h1)
    | (go_at_call 41; refine (unhide HRD _ (unhide H1)).mono ?_; rintro e w2 ⟨rfl, h2⟩; have H2 := hide h2; clear h2))
  go_ret
  exact ⟨rfl, unhide H2⟩
end Rs
end Go.Proofs.YtohfhkdhccpoaaaGreatDoor
/- Layer 10: the laws' own has; small facts. -/
namespace Go.Proofs.YtohfhkdhccpoaaaGreatDoor
open Go.RowKit
namespace Rs
open Sm (Tx ofS)
theorem tx_b : (⟨#[98]⟩ : Tx) ≠ ⟨#[97]⟩ := by decide
theorem ofS_ba : ofS [(⟨#[98]⟩ : Tx), ⟨#[97]⟩] = [⟨#[97]⟩, ⟨#[98]⟩] := by
  refine Sm.rs_ext (Sm.ofS_rs _) ?_ fun x => by rw [Sm.ofS_mem]; simp [or_comm]
  rw [Sm.rs_cons]
  exact ⟨fun x hx => by rw [List.mem_singleton.1 hx]; exact Sm.lt_iff.2 (by decide), by simp [Sm.Rs]⟩
theorem frs_ab : Um.frs (Um.rl [(⟨#[97]⟩ : Tx), ⟨#[98]⟩]) = [1, 97, 1, 98] := by
  simp only [Um.frs, Um.rl, List.map_cons, List.map_nil, List.flatMap_cons, List.flatMap_nil, Um.fr, Um.lst]
  rw [Um.uL_small (by decide), Um.uL_small (by decide)]
  rfl
theorem tl_eq {a b : Tx} (h : (a.toList == b.toList) = true) : a = b := by
  have e : a.toList = b.toList := by simpa using h
  rw [Lib.toList_data, Lib.toList_data] at e
  exact Sm.tx_ext e
set_option maxRecDepth 100000 in
theorem has_yes {w : World} {v : Value} {L : List Tx} {x : Tx} (hT : Um.Txs w v L) (hn : L.length ≤ 9223372036854775806) (hx : x ∈ L) :
    Calls Tryz.prog 19 #[v, .string x] w fun e w' => e = .returned (.bool true) ∧ w' = w := by
  obtain ⟨ao, cap, rfl, hcap, hnn, hat⟩ := hT
  have HAT := hide hat
  have HX := hide hx
  generalize hN : L.length = N at *
  have HN := hide hN
  clear hat hN hx hnn
  go_enter Tryz.func19, Tryz.ntmps19
  go_wp2
  go_loop [9] (fun i => ∃ k : Nat, i = .int .i64 k ∧ k ≤ N ∧ Hid (¬ x ∈ L.take k)) (fun i => N - (intOf i).toNat)
  case atStart => exact ⟨0, rfl, Nat.zero_le _, by simp [Hid]⟩
  case round =>
    obtain ⟨k, rfl, hk, HT⟩ := hrel
    by_cases hlt : k < N
    · have hltz : (k : Int) < (N : Int) := by omega
      have hk0 : 0 ≤ (k : Int) := by omega
      have hlL : k < L.length := by rw [unhide HN]; exact hlt
      obtain ⟨y, hy⟩ : ∃ y, L[k]? = some y := ⟨_, List.getElem?_eq_getElem hlL⟩
      obtain ⟨g, off, rfl, hg, hc⟩ := unhide HAT (by omega)
      have hcx := hc k y hy
      cases he : (y.toList == x.toList) with
      | true =>
        clear hc hy
        go_wp2
        go_ret
        exact ⟨rfl, rfl⟩
      | false =>
        have HT2 : Hid (¬ x ∈ L.take (k + 1)) := fun hm => by
          rw [List.take_succ_eq_append_getElem hlL, List.mem_append] at hm
          rcases hm with hm | hm
          · exact unhide HT hm
          · rw [List.mem_singleton, (List.getElem?_eq_some_iff.1 hy).2] at hm
            rw [hm] at he
            simp at he
        clear hc hy
        go_wp2
        go_round
        case rel => exact ⟨k + 1, by go_num, by omega, HT2⟩
        case measure => simp [intOf]; omega
    · exfalso
      have := unhide HT
      rw [List.take_of_length_le (by rw [unhide HN]; omega)] at this
      exact this (unhide HX)
end Rs
end Go.Proofs.YtohfhkdhccpoaaaGreatDoor
/- Layer 5: Peak. -/
namespace Go.Proofs.YtohfhkdhccpoaaaGreatDoor
open Go.RowKit
namespace Rs
theorem peak_nil (w : World) : Calls Tryz.prog 22 #[.pointer none] w fun e w' => e = .returned (.int .i64 0) ∧ w' = w := by
  go_enter Tryz.func22, Tryz.ntmps22
  go_wp2
  go_ret
  exact ⟨rfl, rfl⟩
theorem peak_any {w : World} {sb : Nat} {m : Sto} {F : Nat → Prop} (h : At w sb m F) : Calls Tryz.prog 22 #[.pointer (some ⟨sb, 0, none⟩)] w fun e w' => e = .returned (.int .i64 m.peak) ∧ w' = w := by
  obtain ⟨mv, hs, _⟩ := h.map
  obtain ⟨_, _, _, _, c4, _, fz⟩ := cells_sto hs
  clear h hs
  go_enter Tryz.func22, Tryz.ntmps22
  go_wp2
  go_ret
  exact ⟨rfl, rfl⟩
end Rs
end Go.Proofs.YtohfhkdhccpoaaaGreatDoor
/- Layer 10: Sort where there is room; the law's wakes. -/
namespace Go.Proofs.YtohfhkdhccpoaaaGreatDoor
open Go.RowKit Go.Shelf
namespace Rs
open Sm (Tx ofS)

theorem EnvZ.over {w : World} {E : Nat → Addr} {B C : Nat} (h : EnvZ w E B) (hC : B ≤ C) : EnvZ w E C := ⟨h.toEnvR.over hC, h.sa, h.to, h.apz, fun i hi => Nat.lt_of_lt_of_le (h.ltz i hi) hC⟩
theorem sort_ok {w : World} {E : Nat → Addr} {Be sb fan b : Nat} {m : Sto} {F : Nat → Prop} {v : Value} {X : List Tx} (V : EnvZ w E Be) (hF : ∀ b, F b → Be ≤ b) (hB : Be ≤ w.heap.size) (h : At w sb m F) (hT : Um.Txs w v X) (hv : ∀ a n c, v = .slice (some a) n c → ¬ F a.block ∧ a.block < w.heap.size) (hx : ∀ x ∈ X, x.size ≤ 255) (hb1 : 1 ≤ b) (hb2 : b ≤ 65536) (h2 : 2 ≤ fan) (h64 : fan ≤ 64)
    (ha : m.ahead = 0) (hc : tot m.runs + 2 * fz X ≤ m.cap) (hm : m.made + 2 * X.length + 1 ≤ 16777216) :
    Calls Tryz.prog 15 #[.pointer (some ⟨sb, 0, none⟩), .int .i64 b, .int .i64 fan, v] w fun e w' => ∃ m' n, e = .returned (.tuple #[.int .i64 (n : Nat), .nilIface]) ∧ Sorted m m' n X ∧ m'.made ≤ m.made + 2 * X.length + 1 ∧ (X ≠ [] → fan = 2 → b = 1 → m'.made + 1 = m.made + 2 * X.length) ∧ (X ≠ [] → X.length ≤ b → m'.made = m.made + 1) ∧ Res F w sb m' w' := by
  obtain ⟨m1, f1, m2, f2, st, a1, a2, a3, a4, m', n, a5, a6, a7, a8, a9⟩ := srt_room (fan := fan) h.ok ha hb1 h2 hx hc hm
  refine (sort_go V hF hB h hT hv hx (by omega) hb1 hb2 h2 h64 a1 a2 a3 a4).mono ?_
  rw [a5]
  rintro e w' ⟨rfl, r⟩
  exact ⟨m', n, rfl, a6, a7, a8, a9, r⟩
theorem Sorted.look {m0 m : Sto} {n : Nat} {X : List Tx} (h : Sorted m0 m n X) : look m.runs n = some ⟨n, Um.frs (Um.rl (ofS X)), true⟩ := look_of h.ok.sorted (r := ⟨n, Um.frs (Um.rl (ofS X)), true⟩) (by rw [h.runs]; simp)
abbrev bab : List Tx := [⟨#[98]⟩, ⟨#[97]⟩, ⟨#[98]⟩]
theorem ofS_bab : ofS bab = [⟨#[97]⟩, ⟨#[98]⟩] := by
  rw [← ofS_ba]
  exact Sm.rs_ext (Sm.ofS_rs _) (Sm.ofS_rs _) fun x => by
    rw [Sm.ofS_mem, Sm.ofS_mem]
    simp only [List.mem_cons, List.not_mem_nil, or_false]
    constructor
    · rintro (h | h | h)
      · exact .inl h
      · exact .inr h
      · exact .inl h
    · rintro (h | h)
      · exact .inl h
      · exact .inr (.inl h)
theorem txs_bab (W : World) : Um.Txs (W.alloc (.cells #[.string ⟨#[98]⟩, .string ⟨#[97]⟩, .string ⟨#[98]⟩] 9)) (.slice (some ⟨W.heap.size, 0, none⟩) 3 3) bab := by
  refine ⟨_, 3, rfl, by simp, (fun h => by cases h), fun _ => ⟨W.heap.size, 0, rfl, by simp, fun j z hz => ?_⟩⟩
  rw [Nat.zero_add, World.cell?_alloc_at _ _ _ _ rfl]
  have hj := (List.getElem?_eq_some_iff.1 hz).1
  simp at hj
  match j, hj with
  | 0, _ => simp at hz; subst hz; rfl
  | 1, _ => simp at hz; subst hz; rfl
  | 2, _ => simp at hz; subst hz; rfl
set_option maxRecDepth 100000 in
set_option maxHeartbeats 2000000 in
theorem wakes_any {w : World} {E : Nat → Addr} (V : EnvZ w E w.heap.size) : Calls Tryz.prog 11 #[] w fun e w' => e = .returned (.bool true) ∧ Below w.heap.size w w' := by
  have HN := hide (new_any 100 w (by decide) (by decide))
  have HSO : Hid (∀ w1, At w1 w.heap.size (newS 100) (fun b => b = w.heap.size) → Below w.heap.size w w1 → w1.heap.size = w.heap.size + 1 → Calls Tryz.prog 15 #[.pointer (some ⟨w.heap.size, 0, none⟩), .int .i64 1, .int .i64 2, .slice (some ⟨w1.heap.size, 0, none⟩) 3 3] (w1.alloc (.cells #[.string ⟨#[98]⟩, .string ⟨#[97]⟩, .string ⟨#[98]⟩] 9)) fun e w' => e = .returned (.tuple #[.int .i64 5, .nilIface]) ∧ Below w.heap.size w w' ∧ ∃ m' F', At w' w.heap.size m' F' ∧ (∀ b, F' b → w.heap.size ≤ b) ∧ look m'.runs 5 = some ⟨5, [1, 97, 1, 98], true⟩ ∧ nums m'.runs = [5]) := fun w1 h1 b1 hs1 => by
    have bA : Below w1.heap.size w1 (w1.alloc (.cells #[.string ⟨#[98]⟩, .string ⟨#[97]⟩, .string ⟨#[98]⟩] 9)) := (Below.refl _ w1).alloc (Nat.le_refl _) _
    have bw := b1.trans (bA.mono b1.size)
    refine (sort_ok (b := 1) (fan := 2) (V.below bw) (fun b e => Nat.le_of_eq e.symm) bw.size (h1.kept (fun b q => bA.block b (h1.lt b q)) (fun _ x => x) (fun b q => Nat.lt_of_lt_of_le (h1.lt b q) bA.size)) (txs_bab w1) (fun a n c e => ?_) (by decide) (by decide) (by decide) (by decide) (by decide) rfl (by decide) (by decide)).mono ?_
    · injection e with e _ _
      injection e with e
      rw [← e]
      refine ⟨fun q => ?_, by simp⟩
      simp only at q
      omega
    · rintro e w' ⟨m', n, rfl, hs, _, h5, _, r⟩
      have e5 := h5 (by simp) rfl rfl
      have hn : n = 5 := by rw [hs.hi]; simp [newS] at e5; omega
      subst hn
      have hl := hs.look
      rw [ofS_bab, frs_ab] at hl
      refine ⟨rfl, bw.trans ((r.2.below bw.size (fun b e => Nat.le_of_eq e.symm))), m', _, r.1, fun b q => ?_, hl, ?_⟩
      · rcases q with q | q
        · exact Nat.le_of_eq q.symm
        · have := bw.size; omega
      · rw [hs.runs]; rfl
  have HTX : Hid (∀ w2 m' F', Below w.heap.size w w2 → At w2 w.heap.size m' F' → (∀ b, F' b → w.heap.size ≤ b) → look m'.runs 5 = some ⟨5, [1, 97, 1, 98], true⟩ → Calls Tryz.prog 18 #[.pointer (some ⟨w.heap.size, 0, none⟩), .int .i64 5] w2 fun e w' => e = .returned (.string ⟨#[1, 97, 1, 98]⟩) ∧ Below w2.heap.size w2 w') := fun w2 m' F' b2 h2 hF hl =>
    text_any (n := 5) (V.toEnvR.below b2) hF b2.size h2 (by decide) hl
  have HLV : Hid (∀ w2 w3 m' F', At w2 w.heap.size m' F' → Below w2.heap.size w2 w3 → nums m'.runs = [5] → Calls Tryz.prog 20 #[.pointer (some ⟨w.heap.size, 0, none⟩)] w3 fun e w' => ∃ a c, e = .returned (.slice a 1 c) ∧ Below w3.heap.size w3 w') := fun w2 w3 m' F' h2 b3 hn => by
    refine (live_any (h2.kept (fun b q => b3.block b (h2.lt b q)) (fun _ x => x) (fun b q => Nat.lt_of_lt_of_le (h2.lt b q) b3.size))).mono ?_
    rw [hn]
    rintro e w' ⟨v, rfl, ho, hb⟩
    obtain ⟨a, c, e⟩ := own_slice ho
    exact ⟨a, c, by rw [e]; rfl, hb⟩
  clear V
  go_enter Tryz.func11, Tryz.ntmps11
  go_wp2_with fail
  refine (unhide HN).mono ?_
  rintro e w1 ⟨rfl, h1, b1, hs1⟩
  have HS := hide (unhide HSO w1 h1 b1 hs1)
  clear h1 b1 HN HSO
  go_wp2_with fail
  rw [hs1] at HS
  refine (unhide HS).mono ?_
  rintro e w2 ⟨rfl, b2, m', F', h2, hF, hl, hn⟩
  have HT := hide (unhide HTX w2 m' F' b2 h2 hF hl)
  have HL : Hid (∀ w3, Below w2.heap.size w2 w3 → Calls Tryz.prog 20 #[.pointer (some ⟨w.heap.size, 0, none⟩)] w3 fun e w' => ∃ a c, e = .returned (.slice a 1 c) ∧ Below w3.heap.size w3 w') := fun w3 b3 => unhide HLV w2 w3 m' F' h2 b3 hn
  have HB2 := hide b2
  clear b2 h2 hF hl hn HS HTX HLV
  go_wp2_with (first | (go_at_call 18; refine (unhide HT).mono ?_; rintro e w3 ⟨rfl, b3⟩; have HB3 := hide b3; clear b3) | (go_at_call 20; refine (unhide HL w3 (unhide HB3)).mono ?_; rintro e w4 ⟨a, c, rfl, b4⟩; have HB4 := hide b4; clear b4))
  go_ret
  have q3 := (unhide HB2).trans ((unhide HB3).mono (unhide HB2).size)
  exact ⟨rfl, q3.trans ((unhide HB4).mono q3.size)⟩
end Rs
end Go.Proofs.YtohfhkdhccpoaaaGreatDoor
