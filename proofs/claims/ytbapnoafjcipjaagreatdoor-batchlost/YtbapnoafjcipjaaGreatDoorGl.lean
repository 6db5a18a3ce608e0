/- Layer 9: the numbers of the runs that are left. No walk. -/
import Derived.Test.YtbapnoafjcipjaaGreatDoorFm
namespace Go.Proofs.YtbapnoafjcipjaaGreatDoor
open Go.RowKit
namespace Rs
open Sm (Tx ofS)
def ns (m : Sto) : List Nat := m.runs.map (·.num)
theorem ns_app (m : Sto) (k : Int) (L : List ByteArray) : ns (app m k L).2 = ns m := by
  unfold app
  split
  · rfl
  · split
    · rfl
    · split
      · rfl
      · split
        · exact repl_nums _ _
        · rfl
theorem ns_sel (m : Sto) (k : Int) : ns (sel m k).2 = ns m := by
  unfold sel
  split
  · rfl
  · split
    · rfl
    · split
      · rfl
      · exact repl_nums _ _
theorem ns_crt (m : Sto) : ((crt m).1.2 = 0 → ns (crt m).2 = ns m ++ [m.made + 1]) ∧ ((crt m).1.2 ≠ 0 → ns (crt m).2 = ns m) := by
  unfold crt
  split
  · exact ⟨fun h => absurd h (by simp), fun _ => rfl⟩
  · split
    · exact ⟨fun h => absurd h (by simp), fun _ => rfl⟩
    · exact ⟨fun _ => by simp [ns, Sto.newRun, Sto.tick], fun h => absurd rfl h⟩
theorem ns_rem (m : Sto) (k : Nat) : ns (rem m k).2 = (ns m).filter fun x => !(x == k) := by
  unfold rem ns
  split
  · rename_i h
    have h := look_none h
    refine (List.filter_eq_self.2 fun x hx => ?_).symm
    obtain ⟨r, hr, rfl⟩ := List.mem_map.1 hx
    have := h r hr
    simp
    omega
  · simp only [drop]
    rw [List.filter_map]
    congr 1
    refine List.filter_congr fun r _ => ?_
    have e : ((r.num : Int) == (k : Int)) = (r.num == k) := by rw [Bool.eq_iff_iff, beq_iff_eq, beq_iff_eq]; omega
    show (!((r.num : Int) == (k : Int))) = !(r.num == k)
    rw [e]
theorem ns_puts : ∀ (n : Nat) (k : Int) (bs : Nat) (m : Sto) (T : List UInt8), T.length ≤ n → 1 ≤ bs → ns (wputs k bs m T).2.1 = ns m := by
  intro n
  induction n with
  | zero =>
    intro k bs m T hT h1
    rw [wputs_stop (by omega)]
  | succ n ih =>
    intro k bs m T hT h1
    by_cases hl : T.length < bs
    · rw [wputs_stop hl]
    · by_cases h0 : (app m k [strB (T.take bs)]).1 = 0
      · rw [wputs_go h1 hl h0, ih k bs _ _ (by rw [List.length_drop]; omega) h1, ns_app]
      · rw [wputs_no h1 hl h0]
        exact ns_app _ _ _
theorem ns_clo (k : Int) (m : Sto) (buf : List UInt8) : ns (wclo k m buf).2 = ns m := by
  unfold wclo
  split
  · exact ns_sel _ _
  · split
    · rw [ns_sel, ns_app]
    · exact ns_app _ _ _
theorem ns_batN {n : Nat} {m : Sto} {A : List Nat} (h : ns m = A ++ [n]) (hA : ∀ x ∈ A, x < n) (L : List Tx) : ((batN n m L).1 = 0 → ns (batN n m L).2.1 = A ++ [(batN n m L).2.2]) ∧ ((batN n m L).1 ≠ 0 → ns (batN n m L).2.1 = A) := by
  have hp := ns_puts _ n 512 m (Um.frs (Um.rl L)) (Nat.le_refl _) (by decide)
  have hf : (A ++ [n]).filter (fun x => !(x == n)) = A := by
    rw [List.filter_append]
    have e1 : A.filter (fun x => !(x == n)) = A := List.filter_eq_self.2 fun x hx => by have := hA x hx; simp; omega
    rw [e1]
    simp
  unfold batN
  split
  · rename_i e
    exact ⟨fun h0 => absurd h0 e, fun _ => by rw [ns_rem, hp, h, hf]⟩
  · split
    · rename_i e
      exact ⟨fun h0 => absurd h0 e, fun _ => by rw [ns_rem, ns_clo, hp, h, hf]⟩
    · exact ⟨fun _ => by rw [ns_clo, hp, h], fun h0 => absurd rfl h0⟩
theorem ns_bat {m : Sto} (h : ∀ x ∈ ns m, x ≤ m.made) (L : List Tx) : ((bat m L).1 = 0 → ns (bat m L).2.1 = ns m ++ [(bat m L).2.2]) ∧ ((bat m L).1 ≠ 0 → ns (bat m L).2.1 = ns m) := by
  have hc := ns_crt m
  unfold bat
  split
  · rename_i e
    exact ⟨fun h0 => absurd h0 e, fun _ => hc.2 e⟩
  · rename_i e
    exact ns_batN (hc.1 (by omega)) (fun x hx => by have := h x hx; omega) L
theorem bat_grow (m : Sto) (L : List Tx) : m.made ≤ (bat m L).2.1.made ∧ (bat m L).2.1.made ≤ m.made + 1 := by
  have hc := made_crt m
  unfold bat
  split
  · rename_i e
    rw [(hc.2 e).1]; omega
  · rename_i e
    rw [made_batN, (hc.1 (by omega)).1]; omega
theorem ns_remAll : ∀ (l : List Nat) (m : Sto), ns (remAll m l) = (ns m).filter fun x => !l.contains x
  | [], m => by
    show ns m = _
    refine (List.filter_eq_self.2 fun x _ => ?_).symm
    simp
  | k :: l, m => by
    rw [remAll_cons, ns_remAll l, ns_rem, List.filter_filter]
    refine List.filter_congr fun x _ => ?_
    simp only [List.contains_cons]
    cases (x == k) <;> simp
/-- the runs that are left are those of the former -/
structure Iv (m : Sto) (f : For) : Prop where
  ns : ns m = f.made
  le : ∀ x ∈ f.made, x ≤ m.made
theorem Iv.push {m : Sto} {f : For} (h : Iv m f) (x : Tx) : Iv m (f.push x) := ⟨h.ns, h.le⟩
theorem Iv.fwr {m : Sto} {f : For} (h : Iv m f) : ((fwr m f).1 = 0 → Iv (fwr m f).2.1 (fwr m f).2.2) ∧ ((fwr m f).1 ≠ 0 → Rs.ns (fwr m f).2.1 = []) ∧ m.made ≤ (fwr m f).2.1.made ∧ (fwr m f).2.1.made ≤ m.made + 1 := by
  have hb := ns_bat (m := m) (fun x hx => h.le x (by rw [← h.ns]; exact hx)) (ofS f.buf)
  have hg := bat_grow m (ofS f.buf)
  have hm := bat_made m (ofS f.buf)
  unfold Rs.fwr
  split
  · rename_i e
    refine ⟨fun _ => ⟨by rw [hb.1 e, h.ns]; rfl, fun x hx => ?_⟩, fun h0 => absurd rfl h0, hg⟩
    rcases List.mem_append.1 (show x ∈ f.made ++ [(bat m (ofS f.buf)).2.2] from hx) with hx | hx
    · have := h.le x hx; have := hg.1; show x ≤ (bat m (ofS f.buf)).2.1.made; omega
    · rw [List.mem_singleton.1 hx, (hm.1 e).2]; show _ ≤ (bat m (ofS f.buf)).2.1.made; rw [(hm.1 e).1]; exact Nat.le_refl _
  · rename_i e
    refine ⟨fun h0 => absurd h0 e, fun _ => ?_, ?_⟩
    · show Rs.ns (remAll _ f.made) = []
      rw [ns_remAll, hb.2 e, h.ns]
      refine List.filter_eq_nil_iff.2 fun x hx => ?_
      simp [hx]
    · show m.made ≤ (remAll _ f.made).made ∧ (remAll _ f.made).made ≤ _
      rw [made_remAll]; exact hg
theorem Iv.adds : ∀ (X : List Tx) (m : Sto) (f : For), Iv m f → ((adds m f X).1 = 0 → Iv (adds m f X).2.1 (adds m f X).2.2) ∧ ((adds m f X).1 ≠ 0 → Rs.ns (adds m f X).2.1 = []) ∧ (adds m f X).2.1.made ≤ m.made + X.length
  | [], m, f, h => ⟨fun _ => h, fun h0 => absurd rfl h0, Nat.le_refl _⟩
  | x :: t, m, f, h => by
    by_cases hl : f.buf.length + 1 < f.size
    · rw [adds_room hl]
      have := Iv.adds t m (f.push x) (h.push x)
      exact ⟨this.1, this.2.1, by have := this.2.2; simp; omega⟩
    · obtain ⟨w1, w2, w3, w4⟩ := (h.push x).fwr
      by_cases h0 : (Rs.fwr m (f.push x)).1 = 0
      · rw [adds_go hl h0]
        have := Iv.adds t _ _ (w1 h0)
        exact ⟨this.1, this.2.1, by have := this.2.2; simp; omega⟩
      · rw [adds_no hl h0]
        exact ⟨fun e => absurd e h0, fun _ => w2 h0, by simp; omega⟩
theorem Iv.fins {m : Sto} {f : For} (h : Iv m f) : ((fins m f).1 = 0 → Iv (fins m f).2.1 (fins m f).2.2) ∧ ((fins m f).1 ≠ 0 → Rs.ns (fins m f).2.1 = []) ∧ (fins m f).2.1.made ≤ m.made + 1 := by
  unfold Rs.fins
  split
  · exact ⟨fun _ => h, fun h0 => absurd rfl h0, by simp⟩
  · obtain ⟨w1, w2, w3, w4⟩ := h.fwr
    exact ⟨w1, w2, w4⟩
theorem ns_nil {m : Sto} (h : ns m = []) : m.runs = [] := by
  unfold ns at h
  exact List.map_eq_nil_iff.1 h
end Rs
end Go.Proofs.YtbapnoafjcipjaaGreatDoor
/- Layer 9: of what a former may die. No walk. -/
namespace Go.Proofs.YtbapnoafjcipjaaGreatDoor
open Go.RowKit
namespace Rs
open Sm (Tx ofS)
theorem look_last {A : List Run} {r : Run} (h : ∀ x ∈ A, x.num < r.num) : look (A ++ [r]) r.num = some r := by
  unfold look
  rw [List.find?_append]
  have e : A.find? (fun x => (x.num : Int) == (r.num : Int)) = none := List.find?_eq_none.2 fun x hx => by have := h x hx; simp; omega
  rw [e]
  simp
theorem repl_last {A : List Run} {r r' : Run} (h : ∀ x ∈ A, x.num < r.num) (hn : r'.num = r.num) : repl (A ++ [r]) r' = A ++ [r'] := by
  unfold repl
  rw [List.map_append]
  have e : A.map (fun x => if x.num = r'.num then r' else x) = A := by
    conv => rhs; rw [← List.map_id A]
    refine List.map_congr_left fun x hx => ?_
    have := h x hx
    rw [if_neg (by omega)]
    rfl
  rw [e]
  simp [hn]
/-- the run n is the last one, and open -/
def Opn (n : Nat) (m : Sto) : Prop := ∃ A t, m.runs = A ++ [⟨n, t, false⟩] ∧ ∀ x ∈ A, x.num < n
def Cd (c : Nat) : Prop := c = 0 ∨ c = 7 ∨ c = 8 ∨ c = 9
theorem opn_app {n : Nat} {m : Sto} (h : Opn n m) (L : List ByteArray) : Cd (app m n L).1 ∧ Opn n (app m n L).2 := by
  obtain ⟨A, t, e, hA⟩ := h
  have hl : look m.runs n = some ⟨n, t, false⟩ := by rw [e]; exact look_last (r := ⟨n, t, false⟩) hA
  unfold app
  split
  · exact ⟨.inr (.inr (.inr rfl)), A, t, e, hA⟩
  · rw [hl]
    dsimp only
    rw [if_neg (by simp)]
    split
    · refine ⟨.inl rfl, A, t ++ bytes L, ?_, hA⟩
      show repl m.runs ⟨n, t ++ bytes L, false⟩ = _
      rw [e]
      exact repl_last (r := ⟨n, t, false⟩) hA rfl
    · exact ⟨.inr (.inl rfl), A, t, e, hA⟩
theorem opn_sel {n : Nat} {m : Sto} (h : Opn n m) : Cd (sel m n).1 := by
  obtain ⟨A, t, e, hA⟩ := h
  have hl : look m.runs n = some ⟨n, t, false⟩ := by rw [e]; exact look_last (r := ⟨n, t, false⟩) hA
  unfold sel
  split
  · exact .inr (.inr (.inr rfl))
  · rw [hl]
    dsimp only
    rw [if_neg (by simp)]
    exact .inl rfl
theorem opn_puts : ∀ (k n : Nat) (bs : Nat) (m : Sto) (T : List UInt8), T.length ≤ k → 1 ≤ bs → Opn n m → Cd (wputs n bs m T).1 ∧ Opn n (wputs n bs m T).2.1 := by
  intro k
  induction k with
  | zero =>
    intro n bs m T hT h1 h
    rw [wputs_stop (by omega)]
    exact ⟨.inl rfl, h⟩
  | succ k ih =>
    intro n bs m T hT h1 h
    by_cases hl : T.length < bs
    · rw [wputs_stop hl]
      exact ⟨.inl rfl, h⟩
    · obtain ⟨a1, a2⟩ := opn_app h [strB (T.take bs)]
      by_cases h0 : (app m n [strB (T.take bs)]).1 = 0
      · rw [wputs_go h1 hl h0]
        exact ih n bs _ _ (by rw [List.length_drop]; omega) h1 a2
      · rw [wputs_no h1 hl h0]
        exact ⟨a1, a2⟩
theorem opn_clo {n : Nat} {m : Sto} (h : Opn n m) (buf : List UInt8) : Cd (wclo n m buf).1 := by
  unfold wclo
  split
  · exact opn_sel h
  · split
    · exact opn_sel (opn_app h _).2
    · exact (opn_app h _).1
theorem cd_bat {m : Sto} (h : ∀ x ∈ ns m, x ≤ m.made) (L : List Tx) : Cd (bat m L).1 := by
  unfold bat
  split
  · unfold crt
    split
    · exact .inr (.inr (.inr rfl))
    · split
      · exact .inr (.inr (.inl rfl))
      · exact .inl rfl
  · rename_i e
    have ho : Opn (m.made + 1) (crt m).2 := by
      unfold crt at e ⊢
      split
      · rename_i e2; rw [if_pos e2] at e; exact (e (by simp)).elim
      · split
        · rename_i e1 e2; rw [if_neg e1, if_pos e2] at e; exact (e (by simp)).elim
        · refine ⟨m.runs, [], rfl, fun x hx => ?_⟩
          have := h x.num (List.mem_map.2 ⟨x, hx, rfl⟩)
          omega
    obtain ⟨p1, p2⟩ := opn_puts _ (m.made + 1) 512 (crt m).2 (Um.frs (Um.rl L)) (Nat.le_refl _) (by decide) ho
    unfold batN
    split
    · exact p1
    · split
      · exact opn_clo p2 _
      · exact .inl rfl
theorem Iv.cd {m : Sto} {f : For} (h : Iv m f) : Cd (Rs.fwr m f).1 := by
  have hb := cd_bat (m := m) (fun x hx => h.le x (by rw [← h.ns]; exact hx)) (ofS f.buf)
  unfold Rs.fwr
  split
  · exact .inl rfl
  · exact hb
theorem Iv.cdA : ∀ (X : List Tx) (m : Sto) (f : For), Iv m f → Cd (Rs.adds m f X).1
  | [], m, f, h => .inl rfl
  | x :: t, m, f, h => by
    by_cases hl : f.buf.length + 1 < f.size
    · rw [adds_room hl]
      exact Iv.cdA t m (f.push x) (h.push x)
    · by_cases h0 : (Rs.fwr m (f.push x)).1 = 0
      · rw [adds_go hl h0]
        exact Iv.cdA t _ _ ((h.push x).fwr.1 h0)
      · rw [adds_no hl h0]
        exact (h.push x).cd
theorem Iv.cdF {m : Sto} {f : For} (h : Iv m f) : Cd (Rs.fins m f).1 := by
  unfold Rs.fins
  split
  · exact .inl rfl
  · exact h.cd
end Rs
end Go.Proofs.YtbapnoafjcipjaaGreatDoor
