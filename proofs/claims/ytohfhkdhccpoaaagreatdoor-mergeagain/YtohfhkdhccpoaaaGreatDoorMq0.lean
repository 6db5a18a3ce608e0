/- Layer 10, the plain part: runs that are merged in one round. No walk. -/
import Derived.Test.YtohfhkdhccpoaaaGreatDoorGq
namespace Go.Proofs.YtohfhkdhccpoaaaGreatDoor
open Go.RowKit Go.Shelf
namespace Rs
open Sm (Tx ofS)
def rp (p : Nat × List Tx) : Run := ⟨p.1, Um.frs (Um.rl p.2), true⟩
/-- a store in which just these runs lie -/
structure Bk (m : Sto) (L : List (Nat × List Tx)) : Prop where
  ok : m.Ok
  cap : m.cap = 67108864
  ahead : m.ahead = 0
  runs : m.runs = L.map rp
  rs : ∀ p ∈ L, Sm.Rs p.2
  fit : ∀ p ∈ L, ∀ x ∈ p.2, x.size ≤ 255
theorem Bk.new : Bk (newS 67108864) [] := ⟨newS_ok _, rfl, rfl, rfl, (fun _ h => by cases h), fun _ h => by cases h⟩
theorem Bk.look {m : Sto} {L : List (Nat × List Tx)} (h : Bk m L) {n : Nat} {T : List Tx} (hp : (n, T) ∈ L) : look m.runs n = some ⟨n, Um.frs (Um.rl T), true⟩ :=
  look_of h.ok.sorted (r := rp (n, T)) (by rw [h.runs]; exact List.mem_map.2 ⟨_, hp, rfl⟩)
theorem Bk.std {m : Sto} {L : List (Nat × List Tx)} (h : Bk m L) {n : Nat} {T : List Tx} (hp : (n, T) ∈ L) : Std m n T := ⟨⟨_, h.look hp, rfl, rfl⟩, h.rs _ hp, h.fit _ hp⟩
theorem Bk.le {m : Sto} {L : List (Nat × List Tx)} (h : Bk m L) {n : Nat} {T : List Tx} (hp : (n, T) ∈ L) : n ≤ 16777216 := Nat.le_trans ((h.std hp).le h.ok) h.ok.made
theorem Bk.tot {m : Sto} {L : List (Nat × List Tx)} (h : Bk m L) : tot m.runs ≤ fz (L.map (·.2)).flatten := by
  rw [h.runs]
  have hf := h.fit
  clear h
  induction L with
  | nil => simp [Rs.tot, fz]
  | cons p t ih =>
    have h1 := ih fun q hq => hf q (List.mem_cons_of_mem _ hq)
    have h2 := frs_le (D := p.2) (hf p (List.mem_cons_self ..))
    simp only [List.map_cons, List.flatten_cons, Rs.tot, fz_app]
    show (Um.frs (Um.rl p.2)).length + _ ≤ _
    omega
theorem Bk.sort {m m' : Sto} {L : List (Nat × List Tx)} {n : Nat} {X : List Tx} (h : Bk m L) (hs : Sorted m m' n X) (hx : ∀ x ∈ X, x.size ≤ 255) : Bk m' (L ++ [(n, ofS X)]) := by
  refine ⟨hs.ok, by rw [hs.cap, h.cap], hs.ahead, by rw [hs.runs, h.runs, List.map_append]; rfl, fun p hp => ?_, fun p hp => ?_⟩
  · rcases List.mem_append.1 hp with q | q
    · exact h.rs p q
    · rw [List.mem_singleton.1 q]; exact Sm.ofS_rs X
  · rcases List.mem_append.1 hp with q | q
    · exact h.fit p q
    · rw [List.mem_singleton.1 q]; exact fun x hx' => hx x (Sm.ofS_mem.1 hx')
theorem Bk.less {m : Sto} {L : List (Nat × List Tx)} (h : Bk m L) (k : Nat) : Bk (rem m k).2 (L.filter fun p => !(p.1 == k)) := by
  have hr : (rem m k).2.runs = drop m.runs k ∧ (rem m k).2.Ok ∧ (rem m k).2.cap = m.cap ∧ (rem m k).2.ahead = m.ahead := by
    unfold rem
    split
    · rename_i hl
      refine ⟨?_, h.ok, rfl, rfl⟩
      show m.runs = drop m.runs k
      unfold drop
      refine (List.filter_eq_self.2 fun r hr' => ?_).symm
      unfold Rs.look at hl
      have := List.find?_eq_none.1 hl r hr'
      simpa using this
    · rename_i r hl
      obtain ⟨h1, h2⟩ := look_mem hl
      have q := drop_ok h.ok h1
      rw [h2] at q
      exact ⟨rfl, q, rfl, rfl⟩
  refine ⟨hr.2.1, by rw [hr.2.2.1, h.cap], by rw [hr.2.2.2, h.ahead], ?_, fun p hp => h.rs p ((List.mem_filter.1 hp).1), fun p hp => h.fit p ((List.mem_filter.1 hp).1)⟩
  rw [hr.1, h.runs]
  unfold drop
  rw [List.filter_map]
  congr 1
  refine List.filter_congr fun p _ => ?_
  simp only [Function.comp, rp]
  by_cases e : p.1 = k
  · simp [e]
  · have e2 : ((p.1 : Int) == (k : Int)) = false := beq_eq_false_iff_ne.2 fun q => e (by omega)
    rw [e2]
    simp [e]
theorem Bk.lessAll : ∀ {ks : List Nat} {m : Sto} {L : List (Nat × List Tx)}, Bk m L → Bk (remAll m ks) (L.filter fun p => !(ks.contains p.1))
  | [], m, L, h => by
    have e : (L.filter fun p => !(([] : List Nat).contains p.1)) = L := List.filter_eq_self.2 fun p _ => by simp
    rw [e]
    exact h
  | k :: t, m, L, h => by
    rw [remAll_cons]
    have q := Bk.lessAll (ks := t) (h.less k)
    rw [List.filter_filter] at q
    have e : (L.filter fun p => !((k :: t).contains p.1)) = L.filter fun p => (!(t.contains p.1)) && !(p.1 == k) := List.filter_congr fun p _ => by
      rw [List.contains_cons, Bool.not_or, Bool.and_comm]
    rw [e]
    exact q
/-- one round -/
theorem Bk.merge {m : Sto} {L : List (Nat × List Tx)} (h : Bk m L) {fan : Nat} {st : Nat → List Tx} {ks : List Nat} (h1 : 1 < ks.length) (h2 : ks.length ≤ fan) (hk : ∀ k ∈ ks, (k, st k) ∈ L) (hnd : ks.Nodup) (hm : m.made < 16777216) (hc : fz (L.map (·.2)).flatten + fz (ks.map st).flatten ≤ 67108864) :
    ∃ m', mrg fan m st ks = (0, m', m.made + 1) ∧ Qs m st ks ∧ m'.made = m.made + 1 ∧ Bk m' ((L.filter fun p => !(ks.contains p.1)) ++ [(m.made + 1, ofS (ks.map st).flatten)]) := by
  have ht := h.tot
  have hfit : ∀ x ∈ ofS (ks.map st).flatten, x.size ≤ 255 := fun x hx => by
    obtain ⟨l, hl, hx⟩ := List.mem_flatten.1 (Sm.ofS_mem.1 hx)
    obtain ⟨k, hk', rfl⟩ := List.mem_map.1 hl
    exact h.fit _ (hk k hk') x hx
  have hfl := frs_le hfit
  have hfo := fz_ofS (ks.map st).flatten
  obtain ⟨b0, bl⟩ := bat_room (L := ofS (ks.map st).flatten) h.ok h.ahead hm (by rw [h.cap]; omega)
  have bok := bl.ok h.ok rfl hm (by rw [h.cap]; omega)
  obtain ⟨b1, b2, b3⟩ := bat_ls h.ok b0
  have hj : jL fan st ks = ofS (ks.map st).flatten := by unfold jL; rw [List.take_of_length_le h2]
  have hne : ks ≠ [] := fun e => by rw [e] at h1; simp at h1
  obtain ⟨f, hf⟩ : ∃ f, ks.length = f + 1 := ⟨ks.length - 1, by omega⟩
  have hB : Bk (bat m (ofS (ks.map st).flatten)).2.1 (L ++ [(m.made + 1, ofS (ks.map st).flatten)]) := by
    refine ⟨bok, by rw [bl.cap, h.cap], bl.ahead, by rw [b1, h.runs, List.map_append]; rfl, fun p hp => ?_, fun p hp => ?_⟩
    · rcases List.mem_append.1 hp with q | q
      · exact h.rs p q
      · rw [List.mem_singleton.1 q]; exact Sm.ofS_rs _
    · rcases List.mem_append.1 hp with q | q
      · exact h.fit p q
      · rw [List.mem_singleton.1 q]; exact hfit
  refine ⟨remAll (bat m (ofS (ks.map st).flatten)).2.1 ks, ?_, ⟨fun k hk' => h.std (hk k hk'), hnd⟩, by rw [made_remAll, b3], ?_⟩
  · rw [mrg, if_neg hne, hf, mgA_go (by omega) (by rw [hj]; exact b0), hj, List.take_of_length_le h2, List.drop_of_length_le h2, List.nil_append, mgA_one (by simp), b2]
    rfl
  · have q := hB.lessAll (ks := ks)
    rw [List.filter_append] at q
    have e : ([(m.made + 1, ofS (ks.map st).flatten)].filter fun p => !(ks.contains p.1)) = [(m.made + 1, ofS (ks.map st).flatten)] := by
      refine List.filter_eq_self.2 fun p hp => ?_
      rw [List.mem_singleton.1 hp]
      have hn : m.made + 1 ∉ ks := fun q => by
        have := (h.std (hk _ q)).le h.ok
        omega
      simp [hn]
    rw [e] at q
    exact q
theorem mrg_one (fan : Nat) (m : Sto) (st : Nat → List Tx) (k : Nat) : mrg fan m st [k] = (0, m, k) := by
  rw [mrg, if_neg (by simp), mgA_one (by simp)]
  rfl
end Rs
end Go.Proofs.YtohfhkdhccpoaaaGreatDoor
