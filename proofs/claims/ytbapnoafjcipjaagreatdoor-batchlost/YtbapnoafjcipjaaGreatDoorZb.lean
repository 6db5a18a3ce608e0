/- Layer 8, the plain part: the order of texts, rising lists, what a sorted list without repeats is. No walk. -/
import Derived.Sort.Walk0
import Derived.Lib.SlicesCompact
import Derived.Lib.Strings
import Derived.WideShapes
namespace Go.Proofs.YtbapnoafjcipjaaGreatDoor
namespace Sm
abbrev Tx := ByteArray
def lt (a b : Tx) : Bool := Op.bytesLess a.toList b.toList
theorem lt_iff {a b : Tx} : lt a b = true ↔ a.data.toList < b.data.toList := by
  unfold lt
  rw [Go.Proofs.bytesLess_eq, Lib.toList_data, Lib.toList_data]
  simp
theorem lt_def (a b : Tx) : Op.bytesLess a.toList b.toList = lt a b := rfl
theorem tx_ext {a b : Tx} (h : a.data.toList = b.data.toList) : a = b := by
  obtain ⟨a⟩ := a
  obtain ⟨b⟩ := b
  have : a = b := Array.toList_inj.1 h
  rw [this]
theorem lt_irr (a : Tx) : lt a a = false := by
  cases h : lt a a with
  | false => rfl
  | true => exact absurd (lt_iff.1 h) (List.lt_irrefl _)
theorem lt_tr {a b c : Tx} (h : lt a b = true) (k : lt b c = true) : lt a c = true := lt_iff.2 (List.lt_trans (lt_iff.1 h) (lt_iff.1 k))
theorem lt_tri (a b : Tx) : lt a b = true ∨ a = b ∨ lt b a = true := by
  by_cases h : a.data.toList < b.data.toList
  · exact .inl (lt_iff.2 h)
  · by_cases k : b.data.toList < a.data.toList
    · exact .inr (.inr (lt_iff.2 k))
    · exact .inr (.inl (tx_ext (List.le_antisymm (List.not_lt.1 k) (List.not_lt.1 h))))
theorem lt_asym {a b : Tx} (h : lt a b = true) : lt b a = false := by
  cases k : lt b a with
  | false => rfl
  | true => have := lt_tr h k; rw [lt_irr] at this; cases this
theorem lt_ne {a b : Tx} (h : lt a b = true) : a ≠ b := fun e => by rw [e, lt_irr] at h; cases h
theorem le_lt {a b c : Tx} (h : lt b a = false) (k : lt b c = true) : lt a c = true := by
  rcases lt_tri a b with e | e | e
  · exact lt_tr e k
  · rw [e]; exact k
  · rw [e] at h; cases h
theorem lt_le {a b c : Tx} (h : lt a b = true) (k : lt c b = false) : lt a c = true := by
  rcases lt_tri b c with e | e | e
  · exact lt_tr h e
  · rw [← e]; exact h
  · rw [e] at k; cases k
theorem le_eq {a b : Tx} (h : lt a b = false) (k : lt b a = false) : a = b := by
  rcases lt_tri a b with e | e | e
  · rw [e] at h; cases h
  · exact e
  · rw [e] at k; cases k
/-- rising -/
def Rs (L : List Tx) : Prop := L.Pairwise fun a b => lt a b = true
theorem rs_nil : Rs [] := List.Pairwise.nil
theorem rs_cons {a : Tx} {L : List Tx} : Rs (a :: L) ↔ (∀ x ∈ L, lt a x = true) ∧ Rs L := List.pairwise_cons
theorem rs_app {A B : List Tx} : Rs (A ++ B) ↔ Rs A ∧ Rs B ∧ ∀ a ∈ A, ∀ b ∈ B, lt a b = true := List.pairwise_append
theorem rs_filter {L : List Tx} (h : Rs L) (p : Tx → Bool) : Rs (L.filter p) := h.filter p
theorem rs_snoc {L : List Tx} {x : Tx} (h : Rs L) (k : ∀ a ∈ L, lt a x = true) : Rs (L ++ [x]) :=
  rs_app.2 ⟨h, by simp [Rs], fun a ha b hb => by simp at hb; subst hb; exact k a ha⟩
/-- rising lists with the same texts are the same -/
theorem rs_ext : ∀ {A B : List Tx}, Rs A → Rs B → (∀ x, x ∈ A ↔ x ∈ B) → A = B
  | [], [], _, _, _ => rfl
  | [], b :: B, _, _, h => by have := (h b).2 (by simp); simp at this
  | a :: A, [], _, _, h => by have := (h a).1 (by simp); simp at this
  | a :: A, b :: B, hA, hB, h => by
    obtain ⟨a1, a2⟩ := rs_cons.1 hA
    obtain ⟨b1, b2⟩ := rs_cons.1 hB
    have e : a = b := by
      rcases List.mem_cons.1 ((h a).1 (by simp)) with e | e
      · exact e
      · rcases List.mem_cons.1 ((h b).2 (by simp)) with e' | e'
        · exact e'.symm
        · have := lt_tr (b1 a e) (a1 b e'); rw [lt_irr] at this; cases this
    subst e
    rw [rs_ext a2 b2 fun x => ?_]
    constructor
    · intro hx
      rcases List.mem_cons.1 ((h x).1 (List.mem_cons_of_mem _ hx)) with e | e
      · subst e; have := a1 x hx; rw [lt_irr] at this; cases this
      · exact e
    · intro hx
      rcases List.mem_cons.1 ((h x).2 (List.mem_cons_of_mem _ hx)) with e | e
      · subst e; have := b1 x hx; rw [lt_irr] at this; cases this
      · exact e
/-- the texts of a list, rising, each once -/
def ofB (zs : List Tx) : List (List UInt8) := Lib.compact ((zs.map fun z => z.data.toList).mergeSort fun x y => decide (x ≤ y))
def txB (l : List UInt8) : Tx := ⟨l.toArray⟩
def ofS (zs : List Tx) : List Tx := (ofB zs).map txB
theorem compact_rs : ∀ (d : Array (List UInt8)) (m : Nat), m ≤ d.size → (∀ i j, i < j → j < d.size → d[i]! ≤ d[j]!) →
    (Lib.compactUpTo d m).Pairwise (fun a b => a < b) ∧ (∀ x ∈ Lib.compactUpTo d m, ∃ j, j < m ∧ x = d[j]!) ∧ (∀ j, j < m → d[j]! ∈ Lib.compactUpTo d m) ∧ (Lib.compactUpTo d m).length ≤ m
  | d, 0, _, _ => by refine ⟨by simp [Lib.compactUpTo], by simp [Lib.compactUpTo], fun j hj => by omega, by simp [Lib.compactUpTo]⟩
  | d, m + 1, hm, hs => by
    obtain ⟨h1, h2, h3, h4⟩ := compact_rs d m (by omega) hs
    rw [Lib.compactUpTo_succ]
    by_cases hk : Lib.keeps d m = true
    · rw [if_pos hk]
      have hlt : ∀ x ∈ Lib.compactUpTo d m, x < d[m]! := fun x hx => by
        obtain ⟨j, hj, rfl⟩ := h2 x hx
        have hm0 : 0 < m := by omega
        simp only [Lib.keeps, decide_eq_true_eq] at hk
        have hne : d[m]! ≠ d[m - 1]! := by rcases hk with e | e; omega; exact e
        have hle : d[j]! ≤ d[m - 1]! := by
          by_cases e : j = m - 1
          · rw [e]; exact List.le_refl _
          · exact hs j (m - 1) (by omega) (by omega)
        have hl2 : d[m - 1]! < d[m]! := by
          have := hs (m - 1) m (by omega) (by omega)
          by_cases q : d[m - 1]! < d[m]!
          · exact q
          · exact absurd (List.le_antisymm (List.not_lt.1 q) this) hne
        exact List.lt_of_le_of_lt hle hl2
      refine ⟨List.pairwise_append.2 ⟨h1, by simp, fun a ha b hb => by simp at hb; subst hb; exact hlt a ha⟩, fun x hx => ?_, fun j hj => ?_, by simp; omega⟩
      · rcases List.mem_append.1 hx with hx | hx
        · obtain ⟨j, hj, e⟩ := h2 x hx; exact ⟨j, by omega, e⟩
        · simp at hx; exact ⟨m, by omega, hx⟩
      · by_cases e : j = m
        · subst e; simp
        · exact List.mem_append.2 (.inl (h3 j (by omega)))
    · rw [if_neg hk]
      simp only [Lib.keeps, decide_eq_true_eq, not_or, Decidable.not_not] at hk
      simp only [List.append_nil]
      refine ⟨h1, fun x hx => ?_, fun j hj => ?_, by omega⟩
      · obtain ⟨j, hj, e⟩ := h2 x hx; exact ⟨j, by omega, e⟩
      · by_cases e : j = m
        · subst e; rw [hk.2]; exact h3 _ (by omega)
        · exact h3 j (by omega)
theorem ofB_facts (zs : List Tx) : (ofB zs).Pairwise (fun a b => a < b) ∧ (∀ x, x ∈ ofB zs ↔ x ∈ zs.map fun z => z.data.toList) ∧ (ofB zs).length ≤ zs.length := by
  obtain ⟨M, hM⟩ : ∃ M, M = (zs.map fun z => z.data.toList).mergeSort fun x y => decide (x ≤ y) := ⟨_, rfl⟩
  have hp : M.Perm (zs.map fun z => z.data.toList) := hM ▸ List.mergeSort_perm _ _
  have hso : M.Pairwise fun x y => decide (x ≤ y) = true := by
    rw [hM]
    refine List.pairwise_mergeSort (fun a b c h k => ?_) (fun a b => ?_) _
    · simp only [decide_eq_true_eq] at h k ⊢; exact List.le_trans h k
    · have := List.le_total a b
      simpa using this
  have hl : M.length = zs.length := by rw [hp.length_eq]; simp
  have hle : ∀ i j, i < j → j < M.toArray.size → M.toArray[i]! ≤ M.toArray[j]! := fun i j hij hj => by
    have hj' : j < M.length := by simpa using hj
    have := List.pairwise_iff_getElem.1 hso i j (by omega) hj' hij
    rw [getElem!_pos M.toArray i (by simp; omega), getElem!_pos M.toArray j hj]
    simpa using this
  obtain ⟨h1, h2, h3, h4⟩ := compact_rs M.toArray M.length (by simp) hle
  have e : ofB zs = Lib.compactUpTo M.toArray M.length := by rw [hM]; rfl
  rw [e]
  refine ⟨h1, fun x => ?_, by omega⟩
  rw [← hp.mem_iff]
  constructor
  · intro hx
    obtain ⟨j, hj, rfl⟩ := h2 x hx
    rw [getElem!_pos M.toArray j (by simpa using hj)]
    simp
  · intro hx
    obtain ⟨j, hj, rfl⟩ := List.mem_iff_getElem.1 hx
    have := h3 j hj
    rw [getElem!_pos M.toArray j (by simpa using hj)] at this
    simpa using this
theorem ofS_rs (zs : List Tx) : Rs (ofS zs) := by
  unfold Rs ofS
  rw [List.pairwise_map]
  refine (ofB_facts zs).1.imp fun {a b} h => lt_iff.2 ?_
  simpa [txB] using h
theorem ofS_mem {zs : List Tx} {x : Tx} : x ∈ ofS zs ↔ x ∈ zs := by
  unfold ofS
  rw [List.mem_map]
  constructor
  · rintro ⟨l, hl, rfl⟩
    rw [(ofB_facts zs).2.1] at hl
    obtain ⟨z, hz, rfl⟩ := List.mem_map.1 hl
    have : txB z.data.toList = z := tx_ext (by simp [txB])
    rw [this]; exact hz
  · intro hx
    exact ⟨x.data.toList, ((ofB_facts zs).2.1 _).2 (List.mem_map.2 ⟨x, hx, rfl⟩), tx_ext (by simp [txB])⟩
theorem ofS_len (zs : List Tx) : (ofS zs).length ≤ zs.length := by
  unfold ofS
  rw [List.length_map]
  exact (ofB_facts zs).2.2
end Sm
end Go.Proofs.YtbapnoafjcipjaaGreatDoor
