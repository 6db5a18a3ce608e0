/- Layer 8, the plain part: the order of texts, rising lists, what a sorted list without repeats is. No walk. -/
import Derived.Sort.Walk0
import Derived.Lib.SlicesCompact
import Derived.Lib.Strings
import Derived.WideShapes
import Derived.Test.YtohfhkdhccpoaaaGreatDoorGf
import Derived.Test.YtohfhkdhccpoaaaGreatDoorGc
import Derived.Sort.OwnSorted
import Derived.RangeFuncBox
import Derived.Test.YtohfhkdhccpoaaaGreatDoorShT
import Derived.Test.YtohfhkdhccpoaaaGreatDoorGa
namespace Go.Proofs.YtohfhkdhccpoaaaGreatDoor
namespace Sm
abbrev Tx := ByteArray
def lt (a b : Tx) : Bool := Op.bytesLess a.toList b.toList
theorem lt_iff {a b : Tx} : lt a b = true ↔ a.data.toList < b.data.toList := by
  unfold lt
  rw [Go.Proofs.bytesLess_eq, Lib.toList_data, Lib.toList_data]
  simp
theorem lt_def (a b : Tx) : Op.bytesLess a.toList b.toList = lt a b := rfl
theorem tx_ext {a b : Tx} (h : a.data.toList = b.data.toList) : a = b := by
  obtain ⟨a⟩ := a
  obtain ⟨b⟩ := b
  have : a = b := Array.toList_inj.1 h
  rw [this]
theorem lt_irr (a : Tx) : lt a a = false := by
  cases h : lt a a with
  | false => rfl
  | true => exact absurd (lt_iff.1 h) (List.lt_irrefl _)
theorem lt_tr {a b c : Tx} (h : lt a b = true) (k : lt b c = true) : lt a c = true := lt_iff.2 (List.lt_trans (lt_iff.1 h) (lt_iff.1 k))
theorem lt_tri (a b : Tx) : lt a b = true ∨ a = b ∨ lt b a = true := by
  by_cases h : a.data.toList < b.data.toList
  · exact .inl (lt_iff.2 h)
  · by_cases k : b.data.toList < a.data.toList
    · exact .inr (.inr (lt_iff.2 k))
    · exact .inr (.inl (tx_ext (List.le_antisymm (List.not_lt.1 k) (List.not_lt.1 h))))
theorem lt_asym {a b : Tx} (h : lt a b = true) : lt b a = false := by
  cases k : lt b a with
  | false => rfl
  | true => have := lt_tr h k; rw [lt_irr] at this; cases this
theorem lt_ne {a b : Tx} (h : lt a b = true) : a ≠ b := fun e => by rw [e, lt_irr] at h; cases h
theorem le_lt {a b c : Tx} (h : lt b a = false) (k : lt b c = true) : lt a c = true := by
  rcases lt_tri a b with e | e | e
  · exact lt_tr e k
  · rw [e]; exact k
  · rw [e] at h; cases h
theorem lt_le {a b c : Tx} (h : lt a b = true) (k : lt c b = false) : lt a c = true := by
  rcases lt_tri b c with e | e | e
  · exact lt_tr h e
  · rw [← e]; exact h
  · rw [e] at k; cases k
theorem le_eq {a b : Tx} (h : lt a b = false) (k : lt b a = false) : a = b := by
  rcases lt_tri a b with e | e | e
  · rw [e] at h; cases h
  · exact e
  · rw [e] at k; cases k
/-- rising -/
def Rs (L : List Tx) : Prop := L.Pairwise fun a b => lt a b = true
theorem rs_nil : Rs [] := List.Pairwise.nil
theorem rs_cons {a : Tx} {L : List Tx} : Rs (a :: L) ↔ (∀ x ∈ L, lt a x = true) ∧ Rs L := List.pairwise_cons
theorem rs_app {A B : List Tx} : Rs (A ++ B) ↔ Rs A ∧ Rs B ∧ ∀ a ∈ A, ∀ b ∈ B, lt a b = true := List.pairwise_append
theorem rs_filter {L : List Tx} (h : Rs L) (p : Tx → Bool) : Rs (L.filter p) := h.filter p
theorem rs_snoc {L : List Tx} {x : Tx} (h : Rs L) (k : ∀ a ∈ L, lt a x = true) : Rs (L ++ [x]) :=
  rs_app.2 ⟨h, by simp [Rs], fun a ha b hb => by simp at hb; subst hb; exact k a ha⟩
/-- rising lists with the same texts are the same -/
theorem rs_ext : ∀ {A B : List Tx}, Rs A → Rs B → (∀ x, x ∈ A ↔ x ∈ B) → A = B
  | [], [], _, _, _ => rfl
  | [], b :: B, _, _, h => by have := (h b).2 (by simp); simp at this
  | a :: A, [], _, _, h => by have := (h a).1 (by simp); simp at this
  | a :: A, b :: B, hA, hB, h => by
    obtain ⟨a1, a2⟩ := rs_cons.1 hA
    obtain ⟨b1, b2⟩ := rs_cons.1 hB
    have e : a = b := by
      rcases List.mem_cons.1 ((h a).1 (by simp)) with e | e
      · exact e
      · rcases List.mem_cons.1 ((h b).2 (by simp)) with e' | e'
        · exact e'.symm
        · have := lt_tr (b1 a e) (a1 b e'); rw [lt_irr] at this; cases this
    subst e
    rw [rs_ext a2 b2 fun x => ?_]
    constructor
    · intro hx
      rcases List.mem_cons.1 ((h x).1 (List.mem_cons_of_mem _ hx)) with e | e
      · subst e; have := a1 x hx; rw [lt_irr] at this; cases this
      · exact e
    · intro hx
      rcases List.mem_cons.1 ((h x).2 (List.mem_cons_of_mem _ hx)) with e | e
      · subst e; have := b1 x hx; rw [lt_irr] at this; cases this
      · exact e
/-- the texts of a list, rising, each once -/
def ofB (zs : List Tx) : List (List UInt8) := Lib.compact ((zs.map fun z => z.data.toList).mergeSort fun x y => decide (x ≤ y))
def txB (l : List UInt8) : Tx := ⟨l.toArray⟩
def ofS (zs : List Tx) : List Tx := (ofB zs).map txB
theorem compact_rs : ∀ (d : Array (List UInt8)) (m : Nat), m ≤ d.size → (∀ i j, i < j → j < d.size → d[i]! ≤ d[j]!) →
    (Lib.compactUpTo d m).Pairwise (fun a b => a < b) ∧ (∀ x ∈ Lib.compactUpTo d m, ∃ j, j < m ∧ x = d[j]!) ∧ (∀ j, j < m → d[j]! ∈ Lib.compactUpTo d m) ∧ (Lib.compactUpTo d m).length ≤ m
  | d, 0, _, _ => by refine ⟨by simp [Lib.compactUpTo], by simp [Lib.compactUpTo], fun j hj => by omega, by simp [Lib.compactUpTo]⟩
  | d, m + 1, hm, hs => by
    obtain ⟨h1, h2, h3, h4⟩ := compact_rs d m (by omega) hs
    rw [Lib.compactUpTo_succ]
    by_cases hk : Lib.keeps d m = true
    · rw [if_pos hk]
      have hlt : ∀ x ∈ Lib.compactUpTo d m, x < d[m]! := fun x hx => by
        obtain ⟨j, hj, rfl⟩ := h2 x hx
        have hm0 : 0 < m := by omega
        simp only [Lib.keeps, decide_eq_true_eq] at hk
        have hne : d[m]! ≠ d[m - 1]! := by rcases hk with e | e; omega; exact e
        have hle : d[j]! ≤ d[m - 1]! := by
          by_cases e : j = m - 1
          · rw [e]; exact List.le_refl _
          · exact hs j (m - 1) (by omega) (by omega)
        have hl2 : d[m - 1]! < d[m]! := by
          have := hs (m - 1) m (by omega) (by omega)
          by_cases q : d[m - 1]! < d[m]!
          · exact q
          · exact absurd (List.le_antisymm (List.not_lt.1 q) this) hne
        exact List.lt_of_le_of_lt hle hl2
      refine ⟨List.pairwise_append.2 ⟨h1, by simp, fun a ha b hb => by simp at hb; subst hb; exact hlt a ha⟩, fun x hx => ?_, fun j hj => ?_, by simp; omega⟩
      · rcases List.mem_append.1 hx with hx | hx
        · obtain ⟨j, hj, e⟩ := h2 x hx; exact ⟨j, by omega, e⟩
        · simp at hx; exact ⟨m, by omega, hx⟩
      · by_cases e : j = m
        · subst e; simp
        · exact List.mem_append.2 (.inl (h3 j (by omega)))
    · rw [if_neg hk]
      simp only [Lib.keeps, decide_eq_true_eq, not_or, Decidable.not_not] at hk
      simp only [List.append_nil]
      refine ⟨h1, fun x hx => ?_, fun j hj => ?_, by omega⟩
      · obtain ⟨j, hj, e⟩ := h2 x hx; exact ⟨j, by omega, e⟩
      · by_cases e : j = m
        · subst e; rw [hk.2]; exact h3 _ (by omega)
        · exact h3 j (by omega)
theorem ofB_facts (zs : List Tx) : (ofB zs).Pairwise (fun a b => a < b) ∧ (∀ x, x ∈ ofB zs ↔ x ∈ zs.map fun z => z.data.toList) ∧ (ofB zs).length ≤ zs.length := by
  obtain ⟨M, hM⟩ : ∃ M, M = (zs.map fun z => z.data.toList).mergeSort fun x y => decide (x ≤ y) := ⟨_, rfl⟩
  have hp : M.Perm (zs.map fun z => z.data.toList) := hM ▸ List.mergeSort_perm _ _
  have hso : M.Pairwise fun x y => decide (x ≤ y) = true := by
    rw [hM]
    refine List.pairwise_mergeSort (fun a b c h k => ?_) (fun a b => ?_) _
    · simp only [decide_eq_true_eq] at h k ⊢; exact List.le_trans h k
    · have := List.le_total a b
      simpa using this
  have hl : M.length = zs.length := by rw [hp.length_eq]; simp
  have hle : ∀ i j, i < j → j < M.toArray.size → M.toArray[i]! ≤ M.toArray[j]! := fun i j hij hj => by
    have hj' : j < M.length := by simpa using hj
    have := List.pairwise_iff_getElem.1 hso i j (by omega) hj' hij
    rw [getElem!_pos M.toArray i (by simp; omega), getElem!_pos M.toArray j hj]
    simpa using this
  obtain ⟨h1, h2, h3, h4⟩ := compact_rs M.toArray M.length (by simp) hle
  have e : ofB zs = Lib.compactUpTo M.toArray M.length := by rw [hM]; rfl
  rw [e]
  refine ⟨h1, fun x => ?_, by omega⟩
  rw [← hp.mem_iff]
  constructor
  · intro hx
    obtain ⟨j, hj, rfl⟩ := h2 x hx
    rw [getElem!_pos M.toArray j (by simpa using hj)]
    simp
  · intro hx
    obtain ⟨j, hj, rfl⟩ := List.mem_iff_getElem.1 hx
    have := h3 j hj
    rw [getElem!_pos M.toArray j (by simpa using hj)] at this
    simpa using this
theorem ofS_rs (zs : List Tx) : Rs (ofS zs) := by
  unfold Rs ofS
  rw [List.pairwise_map]
  refine (ofB_facts zs).1.imp fun {a b} h => lt_iff.2 ?_
  simpa [txB] using h
theorem ofS_mem {zs : List Tx} {x : Tx} : x ∈ ofS zs ↔ x ∈ zs := by
  unfold ofS
  rw [List.mem_map]
  constructor
  · rintro ⟨l, hl, rfl⟩
    rw [(ofB_facts zs).2.1] at hl
    obtain ⟨z, hz, rfl⟩ := List.mem_map.1 hl
    have : txB z.data.toList = z := tx_ext (by simp [txB])
    rw [this]; exact hz
  · intro hx
    exact ⟨x.data.toList, ((ofB_facts zs).2.1 _).2 (List.mem_map.2 ⟨x, hx, rfl⟩), tx_ext (by simp [txB])⟩
theorem ofS_len (zs : List Tx) : (ofS zs).length ≤ zs.length := by
  unfold ofS
  rw [List.length_map]
  exact (ofB_facts zs).2.2
end Sm
end Go.Proofs.YtohfhkdhccpoaaaGreatDoor
/- Layer 9, the plain part: what a former is, and what its calls do to it and to the store. No walk. -/
namespace Go.Proofs.YtohfhkdhccpoaaaGreatDoor
open Go.RowKit
namespace Rs
open Sm (Tx ofS)
/-- texts that are put in two calls are put as in one -/
theorem wputs_cat : ∀ (n : Nat) (k : Int) (bs : Nat) (m : Sto) (A B : List UInt8), A.length ≤ n → 1 ≤ bs →
    ((wputs k bs m A).1 = 0 → wputs k bs m (A ++ B) = wputs k bs (wputs k bs m A).2.1 ((wputs k bs m A).2.2 ++ B)) ∧
    ((wputs k bs m A).1 ≠ 0 → (wputs k bs m (A ++ B)).1 = (wputs k bs m A).1 ∧ (wputs k bs m (A ++ B)).2.1 = (wputs k bs m A).2.1) := by
  intro n
  induction n with
  | zero =>
    intro k bs m A B hA h1
    rw [wputs_stop (show A.length < bs by omega)]
    exact ⟨fun _ => rfl, fun h => absurd rfl h⟩
  | succ n ih =>
    intro k bs m A B hA h1
    by_cases hl : A.length < bs
    · rw [wputs_stop hl]
      exact ⟨fun _ => rfl, fun h => absurd rfl h⟩
    · have ht : (A ++ B).take bs = A.take bs := List.take_append_of_le_length (by omega)
      have hd : (A ++ B).drop bs = A.drop bs ++ B := List.drop_append_of_le_length (by omega)
      have hl2 : ¬ (A ++ B).length < bs := by rw [List.length_append]; omega
      by_cases h0 : (app m k [strB (A.take bs)]).1 = 0
      · rw [wputs_go h1 hl h0, wputs_go h1 hl2 (by rw [ht]; exact h0), ht, hd]
        exact ih k bs _ _ B (by rw [List.length_drop]; omega) h1
      · rw [wputs_no h1 hl h0, wputs_no h1 hl2 (by rw [ht]; exact h0), ht]
        exact ⟨fun h => absurd h h0, fun _ => ⟨rfl, rfl⟩⟩

/-- a former: how many words make a batch, what it holds, the runs that it made, the failure of which it died (13: closed) -/
structure For where
  size : Nat
  buf : List Tx
  made : List Nat
  dead : Nat
/-- the texts put into the run n, which is then closed; or dropped -/
def batN (n : Nat) (m : Sto) (L : List Tx) : Nat × Sto × Nat :=
  if (wputs n 512 m (Um.frs (Um.rl L))).1 ≠ 0 then ((wputs n 512 m (Um.frs (Um.rl L))).1, (rem (wputs n 512 m (Um.frs (Um.rl L))).2.1 n).2, 0)
  else if (wclo n (wputs n 512 m (Um.frs (Um.rl L))).2.1 (wputs n 512 m (Um.frs (Um.rl L))).2.2).1 ≠ 0 then ((wclo n (wputs n 512 m (Um.frs (Um.rl L))).2.1 (wputs n 512 m (Um.frs (Um.rl L))).2.2).1, (rem (wclo n (wputs n 512 m (Um.frs (Um.rl L))).2.1 (wputs n 512 m (Um.frs (Um.rl L))).2.2).2 n).2, 0)
  else (0, (wclo n (wputs n 512 m (Um.frs (Um.rl L))).2.1 (wputs n 512 m (Um.frs (Um.rl L))).2.2).2, n)
/-- a batch of texts, written: the failure, the store, the run's number -/
def bat (m : Sto) (L : List Tx) : Nat × Sto × Nat :=
  if (crt m).1.2 ≠ 0 then ((crt m).1.2, (crt m).2, 0) else batN (m.made + 1) (crt m).2 L
/-- the runs of the list are removed -/
def remAll (m : Sto) (l : List Nat) : Sto := l.foldl (fun (m : Sto) (k : Nat) => (rem m (k : Int)).2) m
theorem remAll_cons (m : Sto) (k : Nat) (l : List Nat) : remAll m (k :: l) = remAll (rem m k).2 l := rfl
def For.die (f : For) (c : Nat) : For := { f with buf := [], made := [], dead := c }
def For.wrote (f : For) (n : Nat) : For := { f with buf := [], made := f.made ++ [n] }
def For.push (f : For) (x : Tx) : For := { f with buf := f.buf ++ [x] }
/-- the batch is written: the failure, the store, the former -/
def fwr (m : Sto) (f : For) : Nat × Sto × For :=
  if (bat m (ofS f.buf)).1 = 0 then (0, (bat m (ofS f.buf)).2.1, f.wrote (bat m (ofS f.buf)).2.2)
  else ((bat m (ofS f.buf)).1, remAll (bat m (ofS f.buf)).2.1 f.made, f.die (bat m (ofS f.buf)).1)
/-- these words too, all of them fit -/
def adds (m : Sto) (f : For) : List Tx → Nat × Sto × For
  | [] => (0, m, f)
  | x :: t =>
    if f.buf.length + 1 < f.size then adds m (f.push x) t
    else if (fwr m (f.push x)).1 = 0 then adds (fwr m (f.push x)).2.1 (fwr m (f.push x)).2.2 t
    else fwr m (f.push x)
/-- the last batch, if there is one -/
def fins (m : Sto) (f : For) : Nat × Sto × For := if f.buf = [] then (0, m, f) else fwr m f

/-! the runs that were ever made -/
theorem made_crt (m : Sto) : ((crt m).1.2 = 0 → (crt m).2.made = m.made + 1 ∧ (crt m).1.1 = ((m.made + 1 : Nat) : Int)) ∧ ((crt m).1.2 ≠ 0 → (crt m).2.made = m.made ∧ (crt m).1.1 = 0) := by
  unfold crt
  split
  · exact ⟨fun h => absurd h (by simp), fun _ => ⟨rfl, rfl⟩⟩
  · split
    · exact ⟨fun h => absurd h (by simp), fun _ => ⟨rfl, rfl⟩⟩
    · exact ⟨fun _ => ⟨rfl, rfl⟩, fun h => absurd rfl h⟩
theorem made_app (m : Sto) (k : Int) (L : List ByteArray) : (app m k L).2.made = m.made := by
  unfold app
  split
  · rfl
  · split
    · rfl
    · split
      · rfl
      · split <;> rfl
theorem made_sel (m : Sto) (k : Int) : (sel m k).2.made = m.made := by
  unfold sel
  split
  · rfl
  · split
    · rfl
    · split <;> rfl
theorem made_rem (m : Sto) (k : Int) : (rem m k).2.made = m.made := by
  unfold rem
  split <;> rfl
theorem made_puts : ∀ (n : Nat) (k : Int) (bs : Nat) (m : Sto) (T : List UInt8), T.length ≤ n → 1 ≤ bs → (wputs k bs m T).2.1.made = m.made := by
  intro n
  induction n with
  | zero =>
    intro k bs m T hT h1
    rw [wputs_stop (by omega)]
  | succ n ih =>
    intro k bs m T hT h1
    by_cases hl : T.length < bs
    · rw [wputs_stop hl]
    · by_cases h0 : (app m k [strB (T.take bs)]).1 = 0
      · rw [wputs_go h1 hl h0, ih k bs _ _ (by rw [List.length_drop]; omega) h1, made_app]
      · rw [wputs_no h1 hl h0]
        exact made_app _ _ _
theorem made_clo (k : Int) (m : Sto) (buf : List UInt8) : (wclo k m buf).2.made = m.made := by
  unfold wclo
  split
  · exact made_sel _ _
  · split
    · rw [made_sel, made_app]
    · exact made_app _ _ _
theorem made_batN (n : Nat) (m : Sto) (L : List Tx) : (batN n m L).2.1.made = m.made := by
  unfold batN
  split
  · simp only [made_rem]; exact made_puts _ _ _ _ _ (Nat.le_refl _) (by decide)
  · split
    · simp only [made_rem, made_clo]; exact made_puts _ _ _ _ _ (Nat.le_refl _) (by decide)
    · simp only [made_clo]; exact made_puts _ _ _ _ _ (Nat.le_refl _) (by decide)
theorem made_remAll (l : List Nat) : ∀ m : Sto, (remAll m l).made = m.made := by
  induction l with
  | nil => intro m; rfl
  | cons k l ih => intro m; rw [remAll_cons, ih, made_rem]
theorem batN_num {n : Nat} {m : Sto} {L : List Tx} (h : (batN n m L).1 = 0) : (batN n m L).2.2 = n := by
  unfold batN at h ⊢
  split at h
  · rename_i h1; exact absurd h h1
  · split at h
    · rename_i h1; exact absurd h h1
    · rename_i h1 h2
      rw [if_neg h1, if_neg h2]
theorem bat_made (m : Sto) (L : List Tx) : ((bat m L).1 = 0 → (bat m L).2.1.made = m.made + 1 ∧ (bat m L).2.2 = m.made + 1) ∧ m.made ≤ (bat m L).2.1.made := by
  have hc := made_crt m
  unfold bat
  split
  · rename_i h
    exact ⟨fun e => absurd e h, by rw [(hc.2 h).1]; exact Nat.le_refl _⟩
  · rename_i h
    have h0 : (crt m).1.2 = 0 := by omega
    rw [made_batN, (hc.1 h0).1]
    exact ⟨fun e => ⟨rfl, batN_num e⟩, by omega⟩
/-- what holds of a living former -/
structure For.Ok (f : For) (m : Sto) : Prop where
  s1 : 1 ≤ f.size
  s2 : f.size ≤ 65536
  short : ∀ x ∈ f.buf, x.size ≤ 255
  made : f.made.length ≤ m.made
  nums : ∀ n ∈ f.made, n ≤ m.made
  live : f.dead = 0
theorem For.Ok.push {f : For} {m : Sto} (h : f.Ok m) {x : Tx} (hx : x.size ≤ 255) : (f.push x).Ok m :=
  ⟨h.s1, h.s2, fun y hy => (List.mem_append.1 hy).elim (h.short y) fun e => by rw [List.mem_singleton.1 e]; exact hx, h.made, h.nums, h.live⟩
theorem For.Ok.wrote {f : For} {m : Sto} (h : f.Ok m) (h0 : (fwr m f).1 = 0) : (fwr m f).2.2.Ok (fwr m f).2.1 ∧ (fwr m f).2.2.buf = [] ∧ (fwr m f).2.2.size = f.size := by
  unfold fwr at h0 ⊢
  split at h0
  · rename_i e
    rw [if_pos e]
    obtain ⟨e1, e2⟩ := (bat_made m (ofS f.buf)).1 e
    refine ⟨⟨h.s1, h.s2, fun y hy => (by cases hy), ?_, fun n hn => ?_, h.live⟩, rfl, rfl⟩
    · show (f.made ++ [_]).length ≤ _
      rw [List.length_append, e1]
      have := h.made
      simp; omega
    · rcases List.mem_append.1 hn with hn | hn
      · have := h.nums n hn; show n ≤ (bat m (ofS f.buf)).2.1.made; omega
      · rw [List.mem_singleton.1 hn, e2]; show _ ≤ (bat m (ofS f.buf)).2.1.made; omega
  · rename_i e
    exact absurd h0 e
theorem adds_stop (m : Sto) (f : For) : adds m f [] = (0, m, f) := rfl
theorem adds_room {m : Sto} {f : For} {x : Tx} {t : List Tx} (h : f.buf.length + 1 < f.size) : adds m f (x :: t) = adds m (f.push x) t := by rw [adds, if_pos h]
theorem adds_go {m : Sto} {f : For} {x : Tx} {t : List Tx} (h : ¬ f.buf.length + 1 < f.size) (h0 : (fwr m (f.push x)).1 = 0) : adds m f (x :: t) = adds (fwr m (f.push x)).2.1 (fwr m (f.push x)).2.2 t := by rw [adds, if_neg h, if_pos h0]
theorem adds_no {m : Sto} {f : For} {x : Tx} {t : List Tx} (h : ¬ f.buf.length + 1 < f.size) (h0 : (fwr m (f.push x)).1 ≠ 0) : adds m f (x :: t) = fwr m (f.push x) := by rw [adds, if_neg h, if_neg h0]
/-- words that come by two calls come as by one -/
theorem adds_app (A B : List Tx) : ∀ (m : Sto) (f : For), (adds m f A).1 = 0 → adds m f (A ++ B) = adds (adds m f A).2.1 (adds m f A).2.2 B := by
  induction A with
  | nil => intro m f _; rfl
  | cons x t ih =>
    intro m f h
    rw [List.cons_append]
    by_cases hl : f.buf.length + 1 < f.size
    · rw [adds_room hl] at h ⊢
      rw [adds_room hl]
      exact ih _ _ h
    · by_cases h0 : (fwr m (f.push x)).1 = 0
      · rw [adds_go hl h0] at h ⊢
        rw [adds_go hl h0]
        exact ih _ _ h
      · rw [adds_no hl h0] at h
        exact absurd h h0
end Rs
end Go.Proofs.YtohfhkdhccpoaaaGreatDoor
/- Layer 9: rows of texts of one's own: one more behind, sorted, without repeats. -/
namespace Go.Proofs.YtohfhkdhccpoaaaGreatDoor
open Go.RowKit Go.Shelf
namespace Rs
open Go.Sort
open Sm (Tx ofS ofB txB)
theorem append_blk {P : Program} (W : World) (t ty e : TypeId) (i : TypeInfo) (z : Value) (size bytes : Nat) (ht : P.underlying t = some (.slice e)) (hi : P.info? e = some i) (hz : i.zero = some z)
    (hsize : i.size = size) (hby : i.bytes = bytes) (hzs : z.cells.size = size) (hsz : 0 < size)
    (v : Value) (n : Nat) (xs : List Value) (hown : W.ownsRow 0 e size v n xs)
    (a : Addr) (m c : Nat) (news : List Value) (hl : news.length = m * size) (hnews : ∀ j u, news[j]? = some u → W.cell? (a.add j) = some u) (h1 : ∀ u ∈ news, u.oneCell' = true)
    (h63 : n + m ≤ maxLen) (hbytes : (n + m) * bytes ≤ 140737488355328) :
    ∃ v' W', (Builtin.append_ #[t, t] ty #[v, .slice (some a) m c]).run P W = .ok v' W' ∧ W'.ownsRow 0 e size v' (n + m) (xs ++ news) ∧ W.grownBy W' v.ownBlock ∧ (v'.ownBlock = v.ownBlock ∨ v'.ownBlock = some W.heap.size) := by
  obtain ⟨v', W', hr, h2, h3, h4⟩ := run_append_own (P := P) W 0 t ty e i z size bytes ht hi hz hsize hby hzs hsz v n xs hown a m c news hl hnews h1 h63 hbytes (Nat.zero_le _)
  refine ⟨v', W', hr, h2, h3, ?_⟩
  subst hsize hby
  rcases hown.2 with ⟨rfl, rfl⟩ | ⟨g, cap, cur, rfl, hbg, hg, hnc, hcm, hcs, htake⟩
  · by_cases hm : m = 0
    · left
      have := h4.2 ⟨rfl, hm⟩
      rw [this]
    · right
      have q := run_append_nil (P := P) W t ty e i z ht hi hz a m c news hl hnews (by omega) (by unfold maxLen at h63; omega) (by have hb := hbytes; simp only [Nat.zero_add] at hb; omega)
      rw [hr] at q
      injection q with q _
      rw [q]; rfl
  · by_cases hroom : n + m ≤ cap
    · left
      have hfit : n * i.size + news.length ≤ cur.size := by rw [hl, hcs, ← Nat.add_mul]; exact Nat.mul_le_mul_right _ hroom
      have q := run_append_room (P := P) W t ty e i ht hi g n cap cur hg a m c news hl hnews h1 hroom hfit
      rw [hr] at q
      injection q with q _
      rw [q]; rfl
    · right
      have q := run_append_grow (P := P) W t ty e i z ht hi hz ⟨g, 0, none⟩ n cap xs hown.1 (hown.cells (g := g) rfl) a m c news hl hnews (by omega) (by unfold maxLen at h63; omega) (growslice_fits (by unfold maxLen at h63; omega) hbytes)
      rw [hr] at q
      injection q with q _
      rw [q]; rfl

theorem own_lt {W : World} {B : Nat} {e : TypeId} {size n : Nat} {v : Value} {xs : List Value} (h : W.ownsRow B e size v n xs) {g : Nat} (hg : v.ownBlock = some g) : B ≤ g ∧ g < W.heap.size := h.lt g hg
abbrev txs (A : List Tx) : List Value := A.map .string
theorem info9 : (Tryz.prog.info? 9).map (fun i => (i.zero, i.size, i.bytes)) = some (some (.string ⟨#[]⟩), 1, 16) := by kernel_rfl
def Own (W : World) (v : Value) (A : List Tx) : Prop := W.ownsRow 0 9 1 v A.length (txs A)
theorem Own.slice {W : World} {v : Value} {A : List Tx} (h : Own W v A) : ∃ a c, v = .slice a A.length c := by
  rcases h.2 with ⟨e1, e2⟩ | ⟨g, cap, cur, e1, _⟩
  · exact ⟨none, 0, by rw [e1, e2]⟩
  · exact ⟨_, _, e1⟩
theorem Own.kept {W W' : World} {v : Value} {A : List Tx} (h : Own W v A) (hb : ∀ g, v.ownBlock = some g → W'.heap[g]? = W.heap[g]?) : Own W' v A := own_kept h hb
theorem Own.below {W W' : World} {v : Value} {A : List Tx} (h : Own W v A) (hb : Below W.heap.size W W') : Own W' v A := h.kept fun g hg => hb.block g (own_lt h hg).2
theorem own_cell {w : World} {g N c : Nat} {L : List Tx} (h : Own w (.slice (some ⟨g, 0, none⟩) N c) L) (hN : L.length = N) {j : Nat} {x : Tx} (hj : L[j]? = some x) : w.cell? ⟨g, j, none⟩ = some (.string x) := by
  subst hN
  have hl := (List.getElem?_eq_some_iff.1 hj).1
  rw [World.ownsRow.cellAt h j (by omega)]
  simp [txs, hj]
theorem push_tx {W : World} {v : Value} {A : List Tx} (x : Tx) (hown : Own W v A) (hz : A.length + 1 ≤ 8796093022208) (t ty : TypeId) (ht : Tryz.prog.underlying t = some (.slice 9)) :
    ∃ g c W', (Builtin.append_ #[t, t] ty #[v, .slice (some ⟨W.heap.size, 0, none⟩) 1 1]).run Tryz.prog (W.alloc (.cells #[.string x] 9)) = .ok (.slice (some ⟨g, 0, none⟩) (A.length + 1) c) W' ∧ Own W' (.slice (some ⟨g, 0, none⟩) (A.length + 1) c) (A ++ [x]) ∧ Chg (fun b => v.ownBlock = some b) W W' ∧ Up (fun b => v.ownBlock = some b) W W' g ∧ (∀ b, b < W.heap.size → v.ownBlock ≠ some b → b ≠ g) := by
  obtain ⟨i, hi, hz'⟩ := Option.map_eq_some_iff.1 info9
  simp only [Prod.mk.injEq] at hz'
  obtain ⟨hz0, hz1, hz2⟩ := hz'
  have hown1 : Own (W.alloc (.cells #[.string x] 9)) v A := hown.below ((Below.refl _ W).alloc (Nat.le_refl _) _)
  obtain ⟨v', W', hrun, ho, hg, hb⟩ := append_blk (P := Tryz.prog) (W.alloc (.cells #[.string x] 9)) t ty 9 i _ 1 16 ht hi hz0 hz1 hz2 rfl (by decide) v A.length (txs A) hown1 ⟨W.heap.size, 0, none⟩ 1 1 [.string x] rfl (cell_one_new _ _ _) (by simp [Value.oneCell']) (by unfold maxLen; omega) (by omega)
  obtain ⟨g, c, rfl⟩ := ownsRow_succ ho
  have hc : Chg (fun b => v.ownBlock = some b) W W' := ((Chg.refl _ W).alloc _).grown hg fun k hk => .inl hk
  have hlt := (own_lt ho (g := g) rfl).2
  have hgw : v.ownBlock = some g ∨ W.heap.size ≤ g := by
    rcases hb with e | e
    · exact .inl e.symm
    · have e : g = (W.alloc (.cells #[.string x] 9)).heap.size := by simpa [Value.ownBlock] using e
      rw [World.size_alloc] at e
      exact .inr (by omega)
  refine ⟨g, c, W', hrun, ?_, hc, ?_, fun b hb hn e => ?_⟩
  · unfold Own txs
    rw [List.length_append, List.map_append]
    exact ho
  · rcases hgw with e | e
    · exact .inl e
    · exact .inr ⟨e, hlt⟩
  · subst e
    rcases hgw with e | e
    · exact hn e
    · omega

def CRow (w : World) (v : Value) (R : List Tx) (G : Nat → Prop) : Prop :=
  ∃ ao c, v = .slice ao R.length c ∧ R.length ≤ c ∧ (0 < R.length → ∃ g off, ao = some ⟨g, off, none⟩ ∧ G g ∧ g < w.heap.size ∧ ∀ (j : Nat) x, R[j]? = some x → w.cell? ⟨g, off + j, none⟩ = some (.string x))
theorem CRow.slice {w : World} {v : Value} {R : List Tx} {G : Nat → Prop} (h : CRow w v R G) : ∃ a c, v = .slice a R.length c := by
  obtain ⟨ao, c, e, _⟩ := h
  exact ⟨ao, c, e⟩
theorem CRow.kept {w w' : World} {v : Value} {R : List Tx} {G : Nat → Prop} (h : CRow w v R G) (hG : ∀ g, G g → w'.heap[g]? = w.heap[g]?) : CRow w' v R G := by
  obtain ⟨ao, c, e, hc, hat⟩ := h
  refine ⟨ao, c, e, hc, fun h0 => ?_⟩
  obtain ⟨g, off, e1, e2, e3, e4⟩ := hat h0
  refine ⟨g, off, e1, e2, ?_, fun j x hj => (World.cell?_of_block (w := w) (hG g e2)).trans (e4 j x hj)⟩
  rcases Nat.lt_or_ge g w'.heap.size with h | h
  · exact h
  · have h1 := hG g e2
    rw [Array.getElem?_eq_none h, Array.getElem?_eq_getElem e3] at h1
    cases h1
theorem CRow.below {w w' : World} {v : Value} {R : List Tx} {G : Nat → Prop} (h : CRow w v R G) (hb : Below w.heap.size w w') : CRow w' v R G := by
  obtain ⟨ao, c, e, hc, hat⟩ := h
  refine ⟨ao, c, e, hc, fun h0 => ?_⟩
  obtain ⟨g, off, e1, e2, e3, e4⟩ := hat h0
  exact ⟨g, off, e1, e2, Nat.lt_of_lt_of_le e3 hb.size, fun j x hj => (hb.cell (p := ⟨g, off + j, none⟩) e3).trans (e4 j x hj)⟩
theorem Own.crow {W : World} {v : Value} {A : List Tx} (h : Own W v A) : CRow W v A (fun g => v.ownBlock = some g) := by
  rcases h.2 with ⟨e1, e2⟩ | ⟨g, cap, cur, e1, hbs, hb, h1, h2, h3, h4⟩
  · exact ⟨none, 0, by rw [e1, e2], by omega, fun h => by omega⟩
  · subst e1
    refine ⟨_, _, rfl, h1, fun h0 => ⟨g, 0, rfl, rfl, (Array.getElem?_eq_some_iff.1 hb).1, fun j x hj => ?_⟩⟩
    rw [Nat.zero_add]
    exact own_cell h rfl hj
abbrev bys (A : List Tx) : List (List UInt8) := A.map fun z => z.data.toList
theorem enc_bys (A : List Tx) : (bys A).map encStr = txs A := by
  simp only [bys, txs, List.map_map]
  refine List.map_congr_left fun a _ => ?_
  simp [encStr]
theorem enc_txB (l : List UInt8) : encStr l = .string (txB l) := rfl
def srt (A : List Tx) : List Tx := ((bys A).mergeSort fun x y => decide (x ≤ y)).map txB
theorem srt_len (A : List Tx) : (srt A).length = A.length := by simp [srt, bys]
theorem bys_srt (A : List Tx) : bys (srt A) = (bys A).mergeSort fun x y => decide (x ≤ y) := by
  simp only [srt, bys, List.map_map]
  rw [show (fun z : Tx => z.data.toList) ∘ txB = id from funext fun l => by simp [txB], List.map_id]
theorem compact_srt (A : List Tx) : (Lib.compact (bys (srt A))).map txB = ofS A := by rw [bys_srt]; rfl

theorem sort_tx {w : World} {v : Value} {A : List Tx} (h : Own w v A) (hz : A.length ≤ 8796093022208) :
    Calls Tryz.prog 96 #[v] w fun e w' => e = .returned (.tuple #[]) ∧ Own w' v (srt A) ∧ Chg (fun b => v.ownBlock = some b) w w' := by
  rcases Nat.eq_zero_or_pos A.length with h0 | h0
  · have hA := List.eq_nil_of_length_eq_zero h0
    subst hA
    obtain ⟨a, c, rfl⟩ := h.slice
    refine (Tryz.slices_Sort_string_none _ _ w).mono ?_
    rintro e w' ⟨rfl, rfl⟩
    exact ⟨rfl, by rw [show srt [] = [] by simp [srt, bys]]; exact h, Chg.refl _ _⟩
  · rcases h.2 with ⟨e1, e2⟩ | ⟨g, cap, cur, rfl, hbs, hb, h1, h2, h3, h4⟩
    · omega
    · rw [Nat.mul_one] at h4
      have hl : (bys A).length = A.length := by simp [bys]
      have q := Tryz.slices_Sort_string g 0 cap (bys A) w (holds_of_block hb (by rw [hl, enc_bys]; exact h4)) ((Array.getElem?_eq_some_iff.1 hb).1) (by omega)
      rw [hl] at q
      refine q.mono ?_
      rintro e w' ⟨rfl, n, os, rfl⟩
      have hl2 : ((bys A).mergeSort fun x y => decide (x ≤ y)).length = (bys A).length := by simp
      have ho := ownsRow_sorted (base := 0) (n := n) (os := os) hl2 (Nat.zero_le g) hb (by omega) h2 h3
      refine ⟨rfl, ?_, (Chg.refl _ w).grown (grownBy_sorted _) fun k hk => .inl (by rw [← hk]; rfl)⟩
      have e3 : ((bys A).mergeSort fun x y => decide (x ≤ y)).map encStr = txs (srt A) := by rw [← bys_srt, enc_bys]
      rw [e3, hl, ← srt_len A] at ho
      unfold Own
      have e4 : (srt A).length = A.length := srt_len A
      rw [e4] at ho ⊢
      exact ho

theorem compact_tx {w : World} {v : Value} {A : List Tx} (h : Own w v A) (hz : A.length ≤ 8796093022208) :
    Calls Tryz.prog 97 #[v] w fun e w' => ∃ v', e = .returned v' ∧ CRow w' v' ((Lib.compact (bys A)).map txB) (fun g => v.ownBlock = some g) ∧ Chg (fun b => v.ownBlock = some b) w w' ∧ ∃ T : List Tx, ((Lib.compact (bys A)).map txB ++ T).length = A.length ∧ Own w' v ((Lib.compact (bys A)).map txB ++ T) ∧ (0 < A.length → ∃ a c, v = .slice a A.length c ∧ v' = .slice a ((Lib.compact (bys A)).map txB).length c) := by
  rcases Nat.eq_zero_or_pos A.length with h0 | h0
  · have hA := List.eq_nil_of_length_eq_zero h0
    subst hA
    obtain ⟨a, c, rfl⟩ := h.slice
    refine (Tryz.slices_Compact_string_empty _ _ w).mono ?_
    rintro e w' ⟨rfl, rfl⟩
    exact ⟨_, rfl, h.crow, Chg.refl _ _, [], rfl, h, fun h => absurd h (by simp)⟩
  · rcases h.2 with ⟨e1, e2⟩ | ⟨g, cap, cur, rfl, hbs, hb, h1, h2, h3, h4⟩
    · omega
    · rw [Nat.mul_one] at h4
      have hl : (bys A).length = A.length := by simp [bys]
      have q := Tryz.slices_Compact_string g 0 cap (bys A) w (holds_of_block hb (by rw [hl, enc_bys]; exact h4)) (by omega) (by omega)
      rw [hl] at q
      refine q.mono ?_
      rintro e w' ⟨rfl, n, rfl⟩
      have eg : ∀ W : World, grow W #[] = W := fun W => by simp [grow]
      have hh := heap_sorted (n := n) (os := #[]) (Lib.compact (bys A) ++ List.replicate (A.length - (Lib.compact (bys A)).length) []).toArray hb
      have hgr := grownBy_sorted (w := w) (g := g) (n := n) (os := #[]) (Lib.compact (bys A) ++ List.replicate (A.length - (Lib.compact (bys A)).length) []).toArray
      rw [eg] at hh hgr
      have hcl : (Lib.compact (bys A)).length ≤ A.length := by
        have := List.length_filter_le (Lib.keeps (bys A).toArray) (List.range (bys A).length)
        rw [List.length_range, hl] at this
        simpa [Lib.compact, Lib.compactUpTo, hl] using this
      have hcg : Chg (fun b => (Value.slice (some ⟨g, 0, none⟩) A.length cap).ownBlock = some b) w _ := (Chg.refl _ w).grown hgr fun k hk => .inl (by rw [← hk]; rfl)
      have hts : (Lib.compact (bys A) ++ List.replicate (A.length - (Lib.compact (bys A)).length) []).length = (bys A).length := by rw [List.length_append, List.length_replicate, hl]; omega
      have how := ownsRow_sorted (base := 0) (n := n) (os := #[]) (ss := bys A) hts (Nat.zero_le g) hb (by omega) h2 h3
      rw [eg] at how
      have how2 : ∀ W : World, W.ownsRow 0 9 1 (.slice (some ⟨g, 0, none⟩) (bys A).length cap) (bys A).length ((Lib.compact (bys A) ++ List.replicate (A.length - (Lib.compact (bys A)).length) []).map encStr) → Own W (.slice (some ⟨g, 0, none⟩) A.length cap) ((Lib.compact (bys A) ++ List.replicate (A.length - (Lib.compact (bys A)).length) []).map txB) := fun W how => by
        unfold Own
        have e5 : (Lib.compact (bys A) ++ List.replicate (A.length - (Lib.compact (bys A)).length) []).map encStr = txs ((Lib.compact (bys A) ++ List.replicate (A.length - (Lib.compact (bys A)).length) []).map txB) := by
          simp only [txs, List.map_map]
          rfl
        rw [e5, hl] at how
        rw [List.length_map, hts, hl]
        exact how
      refine ⟨_, rfl, ⟨_, _, by rw [List.length_map], by rw [List.length_map]; omega, fun hp => ⟨g, 0, rfl, rfl, Nat.lt_of_lt_of_le (Array.getElem?_eq_some_iff.1 hb).1 hcg.size, fun j x hj => ?_⟩⟩, hcg, (List.replicate (A.length - (Lib.compact (bys A)).length) []).map txB, by rw [← List.map_append, List.length_map, hts, hl], by rw [← List.map_append]; exact how2 _ how, fun _ => ⟨_, _, rfl, by rw [List.length_map]⟩⟩
      have hjl := (List.getElem?_eq_some_iff.1 hj).1
      have hjl' : j < (Lib.compact (bys A)).length := by simpa using hjl
      have hcu : j < cur.size := by omega
      rw [List.getElem?_map, List.getElem?_eq_getElem hjl'] at hj
      simp only [Option.map_some, Option.some.injEq] at hj
      simp only [World.cell?, hh, Nat.zero_add]
      have hj3 : j < (Lib.compact (bys A)).length + (A.length - (Lib.compact (bys A)).length) := by omega
      simp [putCells, hcu, hj3, List.getElem_append_left, hjl']
      exact hj

end Rs
end Go.Proofs.YtohfhkdhccpoaaaGreatDoor
