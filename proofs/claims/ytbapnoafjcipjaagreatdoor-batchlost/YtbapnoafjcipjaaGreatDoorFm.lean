/- Layer 9, the plain part: what a former is, and what its calls do to it and to the store. No walk. -/
import Derived.Test.YtbapnoafjcipjaaGreatDoorWk
import Derived.Test.YtbapnoafjcipjaaGreatDoorGd
import Derived.Test.YtbapnoafjcipjaaGreatDoorZb
namespace Go.Proofs.YtbapnoafjcipjaaGreatDoor
open Go.RowKit
namespace Rs
open Sm (Tx ofS)
/-- texts that are put in two calls are put as in one -/
theorem wputs_cat : ∀ (n : Nat) (k : Int) (bs : Nat) (m : Sto) (A B : List UInt8), A.length ≤ n → 1 ≤ bs →
    ((wputs k bs m A).1 = 0 → wputs k bs m (A ++ B) = wputs k bs (wputs k bs m A).2.1 ((wputs k bs m A).2.2 ++ B)) ∧
    ((wputs k bs m A).1 ≠ 0 → (wputs k bs m (A ++ B)).1 = (wputs k bs m A).1 ∧ (wputs k bs m (A ++ B)).2.1 = (wputs k bs m A).2.1) := by
  intro n
  induction n with
  | zero =>
    intro k bs m A B hA h1
    rw [wputs_stop (show A.length < bs by omega)]
    exact ⟨fun _ => rfl, fun h => absurd rfl h⟩
  | succ n ih =>
    intro k bs m A B hA h1
    by_cases hl : A.length < bs
    · rw [wputs_stop hl]
      exact ⟨fun _ => rfl, fun h => absurd rfl h⟩
    · have ht : (A ++ B).take bs = A.take bs := List.take_append_of_le_length (by omega)
      have hd : (A ++ B).drop bs = A.drop bs ++ B := List.drop_append_of_le_length (by omega)
      have hl2 : ¬ (A ++ B).length < bs := by rw [List.length_append]; omega
      by_cases h0 : (app m k [strB (A.take bs)]).1 = 0
      · rw [wputs_go h1 hl h0, wputs_go h1 hl2 (by rw [ht]; exact h0), ht, hd]
        exact ih k bs _ _ B (by rw [List.length_drop]; omega) h1
      · rw [wputs_no h1 hl h0, wputs_no h1 hl2 (by rw [ht]; exact h0), ht]
        exact ⟨fun h => absurd h h0, fun _ => ⟨rfl, rfl⟩⟩

/-- a former: how many words make a batch, what it holds, the runs that it made, the failure of which it died (13: closed) -/
structure For where
  size : Nat
  buf : List Tx
  made : List Nat
  dead : Nat
/-- the texts put into the run n, which is then closed; or dropped -/
def batN (n : Nat) (m : Sto) (L : List Tx) : Nat × Sto × Nat :=
  if (wputs n 512 m (Um.frs (Um.rl L))).1 ≠ 0 then ((wputs n 512 m (Um.frs (Um.rl L))).1, (rem (wputs n 512 m (Um.frs (Um.rl L))).2.1 n).2, 0)
  else if (wclo n (wputs n 512 m (Um.frs (Um.rl L))).2.1 (wputs n 512 m (Um.frs (Um.rl L))).2.2).1 ≠ 0 then ((wclo n (wputs n 512 m (Um.frs (Um.rl L))).2.1 (wputs n 512 m (Um.frs (Um.rl L))).2.2).1, (rem (wclo n (wputs n 512 m (Um.frs (Um.rl L))).2.1 (wputs n 512 m (Um.frs (Um.rl L))).2.2).2 n).2, 0)
  else (0, (wclo n (wputs n 512 m (Um.frs (Um.rl L))).2.1 (wputs n 512 m (Um.frs (Um.rl L))).2.2).2, n)
/-- a batch of texts, written: the failure, the store, the run's number -/
def bat (m : Sto) (L : List Tx) : Nat × Sto × Nat :=
  if (crt m).1.2 ≠ 0 then ((crt m).1.2, (crt m).2, 0) else batN (m.made + 1) (crt m).2 L
/-- the runs of the list are removed -/
def remAll (m : Sto) (l : List Nat) : Sto := l.foldl (fun (m : Sto) (k : Nat) => (rem m (k : Int)).2) m
theorem remAll_cons (m : Sto) (k : Nat) (l : List Nat) : remAll m (k :: l) = remAll (rem m k).2 l := rfl
def For.die (f : For) (c : Nat) : For := { f with buf := [], made := [], dead := c }
def For.wrote (f : For) (n : Nat) : For := { f with buf := [], made := f.made ++ [n] }
def For.push (f : For) (x : Tx) : For := { f with buf := f.buf ++ [x] }
/-- the batch is written: the failure, the store, the former -/
def fwr (m : Sto) (f : For) : Nat × Sto × For :=
  if (bat m (ofS f.buf)).1 = 0 then (0, (bat m (ofS f.buf)).2.1, f.wrote (bat m (ofS f.buf)).2.2)
  else ((bat m (ofS f.buf)).1, remAll (bat m (ofS f.buf)).2.1 f.made, f.die (bat m (ofS f.buf)).1)
/-- these words too, all of them fit -/
def adds (m : Sto) (f : For) : List Tx → Nat × Sto × For
  | [] => (0, m, f)
  | x :: t =>
    if f.buf.length + 1 < f.size then adds m (f.push x) t
    else if (fwr m (f.push x)).1 = 0 then adds (fwr m (f.push x)).2.1 (fwr m (f.push x)).2.2 t
    else fwr m (f.push x)
/-- the last batch, if there is one -/
def fins (m : Sto) (f : For) : Nat × Sto × For := if f.buf = [] then (0, m, f) else fwr m f

/-! the runs that were ever made -/
theorem made_crt (m : Sto) : ((crt m).1.2 = 0 → (crt m).2.made = m.made + 1 ∧ (crt m).1.1 = ((m.made + 1 : Nat) : Int)) ∧ ((crt m).1.2 ≠ 0 → (crt m).2.made = m.made ∧ (crt m).1.1 = 0) := by
  unfold crt
  split
  · exact ⟨fun h => absurd h (by simp), fun _ => ⟨rfl, rfl⟩⟩
  · split
    · exact ⟨fun h => absurd h (by simp), fun _ => ⟨rfl, rfl⟩⟩
    · exact ⟨fun _ => ⟨rfl, rfl⟩, fun h => absurd rfl h⟩
theorem made_app (m : Sto) (k : Int) (L : List ByteArray) : (app m k L).2.made = m.made := by
  unfold app
  split
  · rfl
  · split
    · rfl
    · split
      · rfl
      · split <;> rfl
theorem made_sel (m : Sto) (k : Int) : (sel m k).2.made = m.made := by
  unfold sel
  split
  · rfl
  · split
    · rfl
    · split <;> rfl
theorem made_rem (m : Sto) (k : Int) : (rem m k).2.made = m.made := by
  unfold rem
  split <;> rfl
theorem made_puts : ∀ (n : Nat) (k : Int) (bs : Nat) (m : Sto) (T : List UInt8), T.length ≤ n → 1 ≤ bs → (wputs k bs m T).2.1.made = m.made := by
  intro n
  induction n with
  | zero =>
    intro k bs m T hT h1
    rw [wputs_stop (by omega)]
  | succ n ih =>
    intro k bs m T hT h1
    by_cases hl : T.length < bs
    · rw [wputs_stop hl]
    · by_cases h0 : (app m k [strB (T.take bs)]).1 = 0
      · rw [wputs_go h1 hl h0, ih k bs _ _ (by rw [List.length_drop]; omega) h1, made_app]
      · rw [wputs_no h1 hl h0]
        exact made_app _ _ _
theorem made_clo (k : Int) (m : Sto) (buf : List UInt8) : (wclo k m buf).2.made = m.made := by
  unfold wclo
  split
  · exact made_sel _ _
  · split
    · rw [made_sel, made_app]
    · exact made_app _ _ _
theorem made_batN (n : Nat) (m : Sto) (L : List Tx) : (batN n m L).2.1.made = m.made := by
  unfold batN
  split
  · simp only [made_rem]; exact made_puts _ _ _ _ _ (Nat.le_refl _) (by decide)
  · split
    · simp only [made_rem, made_clo]; exact made_puts _ _ _ _ _ (Nat.le_refl _) (by decide)
    · simp only [made_clo]; exact made_puts _ _ _ _ _ (Nat.le_refl _) (by decide)
theorem made_remAll (l : List Nat) : ∀ m : Sto, (remAll m l).made = m.made := by
  induction l with
  | nil => intro m; rfl
  | cons k l ih => intro m; rw [remAll_cons, ih, made_rem]
theorem batN_num {n : Nat} {m : Sto} {L : List Tx} (h : (batN n m L).1 = 0) : (batN n m L).2.2 = n := by
  unfold batN at h ⊢
  split at h
  · rename_i h1; exact absurd h h1
  · split at h
    · rename_i h1; exact absurd h h1
    · rename_i h1 h2
      rw [if_neg h1, if_neg h2]
theorem bat_made (m : Sto) (L : List Tx) : ((bat m L).1 = 0 → (bat m L).2.1.made = m.made + 1 ∧ (bat m L).2.2 = m.made + 1) ∧ m.made ≤ (bat m L).2.1.made := by
  have hc := made_crt m
  unfold bat
  split
  · rename_i h
    exact ⟨fun e => absurd e h, by rw [(hc.2 h).1]; exact Nat.le_refl _⟩
  · rename_i h
    have h0 : (crt m).1.2 = 0 := by omega
    rw [made_batN, (hc.1 h0).1]
    exact ⟨fun e => ⟨rfl, batN_num e⟩, by omega⟩
/-- what holds of a living former -/
structure For.Ok (f : For) (m : Sto) : Prop where
  s1 : 1 ≤ f.size
  s2 : f.size ≤ 65536
  short : ∀ x ∈ f.buf, x.size ≤ 255
  made : f.made.length ≤ m.made
  nums : ∀ n ∈ f.made, n ≤ m.made
  live : f.dead = 0
theorem For.Ok.push {f : For} {m : Sto} (h : f.Ok m) {x : Tx} (hx : x.size ≤ 255) : (f.push x).Ok m :=
  ⟨h.s1, h.s2, fun y hy => (List.mem_append.1 hy).elim (h.short y) fun e => by rw [List.mem_singleton.1 e]; exact hx, h.made, h.nums, h.live⟩
theorem For.Ok.wrote {f : For} {m : Sto} (h : f.Ok m) (h0 : (fwr m f).1 = 0) : (fwr m f).2.2.Ok (fwr m f).2.1 ∧ (fwr m f).2.2.buf = [] ∧ (fwr m f).2.2.size = f.size := by
  unfold fwr at h0 ⊢
  split at h0
  · rename_i e
    rw [if_pos e]
    obtain ⟨e1, e2⟩ := (bat_made m (ofS f.buf)).1 e
    refine ⟨⟨h.s1, h.s2, fun y hy => (by cases hy), ?_, fun n hn => ?_, h.live⟩, rfl, rfl⟩
    · show (f.made ++ [_]).length ≤ _
      rw [List.length_append, e1]
      have := h.made
      simp; omega
    · rcases List.mem_append.1 hn with hn | hn
      · have := h.nums n hn; show n ≤ (bat m (ofS f.buf)).2.1.made; omega
      · rw [List.mem_singleton.1 hn, e2]; show _ ≤ (bat m (ofS f.buf)).2.1.made; omega
  · rename_i e
    exact absurd h0 e
theorem adds_stop (m : Sto) (f : For) : adds m f [] = (0, m, f) := rfl
theorem adds_room {m : Sto} {f : For} {x : Tx} {t : List Tx} (h : f.buf.length + 1 < f.size) : adds m f (x :: t) = adds m (f.push x) t := by rw [adds, if_pos h]
theorem adds_go {m : Sto} {f : For} {x : Tx} {t : List Tx} (h : ¬ f.buf.length + 1 < f.size) (h0 : (fwr m (f.push x)).1 = 0) : adds m f (x :: t) = adds (fwr m (f.push x)).2.1 (fwr m (f.push x)).2.2 t := by rw [adds, if_neg h, if_pos h0]
theorem adds_no {m : Sto} {f : For} {x : Tx} {t : List Tx} (h : ¬ f.buf.length + 1 < f.size) (h0 : (fwr m (f.push x)).1 ≠ 0) : adds m f (x :: t) = fwr m (f.push x) := by rw [adds, if_neg h, if_neg h0]
/-- words that come by two calls come as by one -/
theorem adds_app (A B : List Tx) : ∀ (m : Sto) (f : For), (adds m f A).1 = 0 → adds m f (A ++ B) = adds (adds m f A).2.1 (adds m f A).2.2 B := by
  induction A with
  | nil => intro m f _; rfl
  | cons x t ih =>
    intro m f h
    rw [List.cons_append]
    by_cases hl : f.buf.length + 1 < f.size
    · rw [adds_room hl] at h ⊢
      rw [adds_room hl]
      exact ih _ _ h
    · by_cases h0 : (fwr m (f.push x)).1 = 0
      · rw [adds_go hl h0] at h ⊢
        rw [adds_go hl h0]
        exact ih _ _ h
      · rw [adds_no hl h0] at h
        exact absurd h h0
end Rs
end Go.Proofs.YtbapnoafjcipjaaGreatDoor
