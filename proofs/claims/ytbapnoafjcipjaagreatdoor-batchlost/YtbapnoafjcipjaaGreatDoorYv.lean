/- Layer 9: what stays of a store and of a former. No walk. -/
import Derived.Test.YtbapnoafjcipjaaGreatDoorGl
import Derived.Test.YtbapnoafjcipjaaGreatDoorFr
namespace Go.Proofs.YtbapnoafjcipjaaGreatDoor
open Go.RowKit
namespace Rs
open Sm (Tx ofS)
theorem cap_app (m : Sto) (k : Int) (L : List ByteArray) : (app m k L).2.cap = m.cap := by
  unfold app
  split
  · rfl
  · split
    · rfl
    · split
      · rfl
      · split <;> rfl
theorem cap_sel (m : Sto) (k : Int) : (sel m k).2.cap = m.cap := by
  unfold sel
  split
  · rfl
  · split
    · rfl
    · split <;> rfl
theorem cap_rem (m : Sto) (k : Int) : (rem m k).2.cap = m.cap := by
  unfold rem
  split <;> rfl
theorem cap_crt (m : Sto) : (crt m).2.cap = m.cap := by
  unfold crt
  split
  · rfl
  · split <;> rfl
theorem cap_puts : ∀ (n : Nat) (k : Int) (bs : Nat) (m : Sto) (T : List UInt8), T.length ≤ n → 1 ≤ bs → (wputs k bs m T).2.1.cap = m.cap := by
  intro n
  induction n with
  | zero =>
    intro k bs m T hT h1
    rw [wputs_stop (by omega)]
  | succ n ih =>
    intro k bs m T hT h1
    by_cases hl : T.length < bs
    · rw [wputs_stop hl]
    · by_cases h0 : (app m k [strB (T.take bs)]).1 = 0
      · rw [wputs_go h1 hl h0, ih k bs _ _ (by rw [List.length_drop]; omega) h1, cap_app]
      · rw [wputs_no h1 hl h0]
        exact cap_app _ _ _
theorem cap_clo (k : Int) (m : Sto) (buf : List UInt8) : (wclo k m buf).2.cap = m.cap := by
  unfold wclo
  split
  · exact cap_sel _ _
  · split
    · rw [cap_sel, cap_app]
    · exact cap_app _ _ _
theorem cap_batN (n : Nat) (m : Sto) (L : List Tx) : (batN n m L).2.1.cap = m.cap := by
  unfold batN
  split
  · simp only [cap_rem]; exact cap_puts _ _ _ _ _ (Nat.le_refl _) (by decide)
  · split
    · simp only [cap_rem, cap_clo]; exact cap_puts _ _ _ _ _ (Nat.le_refl _) (by decide)
    · simp only [cap_clo]; exact cap_puts _ _ _ _ _ (Nat.le_refl _) (by decide)
theorem cap_bat (m : Sto) (L : List Tx) : (bat m L).2.1.cap = m.cap := by
  unfold bat
  split
  · exact cap_crt m
  · rw [cap_batN, cap_crt]
theorem cap_remAll (l : List Nat) : ∀ m : Sto, (remAll m l).cap = m.cap := by
  induction l with
  | nil => intro m; rfl
  | cons k l ih => intro m; rw [remAll_cons, ih, cap_rem]
theorem cap_fwr (m : Sto) (f : For) : (fwr m f).2.1.cap = m.cap := by
  unfold fwr
  split
  · exact cap_bat _ _
  · rw [cap_remAll, cap_bat]
theorem cap_adds : ∀ (X : List Tx) (m : Sto) (f : For), (adds m f X).2.1.cap = m.cap
  | [], m, f => rfl
  | x :: t, m, f => by
    by_cases hl : f.buf.length + 1 < f.size
    · rw [adds_room hl, cap_adds t]
    · by_cases h0 : (fwr m (f.push x)).1 = 0
      · rw [adds_go hl h0, cap_adds t, cap_fwr]
      · rw [adds_no hl h0, cap_fwr]
theorem cap_fins (m : Sto) (f : For) : (fins m f).2.1.cap = m.cap := by
  unfold fins
  split
  · rfl
  · exact cap_fwr m f
/-- a former that failed has died of it -/
theorem fwr_dead {m : Sto} {f : For} (h : (fwr m f).1 ≠ 0) : (fwr m f).2.2.dead = (fwr m f).1 := by
  unfold fwr at h ⊢
  split
  · rename_i e; rw [if_pos e] at h; exact absurd rfl h
  · rfl
theorem adds_dead : ∀ (X : List Tx) (m : Sto) (f : For), (adds m f X).1 ≠ 0 → (adds m f X).2.2.dead = (adds m f X).1
  | [], m, f, h => absurd rfl h
  | x :: t, m, f, h => by
    by_cases hl : f.buf.length + 1 < f.size
    · rw [adds_room hl] at h ⊢
      exact adds_dead t _ _ h
    · by_cases h0 : (fwr m (f.push x)).1 = 0
      · rw [adds_go hl h0] at h ⊢
        exact adds_dead t _ _ h
      · rw [adds_no hl h0]
        exact fwr_dead h0
theorem fins_dead {m : Sto} {f : For} (h : (fins m f).1 ≠ 0) : (fins m f).2.2.dead = (fins m f).1 := by
  unfold fins at h ⊢
  split
  · rename_i e; rw [if_pos e] at h; exact absurd rfl h
  · rename_i e; rw [if_neg e] at h; exact fwr_dead h
/-- a former that lives on -/
theorem adds_ok : ∀ (X : List Tx) (m : Sto) (f : For), f.Ok m → f.buf.length < f.size → (∀ x ∈ X, x.size ≤ 255) → (adds m f X).1 = 0 → (adds m f X).2.2.Ok (adds m f X).2.1 ∧ (adds m f X).2.2.buf.length < (adds m f X).2.2.size ∧ (adds m f X).2.2.size = f.size
  | [], m, f, ok, hf, _, _ => ⟨ok, hf, rfl⟩
  | x :: t, m, f, ok, hf, hs, h => by
    have ok2 := ok.push (hs x (List.mem_cons_self ..))
    have hs2 : ∀ y ∈ t, y.size ≤ 255 := fun y hy => hs y (List.mem_cons_of_mem _ hy)
    by_cases hl : f.buf.length + 1 < f.size
    · rw [adds_room hl] at h ⊢
      exact adds_ok t m (f.push x) ok2 (by show (f.buf ++ [x]).length < f.size; rw [List.length_append]; exact hl) hs2 h
    · by_cases h0 : (fwr m (f.push x)).1 = 0
      · rw [adds_go hl h0] at h ⊢
        obtain ⟨o1, o2, o3⟩ := ok2.wrote h0
        have q := adds_ok t _ _ o1 (by rw [o2, o3]; exact ok2.s1) hs2 h
        exact ⟨q.1, q.2.1, q.2.2.trans o3⟩
      · rw [adds_no hl h0] at h
        exact absurd h h0
theorem frs_z : Um.frs (Um.rl [(⟨#[122]⟩ : Tx)]) = [1, 122] := by
  simp only [Um.frs, Um.rl, List.map_cons, List.map_nil, List.flatMap_cons, List.flatMap_nil, Um.fr, Um.lst]
  rw [Um.uL_small (by decide)]
  rfl
theorem ofS_z : ofS [(⟨#[122]⟩ : Tx)] = [(⟨#[122]⟩ : Tx)] := Sm.rs_ext (Sm.ofS_rs _) (by simp [Sm.Rs]) fun z => by rw [Sm.ofS_mem]
/-- one more former goes on: a text of one letter in a store of which nothing is left -/
theorem one_more {m : Sto} (ok : m.Ok) (ha : m.ahead = 0) (hr : m.runs = []) (hm : m.made < 16777216) (hc : 2 ≤ m.cap) :
    (adds m ⟨1, [], [], 0⟩ [(⟨#[122]⟩ : Tx)]).1 = 0 ∧ (adds m ⟨1, [], [], 0⟩ [(⟨#[122]⟩ : Tx)]).2.1.runs.length = 1 := by
  have hz : ofS [(⟨#[122]⟩ : Tx)] = [(⟨#[122]⟩ : Tx)] := ofS_z
  obtain ⟨b1, b2⟩ := bat_room (L := ofS [(⟨#[122]⟩ : Tx)]) ok ha hm (by rw [hz, frs_z, hr]; simpa [tot] using hc)
  have hn := (ns_bat (m := m) (fun x hx => by unfold ns at hx; rw [hr] at hx; cases hx) (ofS [(⟨#[122]⟩ : Tx)])).1 b1
  have h0 : (fwr m (For.push ⟨1, [], [], 0⟩ (⟨#[122]⟩ : Tx))).1 = 0 := by
    unfold fwr
    show (if (bat m (ofS [(⟨#[122]⟩ : Tx)])).1 = 0 then _ else _ : Nat × Sto × For).1 = 0
    rw [if_pos b1]
  have h1 : (fwr m (For.push ⟨1, [], [], 0⟩ (⟨#[122]⟩ : Tx))).2.1 = (bat m (ofS [(⟨#[122]⟩ : Tx)])).2.1 := by
    unfold fwr
    show (if (bat m (ofS [(⟨#[122]⟩ : Tx)])).1 = 0 then _ else _ : Nat × Sto × For).2.1 = _
    rw [if_pos b1]
    rfl
  rw [adds_go (by simp) h0, adds_stop]
  refine ⟨rfl, ?_⟩
  show (fwr m _).2.1.runs.length = 1
  rw [h1]
  have := congrArg List.length hn
  unfold ns at this
  rw [hr] at this
  simpa using this
end Rs
end Go.Proofs.YtbapnoafjcipjaaGreatDoor
