/- Layer 6: RecordDrops: what holds at each round of the law's loop. -/
import Derived.Test.YtdcffkahijpcbabDoorXf
import Derived.Test.YtdcffkahijpcbabDoorCe
namespace Go.Proofs.YtdcffkahijpcbabDoor
open Go.RowKit
namespace Rs
theorem num_app (m : Sto) (k : Int) (L : List ByteArray) : Num6 (app m k L).1 := by
  unfold app Num6
  split
  · simp
  · split
    · simp
    · split
      · simp
      · split <;> simp
theorem num_sel (m : Sto) (k : Int) : Num6 (sel m k).1 := by
  unfold sel Num6
  split
  · simp
  · split
    · simp
    · split <;> simp
theorem num_puts : ∀ (n : Nat) (k : Int) (bs : Nat) (m : Sto) (T : List UInt8), T.length ≤ n → 1 ≤ bs → Num6 (wputs k bs m T).1 := by
  intro n
  induction n with
  | zero =>
    intro k bs m T hT h1
    rw [wputs_stop (by omega)]
    exact .inl rfl
  | succ n ih =>
    intro k bs m T hT h1
    by_cases hl : T.length < bs
    · rw [wputs_stop hl]; exact .inl rfl
    · by_cases h0 : (app m k [strB (T.take bs)]).1 = 0
      · rw [wputs_go h1 hl h0]
        exact ih k bs _ _ (by rw [List.length_drop]; omega) h1
      · rw [wputs_no h1 hl h0]
        exact num_app _ _ _
theorem num_clo (k : Int) (m : Sto) (buf : List UInt8) : Num6 (wclo k m buf).1 := by
  unfold wclo
  split
  · exact num_sel _ _
  · split
    · exact num_sel _ _
    · exact num_app _ _ _
theorem num_put {m : Sto} {x : Wri} (hx : Num6 x.dead) (hb : 1 ≤ x.blk) (L : List ByteArray) : Num6 (wput m x L).1 ∧ Num6 (wput m x L).2.2.dead := by
  unfold wput
  split
  · exact ⟨hx, hx⟩
  · split
    · have hn := num_puts _ x.run x.blk m (x.buf ++ Um.frs (Um.rl L)) (Nat.le_refl _) hb
      refine ⟨hn, ?_⟩
      unfold putX
      split
      · exact hx
      · exact hn
    · exact ⟨by unfold Num6; simp, hx⟩
theorem held_put {md : Sto} {d : Doc} (hh : d.held.size ≤ 4096) (hb1 : 1 ≤ d.blk) (hb2 : d.blk ≤ 4096) (L : List ByteArray) : (dput md d L).2.2.held.size ≤ 4096 := by
  unfold dput
  split
  · exact hh
  · split
    · unfold putDoc
      split
      · rename_i h0
        have := wputs_small _ d.run d.blk md (Um.lst d.held ++ Um.frs (Um.rl L)) (Nat.le_refl _) hb1 h0
        show (Um.str _).size ≤ 4096
        rw [Um.str_size]
        omega
      · exact hh
    · exact hh
/-- a round of the law's loop -/
structure Dr (w wr : World) (E : Nat → Addr) (sb wb tb vb : Nat) (m : Sto) (x : Wri) (d : Doc) : Prop where
  ps : Ps w wr E sb wb tb vb m x m d
  like : Like x d
  solo : Solo m
  run : x.run = 1
  blk1 : 1 ≤ x.blk
  blk2 : x.blk ≤ 4096
  held : d.held.size ≤ 4096
  num : Num6 x.dead
theorem Dr.put {w wr W : World} {E : Nat → Addr} {sb wb tb vb : Nat} {m : Sto} {x : Wri} {d : Doc} {L : List ByteArray} (h : Dr w wr E sb wb tb vb m x d) (hp : Ps w W E sb wb tb vb (wput m x L).2.1 (wput m x L).2.2 (dput m d L).2.1 (dput m d L).2.2) : Dr w W E sb wb tb vb (wput m x L).2.1 (wput m x L).2.2 (dput m d L).2.2 := by
  obtain ⟨e1, e2, e3⟩ := like_put (m := m) h.like L
  obtain ⟨s1, s2, s3⟩ := solo_put h.solo h.run h.blk1 L
  rw [e2] at hp
  exact ⟨hp, e3, s1, s2, by rw [s3]; exact h.blk1, by rw [s3]; exact h.blk2, held_put h.held (by rw [h.like.blk]; exact h.blk1) (by rw [h.like.blk]; exact h.blk2) L, (num_put h.num h.blk1 L).2⟩
/-- the first Create of a store with a Break ahead -/
theorem crt_first (c n : Int) : (n.toNat = 1 ∧ ∃ m2, crt ((newS c).brk n) = ((0, 9), m2) ∧ m2.runs = []) ∨ (n.toNat ≠ 1 ∧ ∃ m2, crt ((newS c).brk n) = ((((1 : Nat) : Int), 0), m2) ∧ Solo m2) := by
  by_cases h : n.toNat = 1
  · refine .inl ⟨h, ((newS c).brk n).tick, ?_, rfl⟩
    unfold crt
    rw [if_pos (show ((newS c).brk n).ahead = 1 from h)]
  · refine .inr ⟨h, ((newS c).brk n).tick.newRun, ?_, ⟨[], false, rfl⟩⟩
    unfold crt
    rw [if_neg (show ¬ ((newS c).brk n).ahead = 1 from h), if_neg (by simp [newS, Sto.brk])]
    rfl
theorem like_new (b : Nat) : Like ⟨1, b, [], 0⟩ ⟨1, b, 0, ByteArray.empty⟩ := ⟨rfl, rfl, rfl, fun _ => rfl⟩
end Rs
end Go.Proofs.YtdcffkahijpcbabDoor
