/- Layer 6: RecordDrops, its plain part: the store has the writer's run alone; the writer closed or dropped. -/
import Derived.Test.YtdcffkahijpcbabDoorXc
namespace Go.Proofs.YtdcffkahijpcbabDoor
open Go.RowKit
namespace Rs
/-- the store has one run, of number 1 -/
def Solo (m : Sto) : Prop := ∃ t s, m.runs = [⟨1, t, s⟩]
theorem Solo.look {m : Sto} (h : Solo m) : ∃ r, look m.runs 1 = some r ∧ m.runs = [r] ∧ r.num = 1 := by
  obtain ⟨t, s, e⟩ := h
  exact ⟨⟨1, t, s⟩, by rw [e]; rfl, e, rfl⟩
theorem solo_app {m : Sto} (h : Solo m) (L : List ByteArray) : Solo (app m 1 L).2 := by
  obtain ⟨t, s, e⟩ := h
  unfold app
  split
  · exact ⟨t, s, e⟩
  · rw [e, show look [(⟨1, t, s⟩ : Run)] 1 = some ⟨1, t, s⟩ from rfl]
    simp only
    split
    · exact ⟨t, s, e⟩
    · split
      · refine ⟨t ++ bytes L, s, ?_⟩
        show repl m.runs _ = _
        rw [e]
        simp [repl]
      · exact ⟨t, s, e⟩
theorem solo_sel {m : Sto} (h : Solo m) : Solo (sel m 1).2 := by
  obtain ⟨t, s, e⟩ := h
  unfold sel
  split
  · exact ⟨t, s, e⟩
  · rw [e, show look [(⟨1, t, s⟩ : Run)] 1 = some ⟨1, t, s⟩ from rfl]
    simp only
    split
    · exact ⟨t, s, e⟩
    · refine ⟨t, true, ?_⟩
      show repl _ _ = _
      simp [repl]
theorem solo_puts : ∀ (n : Nat) (bs : Nat) (m : Sto) (T : List UInt8), T.length ≤ n → 1 ≤ bs → Solo m → Solo (wputs 1 bs m T).2.1 := by
  intro n
  induction n with
  | zero =>
    intro bs m T hT h1 h
    rw [wputs_stop (by omega)]
    exact h
  | succ n ih =>
    intro bs m T hT h1 h
    by_cases hl : T.length < bs
    · rw [wputs_stop hl]; exact h
    · by_cases h0 : (app m 1 [strB (T.take bs)]).1 = 0
      · rw [wputs_go h1 hl h0]
        exact ih bs _ _ (by rw [List.length_drop]; omega) h1 (solo_app h _)
      · rw [wputs_no h1 hl h0]
        exact solo_app h _
theorem solo_clo {m : Sto} (h : Solo m) (buf : List UInt8) : Solo (wclo 1 m buf).2 := by
  unfold wclo
  split
  · exact solo_sel h
  · split
    · exact solo_sel (solo_app h _)
    · exact solo_app h _
theorem solo_put {m : Sto} {x : Wri} (h : Solo m) (hr : x.run = 1) (hb : 1 ≤ x.blk) (L : List ByteArray) : Solo (wput m x L).2.1 ∧ (wput m x L).2.2.run = 1 ∧ (wput m x L).2.2.blk = x.blk := by
  unfold wput
  split
  · exact ⟨h, hr, rfl⟩
  · split
    · rw [hr]
      refine ⟨solo_puts _ _ _ _ (Nat.le_refl _) hb h, ?_, ?_⟩ <;> (unfold putX; split <;> simp [hr])
    · exact ⟨h, hr, rfl⟩
theorem rem_solo {m : Sto} (h : Solo m) : (rem m 1).2.runs = [] := by
  obtain ⟨t, s, e⟩ := h
  unfold rem
  rw [e, show look [(⟨1, t, s⟩ : Run)] 1 = some ⟨1, t, s⟩ from rfl]
  simp [drop]
end Rs
end Go.Proofs.YtdcffkahijpcbabDoor
