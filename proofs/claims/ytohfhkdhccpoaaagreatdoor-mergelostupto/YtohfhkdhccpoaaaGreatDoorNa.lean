/- Layer 10, the plain part: a sort of any outcome. No walk. -/
import Derived.Test.YtohfhkdhccpoaaaGreatDoorGq
namespace Go.Proofs.YtohfhkdhccpoaaaGreatDoor
open Go.RowKit Go.Shelf
namespace Rs
open Sm (Tx ofS)
theorem tick_okx {m : Sto} (h : m.Ok) : m.tick.Ok := ⟨h.cap, h.made, h.used, h.peak, h.peakle, by have := h.ahead; show m.ahead - 1 ≤ _; omega, h.sorted, h.nums⟩
theorem app_okx {m : Sto} (h : m.Ok) (k : Int) (L : List ByteArray) : (app m k L).2.Ok := by
  unfold app
  split
  · exact tick_okx h
  · split
    · exact tick_okx h
    · rename_i r hl
      split
      · exact tick_okx h
      · split
        · rename_i hf
          exact app_ok (tick_okx h) (look_mem hl).1 hf
        · exact tick_okx h
theorem sel_okx {m : Sto} (h : m.Ok) (k : Int) : (sel m k).2.Ok := by
  unfold sel
  split
  · exact tick_okx h
  · split
    · exact tick_okx h
    · rename_i r hl
      split
      · exact tick_okx h
      · exact repl_ok (tick_okx h) (r0 := r) (look_mem hl).1 rfl rfl
theorem rem_okx {m : Sto} (h : m.Ok) (k : Int) : (rem m k).2.Ok := by
  unfold rem
  split
  · exact h
  · rename_i r hl
    obtain ⟨h1, h2⟩ := look_mem hl
    have q := drop_ok h h1
    rw [h2] at q
    exact q
theorem crt_okx {m : Sto} (h : m.Ok) : (crt m).2.Ok := by
  unfold crt
  split
  · exact tick_okx h
  · split
    · exact tick_okx h
    · rename_i hm
      exact newRun_ok (tick_okx h) (by show m.made < _; omega)
theorem wputs_okx (k : Int) (bs : Nat) (hb : 1 ≤ bs) : ∀ (n : Nat) (m : Sto) (T : List UInt8), T.length ≤ n → m.Ok → (wputs k bs m T).2.1.Ok := by
  intro n
  induction n with
  | zero =>
    intro m T hT h
    rw [wputs_stop (by omega)]
    exact h
  | succ n ih =>
    intro m T hT h
    by_cases hl : T.length < bs
    · rw [wputs_stop hl]; exact h
    · by_cases h0 : (app m k [strB (T.take bs)]).1 = 0
      · rw [wputs_go hb hl h0]
        exact ih _ _ (by rw [List.length_drop]; omega) (app_okx h _ _)
      · rw [wputs_no hb hl h0]
        exact app_okx h _ _
theorem wclo_okx {m : Sto} (h : m.Ok) (k : Int) (buf : List UInt8) : (wclo k m buf).2.Ok := by
  unfold wclo
  split
  · exact sel_okx h k
  · split
    · exact sel_okx (app_okx h _ _) k
    · exact app_okx h _ _
theorem bat_okx {m : Sto} (h : m.Ok) (L : List Tx) : (bat m L).2.1.Ok := by
  have h1 := crt_okx h
  unfold bat
  split
  · exact h1
  · unfold batN
    have h2 := wputs_okx ((m.made + 1 : Nat) : Int) 512 (by decide) _ (crt m).2 (Um.frs (Um.rl L)) (Nat.le_refl _) h1
    split
    · exact rem_okx h2 _
    · split
      · exact rem_okx (wclo_okx h2 _ _) _
      · exact wclo_okx h2 _ _
theorem remAll_okx : ∀ {l : List Nat} {m : Sto}, m.Ok → (remAll m l).Ok
  | [], _, h => h
  | k :: t, m, h => by rw [remAll_cons]; exact remAll_okx (rem_okx h k)
theorem crt_fail {m : Sto} (h : (crt m).1.2 ≠ 0) : (crt m).2.runs = m.runs := by
  unfold crt at h ⊢
  split
  · rfl
  · split
    · rfl
    · rename_i h1 h2
      rw [if_neg h1, if_neg h2] at h
      exact absurd rfl h
theorem app_fail {m : Sto} {k : Int} {L : List ByteArray} (h : (app m k L).1 ≠ 0) : (app m k L).2.runs = m.runs := by
  unfold app at h ⊢
  split
  · rfl
  · rename_i h1
    rw [if_neg h1] at h
    split
    · rfl
    · rename_i r hl
      rw [hl] at h
      simp only at h
      split
      · rfl
      · rename_i h2
        rw [if_neg h2] at h
        split
        · rename_i h3
          rw [if_pos h3] at h
          exact absurd rfl h
        · rfl
theorem sel_fail {m : Sto} {k : Int} (h : (sel m k).1 ≠ 0) : (sel m k).2.runs = m.runs := by
  unfold sel at h ⊢
  split
  · rfl
  · rename_i h1
    rw [if_neg h1] at h
    split
    · rfl
    · rename_i r hl
      rw [hl] at h
      simp only at h
      split
      · rfl
      · rename_i h2
        rw [if_neg h2] at h
        exact absurd rfl h
theorem Ls.fail {m0 m m' : Sto} {n : Nat} {t : List UInt8} {s : Bool} (h : Ls m0 m n t s) (e : m'.runs = m.runs) : Ls m0 m' n t s := ⟨e.trans h.runs, h.lo⟩
theorem Ls.rem {m0 m : Sto} {n : Nat} {t : List UInt8} {s : Bool} (h : Ls m0 m n t s) : (rem m n).2.runs = m0.runs := by
  have hl : look m.runs n = some ⟨n, t, s⟩ := by rw [h.runs]; exact look_last (r := ⟨n, t, s⟩) h.lo
  unfold Rs.rem
  rw [hl]
  show drop m.runs n = m0.runs
  rw [h.runs]
  unfold drop
  rw [List.filter_append]
  have e1 : (m0.runs.filter fun r => !((r.num : Int) == (n : Int))) = m0.runs := List.filter_eq_self.2 fun r hr => by
    have := h.lo r hr
    simp
    omega
  rw [e1]
  simp
theorem ls_puts2 (n : Nat) (m0 : Sto) (bs : Nat) (hb : 1 ≤ bs) : ∀ (j : Nat) (m : Sto) (t T : List UInt8), T.length ≤ j → Ls m0 m n t false → ∃ t', Ls m0 (wputs n bs m T).2.1 n t' false := by
  intro j
  induction j with
  | zero =>
    intro m t T hT h
    rw [wputs_stop (by omega)]
    exact ⟨t, h⟩
  | succ j ih =>
    intro m t T hT h
    by_cases hl : T.length < bs
    · rw [wputs_stop hl]; exact ⟨t, h⟩
    · by_cases h0 : (app m n [strB (T.take bs)]).1 = 0
      · rw [wputs_go hb hl h0]
        exact ih _ _ _ (by rw [List.length_drop]; omega) (ls_app h h0)
      · rw [wputs_no hb hl h0]
        exact ⟨t, h.fail (app_fail h0)⟩
theorem ls_clo2 {m0 m : Sto} {n : Nat} {t buf : List UInt8} (h : Ls m0 m n t false) (h0 : (wclo n m buf).1 ≠ 0) : ∃ t', Ls m0 (wclo n m buf).2 n t' false := by
  unfold wclo at h0 ⊢
  by_cases hb : buf = []
  · rw [if_pos hb] at h0 ⊢
    exact ⟨t, h.fail (sel_fail h0)⟩
  · rw [if_neg hb] at h0 ⊢
    by_cases h1 : (app m n [strB buf]).1 = 0
    · rw [if_pos h1] at h0 ⊢
      exact ⟨_, (ls_app h h1).fail (sel_fail h0)⟩
    · rw [if_neg h1]
      exact ⟨t, h.fail (app_fail h1)⟩
theorem bat_fail {m : Sto} (ok : m.Ok) {L : List Tx} (h : (bat m L).1 ≠ 0) : (bat m L).2.1.runs = m.runs := by
  unfold bat at h ⊢
  by_cases hc : (crt m).1.2 = 0
  · rw [if_neg (fun e => e hc)] at h ⊢
    have hl : Ls m (crt m).2 (m.made + 1) [] false := by
      refine ⟨?_, fun x hx => by have := ok.nums x hx; omega⟩
      unfold crt at hc ⊢
      by_cases h1 : m.ahead = 1
      · rw [if_pos h1] at hc; cases hc
      · rw [if_neg h1] at hc ⊢
        by_cases h2 : 16777216 ≤ m.made
        · rw [if_pos h2] at hc; cases hc
        · rw [if_neg h2]; rfl
    obtain ⟨t1, l1⟩ := ls_puts2 (m.made + 1) m 512 (by decide) _ (crt m).2 [] (Um.frs (Um.rl L)) (Nat.le_refl _) hl
    unfold batN at h ⊢
    split
    · exact l1.rem
    · rename_i h2
      rw [if_neg h2] at h
      split
      · rename_i h3
        obtain ⟨t2, l2⟩ := ls_clo2 l1 h3
        exact l2.rem
      · rename_i h3
        rw [if_neg h3] at h
        exact absurd rfl h
  · rw [if_pos hc]
    exact crt_fail hc
/-- what m0 had, and behind it the runs qs -/
structure RZ (m0 m : Sto) (st : Nat → List Tx) (qs : List Nat) : Prop where
  ok : m.Ok
  runs : m.runs = m0.runs ++ qs.map (rn st)
  srt : qs.Pairwise (· < ·)
  lo : ∀ r ∈ m0.runs, ∀ k ∈ qs, r.num < k
  rs : ∀ k ∈ qs, Sm.Rs (st k)
  fit : ∀ k ∈ qs, ∀ x ∈ st k, x.size ≤ 255
theorem RZ.std {m0 m : Sto} {st : Nat → List Tx} {qs : List Nat} (h : RZ m0 m st qs) {k : Nat} (hk : k ∈ qs) : Std m k (st k) :=
  ⟨⟨rn st k, look_of h.ok.sorted (r := rn st k) (by rw [h.runs]; exact List.mem_append.2 (.inr (List.mem_map.2 ⟨k, hk, rfl⟩))), rfl, rfl⟩, h.rs k hk, h.fit k hk⟩
theorem RZ.qs {m0 m : Sto} {st : Nat → List Tx} {qs : List Nat} (h : RZ m0 m st qs) : Qs m st qs := ⟨fun _ hk => h.std hk, h.srt.imp fun a => Nat.ne_of_lt a⟩
theorem RZ.hi {m0 m : Sto} {st : Nat → List Tx} {qs : List Nat} (h : RZ m0 m st qs) {k : Nat} (hk : k ∈ qs) : k ≤ m.made := (h.std hk).le h.ok
theorem RZ.start {m : Sto} (ok : m.Ok) (st : Nat → List Tx) : RZ m m st [] := ⟨ok, by simp, by simp, (fun _ _ _ q => by cases q), (fun _ q => by cases q), (fun _ q => by cases q)⟩
theorem RZ.more {m0 m : Sto} {st : Nat → List Tx} {qs : List Nat} {L : List Tx} (h : RZ m0 m st qs) (hr : Sm.Rs L) (hf : ∀ x ∈ L, x.size ≤ 255) (h0 : (bat m L).1 = 0) :
    RZ m0 (bat m L).2.1 (stU st (m.made + 1) L) (qs ++ [m.made + 1]) := by
  obtain ⟨b1, b2, b3⟩ := bat_ls h.ok h0
  have hn : ∀ k ∈ qs, k ≠ m.made + 1 := fun k hk => by have := h.hi hk; omega
  refine ⟨bat_okx h.ok L, ?_, ?_, ?_, ?_, ?_⟩
  · rw [b1, h.runs, List.map_append, map_rnU hn, List.append_assoc]
    simp [rn, stU]
  · rw [List.pairwise_append]
    refine ⟨h.srt, by simp, fun a ha c hc => ?_⟩
    simp at hc
    have := h.hi ha
    omega
  · intro r hr' k hk
    rcases List.mem_append.1 hk with q | q
    · exact h.lo r hr' k q
    · simp at q
      have := h.ok.nums r (by rw [h.runs]; exact List.mem_append.2 (.inl hr'))
      omega
  · intro k hk
    rcases List.mem_append.1 hk with q | q
    · rw [stU, if_neg (hn k q)]; exact h.rs k q
    · simp at q; subst q; rw [stU, if_pos rfl]; exact hr
  · intro k hk
    rcases List.mem_append.1 hk with q | q
    · rw [stU, if_neg (hn k q)]; exact h.fit k q
    · simp at q; subst q; rw [stU, if_pos rfl]; exact hf
theorem RZ.less {m0 m : Sto} {st : Nat → List Tx} {k : Nat} {t : List Nat} (h : RZ m0 m st (k :: t)) : RZ m0 (rem m k).2 st t := by
  obtain ⟨r, h1, _, _⟩ := (h.std (List.mem_cons_self ..)).run
  have hlt := List.pairwise_cons.1 h.srt
  refine ⟨rem_okx h.ok k, ?_, hlt.2, fun r hr j hj => h.lo r hr j (List.mem_cons_of_mem _ hj), fun j hj => h.rs j (List.mem_cons_of_mem _ hj), fun j hj => h.fit j (List.mem_cons_of_mem _ hj)⟩
  unfold rem
  rw [h1]
  show drop m.runs k = _
  rw [h.runs]
  unfold drop
  rw [List.filter_append]
  have e1 : (m0.runs.filter fun r => !((r.num : Int) == (k : Int))) = m0.runs := List.filter_eq_self.2 fun r hr => by
    have := h.lo r hr k (List.mem_cons_self ..)
    simp
    omega
  have e2 : ((t.map (rn st)).filter fun r => !((r.num : Int) == (k : Int))) = t.map (rn st) := List.filter_eq_self.2 fun r hr => by
    obtain ⟨j, hj, rfl⟩ := List.mem_map.1 hr
    have := hlt.1 j hj
    simp [rn]
    omega
  rw [e1, List.map_cons, List.filter_cons, e2]
  simp [rn]
theorem RZ.lessAll {m0 : Sto} {st : Nat → List Tx} : ∀ (A B : List Nat) (m : Sto), RZ m0 m st (A ++ B) → RZ m0 (remAll m A) st B
  | [], _, _, h => h
  | k :: A, B, m, h => by
    rw [remAll_cons]
    exact RZ.lessAll A B _ (RZ.less h)
theorem RZ.fail {m0 m : Sto} {st : Nat → List Tx} {qs : List Nat} {L : List Tx} (h : RZ m0 m st qs) (h0 : (bat m L).1 ≠ 0) : (remAll (bat m L).2.1 qs).runs = m0.runs := by
  have q : RZ m0 (bat m L).2.1 st (qs ++ []) := by
    rw [List.append_nil]
    exact { h with ok := bat_okx h.ok L, runs := (bat_fail h.ok h0).trans h.runs }
  have q2 := (RZ.lessAll qs [] _ q).runs
  simpa using q2
end Rs
end Go.Proofs.YtohfhkdhccpoaaaGreatDoor
