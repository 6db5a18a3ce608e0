/- Layer 6: RecordDrops: Close of both sides, by what it comes to. -/
import Derived.Test.YtdcffkahijpcbabDoorXg
namespace Go.Proofs.YtdcffkahijpcbabDoor
open Go.RowKit
namespace Rs
theorem dr_close {w wr : World} {E : Nat → Addr} {sb wb tb vb : Nat} {m : Sto} {x : Wri} {d : Doc} (V : Env w E w.heap.size) (h : Dr w wr E sb wb tb vb m x d) :
    (∃ c m' x', c ≠ 0 ∧ Num6 c ∧ x'.dead = c ∧ x'.run = 1 ∧ Solo m' ∧ ∃ Q : World → Prop, (Calls Tryd.prog 13 #[.pointer (some ⟨wb, 0, none⟩)] wr fun e w' => e = .returned (.tuple #[.int .i64 0, er E c]) ∧ Q w') ∧ ∀ W, Q W → Calls Tryd.prog 25 #[.pointer (some ⟨tb, 0, none⟩), .pointer (some ⟨vb, 0, none⟩)] W fun e w' => e = .returned (.tuple #[.int .i64 0, .int .i64 c]) ∧ Pp w w' E sb wb m' x') ∨
    (∃ m', Solo m' ∧ ∃ Q : World → Prop, (Calls Tryd.prog 13 #[.pointer (some ⟨wb, 0, none⟩)] wr fun e w' => e = .returned (.tuple #[.int .i64 1, .nilIface]) ∧ Q w') ∧ ∀ W, Q W → Calls Tryd.prog 25 #[.pointer (some ⟨tb, 0, none⟩), .pointer (some ⟨vb, 0, none⟩)] W fun e w' => e = .returned (.tuple #[.int .i64 1, .int .i64 0]) ∧ Pk w w' sb wb m') := by
  have hrun : x.run ≤ 16777216 := by rw [h.run]; omega
  by_cases hd : x.dead = 0
  · obtain ⟨c, m', hP⟩ : ∃ c m', wclo x.run m x.buf = (c, m') := ⟨_, _, rfl⟩
    have hPd : wclo d.run m (Um.lst d.held) = (c, m') := by rw [h.like.run, h.like.held hd]; exact hP
    have hdd : d.dead = 0 := h.like.dead.trans hd
    have hso : Solo m' := by
      have := solo_clo h.solo x.buf
      rw [h.run] at hP
      rw [show wclo 1 m x.buf = (c, m') from hP] at this
      exact this
    by_cases hc : c = 0
    · subst hc
      refine .inr ⟨m', hso, fun W => Pzs w W sb wb tb vb m' m d, ?_, fun W hW => ?_⟩
      · have q := ps_close_go V h.ps hd hrun hP
        rw [h.run] at q
        exact q
      · have q := pz_dclose_go hW hdd h.held hPd
        rw [if_pos rfl, h.like.run, h.run] at q
        exact q
    · refine .inl ⟨c, m', { x with buf := [], dead := c }, hc, ?_, rfl, h.run, hso, fun W => Ps w W E sb wb tb vb m' { x with buf := [], dead := c } m d, ps_close_fail V h.ps hd hrun hP hc, fun W hW => ?_⟩
      · have := num_clo x.run m x.buf
        rw [hP] at this
        exact this
      · have q := ps_dclose_go hW hdd h.held hPd
        rw [if_neg hc] at q
        exact q
  · refine .inl ⟨x.dead, m, x, hd, h.num, rfl, h.run, h.solo, fun W => Ps w W E sb wb tb vb m x m d, ps_close_dead h.ps hd, fun W hW => ?_⟩
    have q := ps_dclose_dead hW (by rw [h.like.dead]; exact hd)
    rw [h.like.dead] at q
    exact q
/-- one text in a list of its own -/
theorem txs_one {W : World} {g : Nat} {x : ByteArray} (hg : g < W.heap.size) (hc : W.cell? ⟨g, 0, none⟩ = some (.string x)) : Um.Txs W (.slice (some ⟨g, 0, none⟩) 1 1) [x] := by
  refine ⟨_, 1, rfl, by simp, (fun h => by cases h), fun _ => ⟨g, 0, rfl, hg, fun j y hy => ?_⟩⟩
  have : j = 0 := by
    have := (List.getElem?_eq_some_iff.1 hy).1
    simpa using this
  subst this
  simp at hy
  subst hy
  rw [Nat.zero_add]; exact hc
theorem pp_close {w wr : World} {E : Nat → Addr} {sb wb : Nat} {m : Sto} {x : Wri} {c : Nat} (h : Pp w wr E sb wb m x) (hx : x.dead = c) (hc : c ≠ 0) :
    Calls Tryd.prog 13 #[.pointer (some ⟨wb, 0, none⟩)] wr fun e w' => e = .returned (.tuple #[.int .i64 0, er E c]) ∧ w' = wr := by
  obtain ⟨F, G, bv, h1, h2, h3, h4, h5⟩ := h
  have q := close_dead h2 (by rw [hx]; exact hc)
  rw [hx] at q
  exact q
theorem pp_put {w wr : World} {E : Nat → Addr} {sb wb : Nat} {m : Sto} {x : Wri} {c : Nat} {v : Value} (h : Pp w wr E sb wb m x) (hx : x.dead = c) (hc : c ≠ 0) :
    Calls Tryd.prog 12 #[.pointer (some ⟨wb, 0, none⟩), v] wr fun e w' => e = .returned (er E c) ∧ w' = wr := by
  obtain ⟨F, G, bv, h1, h2, h3, h4, h5⟩ := h
  have q := put_dead (v := v) h2 (by rw [hx]; exact hc)
  rw [hx] at q
  exact q
theorem pk_close {w wr : World} {E : Nat → Addr} {sb wb : Nat} {m : Sto} (V : Env w E w.heap.size) (h : Pk w wr sb wb m) :
    Calls Tryd.prog 13 #[.pointer (some ⟨wb, 0, none⟩)] wr fun e w' => e = .returned (.tuple #[.int .i64 0, er E 13]) ∧ w' = wr := by
  obtain ⟨F, h1, h2, h3, h4⟩ := h
  exact close_closed (V.below h4) h2
theorem pk_put {w wr : World} {E : Nat → Addr} {sb wb : Nat} {m : Sto} {v : Value} (V : Env w E w.heap.size) (h : Pk w wr sb wb m) :
    Calls Tryd.prog 12 #[.pointer (some ⟨wb, 0, none⟩), v] wr fun e w' => e = .returned (er E 13) ∧ w' = wr := by
  obtain ⟨F, h1, h2, h3, h4⟩ := h
  exact put_closed (V.below h4) h2
end Rs
end Go.Proofs.YtdcffkahijpcbabDoor
