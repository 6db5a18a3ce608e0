/- Layer 5: Read. -/
import Derived.Test.YtbapnoafjcipjaaGreatDoorRx6
namespace Go.Proofs.YtbapnoafjcipjaaGreatDoor
open Go.RowKit
namespace Rs
def rea (m : Sto) (k a n : Int) : List UInt8 × Nat := match look m.runs k with
  | none => ([], 3)
  | some r => if r.shut then (if a < 0 ∨ n < 0 ∨ a > r.txt.length ∨ n > r.txt.length - a then ([], 6) else ((r.txt.drop a.toNat).take n.toNat, 0)) else ([], 5)
def strB (l : List UInt8) : ByteArray := ⟨l.toArray⟩
def cvB (v : Value) : Sem Value := convert 76 9 v
theorem cvB_as (v : Value) : convert 76 9 v = cvB v := rfl
theorem read_nil (w : World) (k a n : Int) {E : Nat → Addr} {F : Nat → Prop} (G : Gs w E F) : Calls Tryz.prog 40 #[.pointer none, .int .i64 k, .int .i64 a, .int .i64 n] w fun e w' => e = .returned (.tuple #[.string (strB []), errV E 1]) ∧ Below w.heap.size w w' := by
  have HF := hide (find_nil w k G)
  clear G
  go_enter Tryz.func40, Tryz.ntmps40
  go_wp2_with (go_at_call 41; refine (unhide HF).mono ?_; rintro e w1 ⟨rfl, hb⟩; have HB := hide hb; clear hb)
  go_ret2
  exact ⟨rfl, (unhide HB).trans (((Below.refl _ _).alloc (Nat.le_refl _) _).mono (unhide HB).size)⟩
theorem conv_row {W : World} {g n : Nat} {cap : Nat} {t : List UInt8} (h : W.ownsRow 0 5 1 (.slice (some ⟨g, 0, none⟩) n cap) t.length (t.map encB)) (a k c : Nat) (hk : a + k ≤ t.length) :
    (cvB (.slice (some ⟨g, a, none⟩) k c)).run Tryz.prog W = .ok (.string (strB ((t.drop a).take k))) W := by
  have hl : ((t.drop a).take k).length = k := by simp; omega
  have q := run_convert_bytes_back (P := Tryz.prog) W 76 9 5 ⟨g, a, none⟩ c ((t.drop a).take k) Tryz.underlying76 Tryz.underlying5 Tryz.underlying9 (fun j hj => by
    have hj' : j < k := by omega
    obtain ⟨_, ⟨e, _⟩ | ⟨g', cap', cur, e, _, hb, hn, _, hcs, hx⟩⟩ := h
    · cases e
    · injection e with e1 e2 _
      injection e1 with e1
      injection e1 with e1 _ _
      subst e1
      have hcell : W.cell? ⟨g, a + j, none⟩ = cur[a + j]? := by simp [World.cell?, hb]
      have hx2 : cur.toList[a + j]? = (t.map encB)[a + j]? := by
        rw [← hx, List.getElem?_take, if_pos (by omega)]
      rw [Array.getElem?_toList] at hx2
      have ea : (⟨g, a, none⟩ : Addr).add j = ⟨g, a + j, none⟩ := Addr.add_lit _ _ _
      rw [ea, hcell, hx2]
      simp [encB, List.getElem?_map]
      exact ⟨t[a + j], List.getElem?_eq_getElem (by omega), rfl⟩)
  rw [hl] at q
  exact q
attribute [local go_sem ↓] cvB_as
theorem conv_none (W : World) (c : Nat) : (cvB (.slice none 0 c)).run Tryz.prog W = .ok (.string (strB [])) W := Lib.run_convert_nil_bytes W 76 9 5 c Tryz.underlying76 Tryz.underlying5 Tryz.underlying9
theorem badB (a n : Int) (l : Nat) (h : a < 0 ∨ n < 0 ∨ a > l ∨ n > l - a) : ¬ (0 ≤ a ∧ 0 ≤ n ∧ a ≤ l ∧ n ≤ l - a) := by omega
set_option maxRecDepth 100000 in
set_option maxHeartbeats 1000000 in
theorem read_any {w : World} {sb : Nat} {m : Sto} {F : Nat → Prop} {E : Nat → Addr} {B : Nat} {k a n : Int} (h : At w sb m F) (V : EnvR w E B) (hF : ∀ b, F b → B ≤ b) (hk1 : -9223372036854775808 ≤ k) (hk2 : k ≤ 9223372036854775807) (ha2 : a ≤ 9223372036854775807) (hn2 : n ≤ 9223372036854775807) :
    Calls Tryz.prog 40 #[.pointer (some ⟨sb, 0, none⟩), .int .i64 k, .int .i64 a, .int .i64 n] w fun e w' => e = .returned (.tuple #[.string (strB (rea m k a n).1), errV E (rea m k a n).2]) ∧ Below w.heap.size w w' := by
  have G := V.gs hF
  rcases hl : look m.runs k with _ | r
  · have HR : rea m k a n = ([], 3) := by unfold rea; rw [hl]
    have HF := hide (find_none h G hk1 hk2 hl)
    rw [HR]
    clear h G hl HR V hF
    go_enter Tryz.func40, Tryz.ntmps40
    go_wp2_with (go_at_call 41; refine (unhide HF).mono ?_; rintro e w1 ⟨rfl, hb⟩; have HB := hide hb; clear hb)
    go_ret2
    exact ⟨rfl, (unhide HB).trans (((Below.refl _ _).alloc (Nat.le_refl _) _).mono (unhide HB).size)⟩
  obtain ⟨bm, sl, fl, hin⟩ : ∃ bm sl fl, In w sb m F bm sl fl := by
    rcases h.open with ⟨_, he⟩ | hx
    · have := (look_mem hl).1
      rw [he] at this
      cases this
    · exact hx
  have hf := find_some hin hk1 hk2 hl
  have hrow := hin.rows.own r (look_mem hl).1
  have hlen : r.txt.length ≤ 67108864 := by have := tot_mem (look_mem hl).1; have := h.ok.used; have := h.ok.cap; omega
  obtain ⟨a0, c, ev⟩ := own_slice hrow
  rw [ev] at hf hrow
  have HRW : Hid (∀ w1, Below w.heap.size w w1 → w1.ownsRow 0 5 1 (.slice a0 r.txt.length c) r.txt.length (r.txt.map encB)) := fun w1 hb => own_kept hrow fun g hg => hb.block g (hrow.lt g hg).2
  have HG : Hid (∀ w1, Below w.heap.size w w1 → (∀ o, (w1.alloc o).cell? ⟨5, 0, none⟩ = some (er E 5)) ∧ (∀ o, (w1.alloc o).cell? ⟨10, 0, none⟩ = some (er E 6))) := fun w1 hb => by
    have hs : 12 ≤ w.heap.size := G.sz
    exact ⟨fun o => cell?_alloc_old o ((hb.cell (p := ⟨5, 0, none⟩) (by show 5 < _; omega)).trans V.op), fun o => cell?_alloc_old o ((hb.cell (p := ⟨10, 0, none⟩) (by show 10 < _; omega)).trans V.rn)⟩
  by_cases hs : r.shut = true
  · rw [hs] at hf
    by_cases hbad : a < 0 ∨ n < 0 ∨ a > r.txt.length ∨ n > r.txt.length - a
    · have HR : rea m k a n = ([], 6) := by unfold rea; rw [hl]; simp only [hs, if_true]; rw [if_pos hbad]
      have HF := hide hf
      rw [HR]
      clear h G hl HR V hF hf hin ev hrow hs HRW
      have go : ∀ (P : Prop), P → Calls Tryz.prog 40 #[.pointer (some ⟨sb, 0, none⟩), .int .i64 k, .int .i64 a, .int .i64 n] w fun e w' => e = .returned (.tuple #[.string (strB []), errV E 6]) ∧ Below w.heap.size w w' := by
        intro P hP
        clear hP
        by_cases h1 : a < 0
        · clear hbad
          go_enter Tryz.func40, Tryz.ntmps40
          go_wp2_with (go_at_call 41; refine (unhide HF).mono ?_; rintro e w1 ⟨rfl, hb⟩; obtain ⟨g5, g6⟩ := unhide HG w1 hb; have HB := hide hb; clear hb)
          go_region
          all_goals
            go_wp2
            go_ret2
            exact ⟨rfl, (unhide HB).trans ((((Below.refl _ _).alloc (Nat.le_refl _) _).drew).mono (unhide HB).size)⟩
        · by_cases h2 : n < 0
          · clear hbad
            go_enter Tryz.func40, Tryz.ntmps40
            go_wp2_with (go_at_call 41; refine (unhide HF).mono ?_; rintro e w1 ⟨rfl, hb⟩; obtain ⟨g5, g6⟩ := unhide HG w1 hb; have HB := hide hb; clear hb)
            go_region
            all_goals
              go_wp2
              go_ret2
              exact ⟨rfl, (unhide HB).trans ((((Below.refl _ _).alloc (Nat.le_refl _) _).drew).mono (unhide HB).size)⟩
          · by_cases h3 : a > r.txt.length
            · clear hbad
              go_enter Tryz.func40, Tryz.ntmps40
              go_wp2_with (go_at_call 41; refine (unhide HF).mono ?_; rintro e w1 ⟨rfl, hb⟩; obtain ⟨g5, g6⟩ := unhide HG w1 hb; have HB := hide hb; clear hb)
              go_region
              all_goals
                go_wp2
                go_ret2
                exact ⟨rfl, (unhide HB).trans ((((Below.refl _ _).alloc (Nat.le_refl _) _).drew).mono (unhide HB).size)⟩
            · have h4 : n > (r.txt.length : Int) - a := by omega
              have h5 : 0 ≤ a := by omega
              have h6 : 0 ≤ n := by omega
              have h7 : a ≤ r.txt.length := by omega
              clear hbad h1 h2 h3
              go_enter Tryz.func40, Tryz.ntmps40
              go_wp2_with (go_at_call 41; refine (unhide HF).mono ?_; rintro e w1 ⟨rfl, hb⟩; obtain ⟨g5, g6⟩ := unhide HG w1 hb; have HB := hide hb; clear hb)
              go_region
              all_goals
                go_wp2
                go_ret2
                exact ⟨rfl, (unhide HB).trans ((((Below.refl _ _).alloc (Nat.le_refl _) _).drew).mono (unhide HB).size)⟩
      exact go True trivial
    · have HR : rea m k a n = ((r.txt.drop a.toNat).take n.toNat, 0) := by unfold rea; rw [hl]; simp only [hs, if_true]; rw [if_neg hbad]
      have HF := hide hf
      rw [HR]
      obtain ⟨A, hA⟩ : ∃ A : Nat, a = (A : Int) := ⟨a.toNat, by omega⟩
      obtain ⟨N, hN⟩ : ∃ N : Nat, n = (N : Int) := ⟨n.toNat, by omega⟩
      subst hA hN
      have hAN : A + N ≤ r.txt.length := by omega
      have e1 : ((A : Int)).toNat = A := by omega
      have e2 : ((N : Int)).toNat = N := by omega
      rw [e1, e2]
      have hA2 : (A : Int) ≤ (r.txt.length : Int) := by omega
      have hN3 : (N : Int) ≤ (r.txt.length : Int) - (A : Int) := by omega
      have hAN2 : (A : Int) + (N : Int) ≤ (r.txt.length : Int) := by omega
      clear h G hl HR V hF hf hin ev hrow hs hbad e1 e2 HG
      rcases a0 with _ | ⟨g, o, sp⟩
      · have h0 : r.txt.length = 0 := by
          obtain ⟨_, ⟨_, e⟩ | ⟨g', cap', cur, e, _⟩⟩ := unhide HRW w (Below.refl _ w)
          · exact e
          · cases e
        obtain rfl : A = 0 := by omega
        obtain rfl : N = 0 := by omega
        have ht : r.txt = [] := List.eq_nil_of_length_eq_zero h0
        rw [ht] at HF ⊢
        have hcv := conv_none
        clear HRW hAN hA2 hN3 hAN2 h0 ht
        go_enter Tryz.func40, Tryz.ntmps40
        go_wp2_with (go_at_call 41; refine (unhide HF).mono ?_; rintro e w1 ⟨rfl, hb⟩; have HB := hide hb; clear hb)
        go_ret2
        exact ⟨rfl, (unhide HB).trans (((Below.refl _ _).alloc (Nat.le_refl _) _).mono (unhide HB).size)⟩
      · obtain ⟨rfl, rfl⟩ : o = 0 ∧ sp = none := by
          obtain ⟨_, ⟨e, _⟩ | ⟨g', cap', cur, e, _⟩⟩ := unhide HRW w (Below.refl _ w)
          · cases e
          · injection e with e _ _
            injection e with e
            injection e with _ e1 e2
            exact ⟨e1, e2⟩
        have hcap : r.txt.length ≤ c := by
          obtain ⟨_, ⟨e, _⟩ | ⟨g', cap', cur, e, _, _, hx, _⟩⟩ := unhide HRW w (Below.refl _ w)
          · cases e
          · injection e with _ _ e; omega
        by_cases hcA : c = A
        · obtain rfl : N = 0 := by omega
          have HCV : Hid (∀ w1 o c, Below w.heap.size w w1 → (cvB (.slice (some ⟨g, 0, none⟩) 0 c)).run Tryz.prog (w1.alloc o) = .ok (.string (strB ((r.txt.drop A).take 0))) (w1.alloc o)) := fun w1 o c hb => conv_row ((unhide HRW w1 hb).alloc o) 0 0 c (by omega)
          subst hcA
          generalize ((r.txt.drop c).take 0) = T at *
          generalize r.txt.length = Z at *
          clear HRW
          go_enter Tryz.func40, Tryz.ntmps40
          go_wp2_with (go_at_call 41; refine (unhide HF).mono ?_; rintro e w1 ⟨rfl, hb⟩; have hcv := (fun o c => unhide HCV w1 o c hb); have HB := hide hb; clear hb)
          go_ret2
          exact ⟨rfl, (unhide HB).trans (((Below.refl _ _).alloc (Nat.le_refl _) _).mono (unhide HB).size)⟩
        · have HCV : Hid (∀ w1 o c, Below w.heap.size w w1 → (cvB (.slice (some ⟨g, A, none⟩) N c)).run Tryz.prog (w1.alloc o) = .ok (.string (strB ((r.txt.drop A).take N))) (w1.alloc o)) := fun w1 o c hb => conv_row ((unhide HRW w1 hb).alloc o) A N c hAN
          have hcA2 : ¬ A = c := fun e => hcA e.symm
          have hcA3 : ¬ c - A = 0 := by omega
          generalize ((r.txt.drop A).take N) = T at *
          generalize r.txt.length = Z at *
          clear HRW
          go_enter Tryz.func40, Tryz.ntmps40
          go_wp2_with (go_at_call 41; refine (unhide HF).mono ?_; rintro e w1 ⟨rfl, hb⟩; have hcv := (fun o c => unhide HCV w1 o c hb); have HB := hide hb; clear hb)
          go_ret2
          exact ⟨rfl, (unhide HB).trans (((Below.refl _ _).alloc (Nat.le_refl _) _).mono (unhide HB).size)⟩
  · have hs : r.shut = false := by simpa using hs
    have HR : rea m k a n = ([], 5) := by unfold rea; rw [hl]; simp only [hs]; rfl
    rw [hs] at hf
    have HF := hide hf
    rw [HR]
    clear h G hl HR V hF hf hin ev hrow hs HRW
    go_enter Tryz.func40, Tryz.ntmps40
    go_wp2_with (go_at_call 41; refine (unhide HF).mono ?_; rintro e w1 ⟨rfl, hb⟩; obtain ⟨g5, g6⟩ := unhide HG w1 hb; have HB := hide hb; clear hb)
    go_region
    all_goals
      go_wp2
      go_ret2
      exact ⟨rfl, (unhide HB).trans ((((Below.refl _ _).alloc (Nat.le_refl _) _).drew).mono (unhide HB).size)⟩
end Rs
end Go.Proofs.YtbapnoafjcipjaaGreatDoor
