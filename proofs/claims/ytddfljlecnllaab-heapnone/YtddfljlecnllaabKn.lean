/- Layer 7: the walk of HeapNone. -/
import Derived.Test.YtddfljlecnllaabKn1
namespace Go.Proofs.Ytddfljlecnllaab
open Go.RowKit
namespace Hp
theorem none_ref (W : World) : RAt (W.alloc (.cells #[.slice none 0 0] 36)) W.heap.size [] (fun b => b = W.heap.size) :=
  ⟨.slice none 0 0, fun b hb => by rw [hb]; simp, rfl, (MapKept.heap_alloc W _).1, World.ownsRow_nil _ _ _ _, fun g hg => by cases hg⟩
/-- a script, its lists within the form's reach -/
def ScrW (w : World) (v : Value) (os : List Op7) : Prop := Scr w v os ∧ os.length ≤ 9223372036854775807 ∧ ∀ o ∈ os, o.2.1.length ≤ 8796093022207
theorem slice_of_its {w : World} {v : Value} {X : List It} {F : Nat → Prop} (h : Its w v X F) : ∃ ao cap, v = .slice ao X.length cap := by
  obtain ⟨ao, cap, e, _⟩ := h
  exact ⟨ao, cap, e⟩
set_option maxRecDepth 100000 in
set_option maxHeartbeats 4000000 in
theorem none_walk {w : World} {v1 : Value} {os : List Op7} (h1 : ScrW w v1 os) :
    Calls Try.prog 3 #[v1] w fun e w' => e = .returned (.bool true) ∧ Below w.heap.size w w' := by
  obtain ⟨⟨ao, cap, rfl, hop, hat⟩, hlen, hxl⟩ := h1
  have HOP := hide hop
  have HAT := hide hat
  have HXL := hide hxl
  obtain ⟨n, hn⟩ : ∃ n, os.length = n := ⟨_, rfl⟩
  have HN := hide hn
  rw [hn] at hlen ⊢
  clear hop hat hxl hn
  go_enter Try.func3, Try.ntmps3
  go_wp2_with fail
  refine (wakes_any w).mono ?_
  rintro e w1 ⟨rfl, b1⟩
  have B1 := hide b1
  clear b1
  go_wp2
  go_loopw [10] (fun s10 wr => ∃ (k : Nat), s10 = .int .i64 k ∧ k ≤ n ∧ Hid (Below w.heap.size w wr)) (fun s10 _ => n - (intOf s10).toNat)
  case atStart => exact ⟨0, rfl, Nat.zero_le _, B1⟩
  case round =>
    obtain ⟨k, rfl, hk, HB⟩ := hrel
    by_cases hlt : k < n
    · have hltz : (k : Int) < (n : Int) := by omega
      have hk0 : 0 ≤ (k : Int) := by omega
      obtain ⟨o, ho⟩ : ∃ o, os[k]? = some o := ⟨_, List.getElem?_eq_getElem (by rw [unhide HN]; exact hlt)⟩
      obtain ⟨g, off, rfl, hg, hc⟩ := unhide HAT (by rw [unhide HN]; omega)
      have x0 := ((unhide HB).cell (p := ⟨g, off + k * 2, none⟩) hg).trans (hc k o ho).1
      have x1 := ((unhide HB).cell (p := ⟨g, off + k * 2 + 1, none⟩) hg).trans (hc k o ho).2
      have hoI := unhide HOP o (List.mem_of_getElem? ho)
      have hoL := unhide HXL o (List.mem_of_getElem? ho)
      have HIT : Hid (∀ W, Below wr.heap.size wr W → Its W o.2.2 o.2.1 (fun _ => False)) := fun W hW => (hoI.chg (Chg.of_below ((unhide HB).trans (hW.mono (unhide HB).size)))).mono fun _ _ h => h.elim
      obtain ⟨ai, ci, ei⟩ := slice_of_its hoI
      rw [ei] at x1 HIT
      obtain ⟨X, hX⟩ : ∃ X, o.2.1 = X := ⟨_, rfl⟩
      rw [hX] at x1 HIT hoL
      have HOL := hide hoL
      generalize o.1 = kd at *
      clear hc ho hoI ei hX hoL
      go_wp2_with fail
      have hbx : Below wr.heap.size wr (wr.alloc (.cells #[.int .i64 kd, .slice ai X.length ci] 27)) := (Below.refl _ _).alloc (Nat.le_refl _) _
      have hbo : (wr.alloc (.cells #[.int .i64 kd, .slice ai X.length ci] 27)).heap[wr.heap.size]? = some (.cells #[.int .i64 kd, .slice ai X.length ci] 27 (0, 0)) := (MapKept.heap_alloc wr _).1
      generalize wr.alloc (.cells #[.int .i64 kd, .slice ai X.length ci] 27) = W0 at *
      have HTW := hide (twin_any (unhide HIT _ hbx) (by have := unhide HOL; omega))
      have hW0 : wr.heap.size < W0.heap.size := (Array.getElem?_eq_some_iff.1 hbo).1
      have BX := hide hbx
      have BO := hide hbo
      clear hbx hbo x0 x1
      refine (unhide HTW).mono ?_
      rintro e w2 ⟨u2, rfl, -, b2⟩
      obtain ⟨o0, o1, ol⟩ := cells2_box ((b2.block _ hW0).trans (unhide BO))
      have B2 : Hid (Below wr.heap.size wr w2) := (unhide BX).trans (b2.mono (unhide BX).size)
      clear b2 HTW BX BO
      by_cases hk1 : kd = 1
      · subst hk1
        have B3 : Hid (Below w.heap.size w w2) := (unhide HB).trans ((unhide B2).mono (unhide HB).size)
        go_wp2_with (go_at_call 6; refine (push_nil _ _).mono ?_; rintro e w3 ⟨rfl, hw3⟩; have hw4 := hw3.symm; subst hw4; clear hw3)
        go_roundw
        case rel => exact ⟨k + 1, by go_num, by omega, B3⟩
        case measure => simp [intOf]; omega
      · have hkd : (kd == 1) = false := by simp [hk1]
        have HST : Hid (Calls Try.prog 8 #[.pointer none, .pointer (some ⟨w2.heap.size, 0, none⟩), .agg #[.int .i64 kd, .slice ai X.length ci]] (w2.alloc (.cells #[.slice none 0 0] 36)) fun e w' => e = .returned (.bool true) ∧ Below w.heap.size w w') := by
          have hb3 : Below wr.heap.size wr (w2.alloc (.cells #[.slice none 0 0] 36)) := (unhide B2).alloc (unhide B2).size _
          refine (none_step (none_ref w2) (unhide HIT _ hb3) (unhide HOL) hk1).mono ?_
          rintro e w' ⟨rfl, c⟩
          have s1 := (unhide HB).size
          have s2 := (unhide B2).size
          exact ⟨rfl, (unhide HB).trans ((hb3.mono s1).trans (c.below (by simp; omega) (fun b hb => by have hb : b = w2.heap.size := hb; omega)))⟩
        go_wp2_with (first
          | (go_at_call 6; refine (push_nil _ _).mono ?_; rintro e w3 ⟨rfl, hw3⟩; have hw4 := hw3.symm; subst hw4; clear hw3)
          | (go_at_call 8; refine (unhide HST).mono ?_; rintro e w4 ⟨rfl, h4⟩; have B4 := hide h4; clear h4))
        go_roundw
        case rel => exact ⟨k + 1, by go_num, by omega, B4⟩
        case measure => simp [intOf]; omega
    · obtain rfl : k = n := by omega
      have hltz : ¬ (k : Int) < (k : Int) := by omega
      go_wp2_with (first
        | (go_at_call 9; refine (len_nil _).mono ?_; rintro e w3 ⟨rfl, hw3⟩; have hw4 := hw3.symm; subst hw4; clear hw3)
        | (go_at_call 10; refine (drain_nilh _).mono ?_; rintro e w4 ⟨v4, rfl, h4, b4⟩; obtain ⟨a4, c4, rfl⟩ := own_slice h4.1; have B4 : Hid (Below w.heap.size w w4) := (unhide HB).trans (b4.mono (unhide HB).size); simp only [List.length_nil]; clear h4 b4))
      go_ret
      exact ⟨by first | rfl | simp, unhide B4⟩
end Hp
end Go.Proofs.Ytddfljlecnllaab
