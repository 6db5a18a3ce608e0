/- Layer 7: the document's least, Peek, Pop. -/
import Derived.Test.YtddfljlecnllaaaKb
namespace Go.Proofs.Ytddfljlecnllaaa
open Go.RowKit
namespace Hp
section
variable {α : Type} {lt : α → α → Bool}
theorem Lst.yes (o : Ord lt) {l : List α} {k : Nat} {x y : α} (h : Lst lt l k x) (hy : lt y x = true) : Lst lt (l ++ [y]) l.length y := by
  refine ⟨by simp, fun j z hj hz => ?_, fun j z hj hz => ?_⟩
  · rw [List.getElem?_append_left hj] at hz
    rcases Nat.lt_trichotomy j k with e | e | e
    · exact o.tr hy (h.2.1 j z e hz)
    · subst e; rw [h.1] at hz; injection hz with hz; subst hz; exact hy
    · rcases o.cot _ _ z hy with q | q
      · exact q
      · rw [h.2.2 j z e hz] at q; cases q
  · rw [List.getElem?_eq_none (by simp; omega)] at hz; cases hz
theorem Lst.no {l : List α} {k : Nat} {x y : α} (h : Lst lt l k x) (hy : lt y x = false) : Lst lt (l ++ [y]) k x := by
  have hk := (List.getElem?_eq_some_iff.1 h.1).1
  refine ⟨by rw [List.getElem?_append_left hk]; exact h.1, fun j z hj hz => ?_, fun j z hj hz => ?_⟩
  · rw [List.getElem?_append_left (by omega)] at hz; exact h.2.1 j z hj hz
  · by_cases e : j < l.length
    · rw [List.getElem?_append_left e] at hz; exact h.2.2 j z hj hz
    · have : j = l.length := by have := (List.getElem?_eq_some_iff.1 hz).1; simp at this; omega
      subst this
      simp at hz
      subst hz; exact hy
theorem Lst.one (y : α) : Lst lt [y] 0 y := ⟨rfl, fun j z hj => by omega, fun j z hj hz => by rw [List.getElem?_eq_none (by simp; omega)] at hz; cases hz⟩
theorem pop_k (o : Ord lt) {l : List α} {x : α} {r : List α} (h : pop lt l = some (x, r)) : ∃ k, Lst lt l k x ∧ r = l.eraseIdx k ∧ k < l.length := by
  obtain ⟨k, h1, h2⟩ := pop_lst o h
  exact ⟨k, h1, h2, (List.getElem?_eq_some_iff.1 h1.1).1⟩
end
/-- the document's heap at block rb -/
structure RIn (w : World) (rb : Nat) (I : List It) (F : Nat → Prop) (rv : Value) : Prop where
  lt : ∀ b, F b → b < w.heap.size
  own : F rb
  obj : w.heap[rb]? = some (.cells #[rv] 31 (0, 0))
  row : w.ownsRow 0 43 2 rv I.length (rowI I)
  rowF : ∀ g, rv.ownBlock = some g → F g
def RAt (w : World) (rb : Nat) (I : List It) (F : Nat → Prop) : Prop := ∃ rv, RIn w rb I F rv
theorem RIn.kept {w w' : World} {rb : Nat} {I : List It} {F G : Nat → Prop} {rv : Value} (h : RIn w rb I F rv) (hk : ∀ b, F b → w'.heap[b]? = w.heap[b]?) (hG : ∀ b, F b → G b) (hl : ∀ b, G b → b < w'.heap.size) : RIn w' rb I G rv :=
  ⟨hl, hG _ h.own, (hk _ h.own).trans h.obj, own_kept h.row fun g hg => hk g (h.rowF g hg), fun g hg => hG g (h.rowF g hg)⟩
theorem RIn.below {w w' : World} {rb : Nat} {I : List It} {F : Nat → Prop} {rv : Value} (h : RIn w rb I F rv) (k : Below w.heap.size w w') : RIn w' rb I F rv :=
  h.kept (fun b hF => k.block b (h.lt b hF)) (fun _ x => x) fun b hF => Nat.lt_of_lt_of_le (h.lt b hF) k.size
theorem RAt.lt {w : World} {rb : Nat} {I : List It} {F : Nat → Prop} (h : RAt w rb I F) : ∀ b, F b → b < w.heap.size := by
  obtain ⟨_, h⟩ := h; exact h.lt
theorem RAt.kept {w w' : World} {rb : Nat} {I : List It} {F G : Nat → Prop} (h : RAt w rb I F) (hk : ∀ b, F b → w'.heap[b]? = w.heap[b]?) (hG : ∀ b, F b → G b) (hl : ∀ b, G b → b < w'.heap.size) : RAt w' rb I G := by
  obtain ⟨rv, h⟩ := h
  exact ⟨rv, h.kept hk hG hl⟩
theorem RAt.below {w w' : World} {rb : Nat} {I : List It} {F : Nat → Prop} (h : RAt w rb I F) (k : Below w.heap.size w w') : RAt w' rb I F := by
  obtain ⟨rv, h⟩ := h
  exact ⟨rv, h.below k⟩
theorem dcell {w : World} {rb : Nat} {rv : Value} (h : w.heap[rb]? = some (.cells #[rv] 31 (0, 0))) : w.cell? ⟨rb, 0, none⟩ = some rv ∧ (∀ k, w.frozen? ⟨rb, k, none⟩ = false) ∧ rb < w.heap.size := by
  refine ⟨?_, fun k => ?_, (Array.getElem?_eq_some_iff.1 h).1⟩ <;> simp [World.cell?, World.frozen?, h]
theorem RIn.its {w : World} {rb : Nat} {I : List It} {F : Nat → Prop} {rv : Value} (h : RIn w rb I F rv) : Its w rv I (fun b => ¬ F b) := its_of_row h.row fun g hg e => e (h.rowF g hg)
/-- what least answers -/
def LstE (I : List It) (e : Ending) : Prop := (I = [] ∧ e = .returned (.int .i64 (-1))) ∨ ∃ (k : Nat) (x : It), Lst rise_ I k x ∧ e = .returned (.int .i64 k)
set_option maxRecDepth 100000 in
set_option maxHeartbeats 2000000 in
theorem least_any {w : World} {rb : Nat} {I : List It} {F : Nat → Prop} {rv : Value} (h : RIn w rb I F rv) (hz : I.length ≤ 1099511627776) :
    Calls Try.prog 44 #[.pointer (some ⟨rb, 0, none⟩)] w fun e w' => LstE I e ∧ ∃ q, w' = w.drewN q := by
  obtain ⟨c0, cf, hl⟩ := dcell h.obj
  obtain ⟨ao, cap, rfl, hat⟩ := h.its
  have HAT := hide hat
  obtain ⟨n, hn⟩ : ∃ n, I.length = n := ⟨_, rfl⟩
  have HN := hide hn
  rw [hn] at hz c0
  clear h hat hn
  go_enter Try.func44, Try.ntmps44
  go_wp2
  go_loopw [3, 4] (fun s3 s4 wr => ∃ (i q : Nat), s4 = .int .i64 i ∧ i ≤ n ∧ wr = w.drewN q ∧ Hid ((i = 0 ∧ s3 = .int .i64 (-1)) ∨ ∃ (k : Nat) (x : It), s3 = .int .i64 k ∧ k < i ∧ Lst rise_ (I.take i) k x)) (fun _ s4 _ => n - (intOf s4).toNat)
  case atStart => exact ⟨0, 0, rfl, Nat.zero_le _, rfl, .inl ⟨rfl, rfl⟩⟩
  case round =>
    obtain ⟨i, q, rfl, hi, rfl, HA⟩ := hrel
    have k0 : (w.drewN q).cell? ⟨rb, 0, none⟩ = some (.slice ao n cap) := c0
    have HW : Hid (∀ m, ∃ q', (w.drewN q).drewN m = w.drewN q') := fun m => ⟨q + m, by rw [World.drewN_drewN]⟩
    have HWQ : Hid (∃ q', w.drewN q = w.drewN q') := ⟨q, rfl⟩
    by_cases hlt : i < n
    · have hltz : (i : Int) < (n : Int) := by omega
      have hi0 : 0 ≤ (i : Int) := by omega
      obtain ⟨y, hy⟩ : ∃ y, I[i]? = some y := ⟨_, List.getElem?_eq_getElem (by rw [unhide HN]; exact hlt)⟩
      have HT : Hid (I.take (i + 1) = I.take i ++ [y]) := by rw [Hid, List.take_succ_eq_append_getElem (by rw [unhide HN]; exact hlt), (List.getElem?_eq_some_iff.1 hy).2]
      have hil : (I.take i).length = i := by rw [List.length_take, unhide HN]; omega
      rcases unhide HA with ⟨rfl, rfl⟩ | ⟨k, x, rfl, hki, hL⟩
      · have HL : Hid (Lst rise_ (I.take (0 + 1)) 0 y) := by rw [unhide HT]; exact Lst.one y
        clear hy HT hil
        generalize w.drewN q = W at *
        go_wp2
        go_quiet (fail)
        go_wp2
        obtain ⟨q', hq'⟩ := unhide HW nq
        exact ⟨⟨0 + 1, q', by go_num, by omega, hq', .inr ⟨0, y, rfl, by omega, unhide HL⟩⟩, by simp [intOf]; omega⟩
      · obtain ⟨g, off, rfl, hg, -, hc⟩ := unhide HAT (by rw [unhide HN]; omega)
        have hx : I[k]? = some x := by have := hL.1; rwa [List.getElem?_take_of_lt hki] at this
        have y0 : (w.drewN q).cell? ⟨g, off + i * 2, none⟩ = some (.int .i64 y.1) := (hc i y hy).1
        have x0 : (w.drewN q).cell? ⟨g, off + k * 2, none⟩ = some (.int .i64 x.1) := (hc k x hx).1
        have hkn : k < n := by omega
        have hkz : (k : Int) < (n : Int) := by omega
        have hk0 : 0 ≤ (k : Int) := by omega
        have hkd : decide ((k : Int) < 0) = false := by simp
        have HL := hide hL
        clear hc hx hy hL
        generalize w.drewN q = W at *
        by_cases hyx : y.1 < x.1
        · have HL2 : Hid (Lst rise_ (I.take (i + 1)) i y) := by
            have e := (unhide HL).yes rise_ord (y := y) (by simp [rise_]; exact hyx)
            rw [hil] at e; rw [unhide HT]; exact e
          clear HT hil HL
          go_wp2
          go_quiet (fail)
          go_wp2
          obtain ⟨q', hq'⟩ := unhide HW nq
          exact ⟨⟨i + 1, q', by go_num, by omega, hq', .inr ⟨i, y, rfl, by omega, unhide HL2⟩⟩, by simp [intOf]; omega⟩
        · have HL2 : Hid (Lst rise_ (I.take (i + 1)) k x) := by
            have e := (unhide HL).no (y := y) (by simp [rise_]; omega)
            rw [unhide HT]; exact e
          clear HT hil HL
          go_wp2
          go_quiet (fail)
          go_wp2
          obtain ⟨q', hq'⟩ := unhide HW nq
          exact ⟨⟨i + 1, q', by go_num, by omega, hq', .inr ⟨k, x, rfl, by omega, unhide HL2⟩⟩, by simp [intOf]; omega⟩
    · obtain rfl : i = n := by omega
      have hltz : ¬ (i : Int) < (i : Int) := by omega
      have HE : Hid (I.take i = I) := by rw [Hid, ← unhide HN, List.take_length]
      rcases unhide HA with ⟨h0, rfl⟩ | ⟨k, x, rfl, hki, hL⟩
      · have HI : Hid (I = []) := List.eq_nil_of_length_eq_zero (by rw [unhide HN, h0])
        clear h0 HE
        generalize w.drewN q = W at *
        go_wp2
        go_ret
        exact ⟨.inl ⟨unhide HI, rfl⟩, unhide HWQ⟩
      · rw [unhide HE] at hL
        have HL := hide hL
        clear hL HE
        generalize w.drewN q = W at *
        go_wp2
        go_ret
        exact ⟨.inr ⟨k, x, unhide HL, rfl⟩, unhide HWQ⟩
end Hp
end Go.Proofs.Ytddfljlecnllaaa
