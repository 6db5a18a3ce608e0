/- Contracts: slices.IndexFunc and slices.DeleteFunc with a set's own question, and Without of a set of flags. -/
import Derived.Test.YtgaagbjbolfbjaaDoorSetW
import Derived.Lib.SliceRun
import Derived.Deep.LoopGhost
namespace Go.Proofs.YtgaagbjbolfbjaaDoor
open Go.Sort Go.RowKit
namespace So

/-- what is kept -/
def kept (F : List Int) (S : List Int) : List Int := S.filter fun x => !hasB F x
theorem kept_snoc {F S : List Int} {k : Nat} {x : Int} (hx : S[k]? = some x) : kept F (S.take (k + 1)) = kept F (S.take k) ++ (if hasB F x then [] else [x]) := by
  have hk : k < S.length := (List.getElem?_eq_some_iff.1 hx).1
  rw [List.take_succ_eq_append_getElem hk, (List.getElem?_eq_some_iff.1 hx).2]
  unfold kept
  rw [List.filter_append]
  cases h : hasB F x
  · simp [h]
  · simp [h]
set_option maxRecDepth 100000 in
set_option maxHeartbeats 2000000 in
theorem index_set (v u : Value) (S F : List Int) (w : World) (hS : FArg w v S) (hF : FArg w u F) :
    Calls Tryd.prog 20 #[v, .func (.func 16) #[u] #[]] w fun e w' => ((e = .returned (.int .i64 (-1)) ∧ kept F S = S) ∨ ∃ k : Nat, e = .returned (.int .i64 k) ∧ k < S.length ∧ kept F (S.take (k + 1)) = S.take k) ∧ w' = w := by
  have HH := hide (fun x => has_any u F x w hF)
  obtain ⟨ao, cap, rfl, hc, hm, _, hcell⟩ := hS
  have HC := hide hcell
  unfold maxLen at hm
  have HSN := hide (fun (k : Nat) x => kept_snoc (F := F) (S := S) (k := k) (x := x))
  have HTK := hide (fun (k : Nat) x (h : S[k]? = some x) => (show S.take (k + 1) = S.take k ++ [x] by
    have hk : k < S.length := (List.getElem?_eq_some_iff.1 h).1
    rw [List.take_succ_eq_append_getElem hk, (List.getElem?_eq_some_iff.1 h).2]))
  have HFU : Hid (S.take S.length = S) := List.take_length
  clear hcell hF
  generalize hn : S.length = n at *
  have HN := hide hn
  clear hn
  go_enter Tryd.func20, Tryd.ntmps20
  go_wp2
  go_loop [8] (fun i => ∃ k : Nat, i = .int .i64 k ∧ k ≤ n ∧ Hid (kept F (S.take k) = S.take k)) (fun i => n - (intOf i).toNat)
  case atStart => exact ⟨0, rfl, Nat.zero_le _, by simp [Hid, kept]⟩
  case round =>
    obtain ⟨k, rfl, hk, HT⟩ := hrel
    by_cases hlt : k < n
    · have hltz : (k : Int) < (n : Int) := by omega
      obtain ⟨x, hx⟩ : ∃ x, S[k]? = some x := ⟨_, List.getElem?_eq_getElem (by rw [unhide HN]; exact hlt)⟩
      obtain ⟨g, off, rfl, _, hcc⟩ := unhide HC (by omega)
      have hcx := hcc k x hx
      have HHX := hide (unhide HH x)
      have HS1 := hide (unhide HSN k x hx)
      have HT1 := hide (unhide HTK k x hx)
      clear hcc hx
      cases hb : hasB F x
      · rw [hb] at HHX
        have HT2 : Hid (kept F (S.take (k + 1)) = S.take (k + 1)) := by rw [Hid, unhide HS1, unhide HT1, unhide HT, hb]; rfl
        clear hb
        go_wp2_with (go_at_call 16; refine (unhide HHX).mono ?_; rintro e w1 ⟨rfl, hw1⟩; obtain rfl := hw1.symm)
        go_round
        case rel => exact ⟨k + 1, by go_num, by omega, HT2⟩
        case measure => simp [intOf]; omega
      · rw [hb] at HHX
        have HT2 : Hid (kept F (S.take (k + 1)) = S.take k) := by rw [Hid, unhide HS1, unhide HT, hb]; simp
        clear hb
        go_wp2_with (go_at_call 16; refine (unhide HHX).mono ?_; rintro e w1 ⟨rfl, hw1⟩; obtain rfl := hw1.symm)
        go_ret
        exact ⟨.inr ⟨k, rfl, hlt, unhide HT2⟩, rfl⟩
    · obtain rfl : k = n := by omega
      have hltz : ¬ (k : Int) < (k : Int) := by omega
      have HF2 : Hid (kept F S = S) := by
        have := unhide HT
        rw [unhide HFU] at this
        exact this
      go_wp2
      go_ret
      exact ⟨.inl ⟨rfl, unhide HF2⟩, rfl⟩

/-- the row under way: what is kept of the first j stands in front, the rest is as it was -/
structure Del (F S : List Int) (i j : Nat) (dk : Array Int) : Prop where
  size : dk.size = S.length
  len : (kept F (S.take j)).length = i
  front : dk.toList.take i = kept F (S.take j)
  rest : ∀ t, j ≤ t → dk[t]! = S[t]!
  ij : i < j
theorem Del.skip {F S : List Int} {i j : Nat} {dk : Array Int} (h : Del F S i j dk) {x : Int} (hx : S[j]? = some x) (hb : hasB F x = true) : Del F S i (j + 1) dk := by
  have e := kept_snoc (F := F) hx
  rw [hb] at e
  simp at e
  exact ⟨h.size, by rw [e]; exact h.len, by rw [e]; exact h.front, fun t ht => h.rest t (by omega), by have := h.ij; omega⟩
theorem Del.keep {F S : List Int} {i j : Nat} {dk : Array Int} (h : Del F S i j dk) {x : Int} (hx : S[j]? = some x) (hb : hasB F x = false) : Del F S (i + 1) (j + 1) (dk.setIfInBounds i x) := by
  have e := kept_snoc (F := F) hx
  rw [hb] at e
  simp at e
  have hj : j < S.length := (List.getElem?_eq_some_iff.1 hx).1
  have hij := h.ij
  have hs := h.size
  refine ⟨by simpa using hs, by rw [e]; simp [h.len], ?_, fun t ht => ?_, by omega⟩
  · rw [e, ← h.front]
    have hi : i < dk.size := by omega
    rw [List.take_succ_eq_append_getElem (by simpa using hi)]
    congr 1
    · simp [List.take_set_of_le]
    · simp
  · rw [getElem!_set_other dk i t x (by omega)]
    exact h.rest t (by omega)
theorem at_set {w wr : World} {g i : Nat} {dk d : Array Int} (h : At encF w g 0 dk wr) (hH : Holds encF w g 0 d) (hs : dk.size = d.size) (hb : g < w.heap.size) (hi : i < dk.size) (x : Int) : At encF w g 0 (dk.setIfInBounds i x) (wr.setCell ⟨g, i, none⟩ (encF x)) := by
  have hh := (h.holds hH hs hb).1
  refine h.step hb (by simp) ⟨0, ?_⟩
  rw [ahead_zero]
  have := putRow_set encF wr g 0 dk i x hi
  rw [putRow_self encF wr g 0 dk hh, Nat.zero_add] at this
  exact this
theorem size_lay : ∀ (xs : List Int) (d : Array Int) (k : Nat), (Lib.lay d k xs).size = d.size
  | [], _, _ => rfl
  | x :: r, d, k => by rw [Lib.lay, size_lay r]; simp
theorem at_lay {w wr : World} {g i : Nat} {dk d : Array Int} (h : At encF w g 0 dk wr) (hH : Holds encF w g 0 d) (hs : dk.size = d.size) (hb : g < w.heap.size) (xs : List Int) (hi : i + xs.length ≤ dk.size) : At encF w g 0 (Lib.lay dk i xs) (wr.setCells g i (xs.map encF)) := by
  have hh := (h.holds hH hs hb).1
  refine h.step hb (size_lay xs dk i) ⟨0, ?_⟩
  rw [ahead_zero]
  have := Lib.putRow_setCells encF wr g 0 xs dk i hi
  rw [putRow_self encF wr g 0 dk hh, Nat.zero_add] at this
  exact this
theorem lay_front {dk : Array Int} {i : Nat} (xs : List Int) (h : i + xs.length ≤ dk.size) : (Lib.lay dk i xs).toList.take i = dk.toList.take i := by
  apply List.ext_getElem?
  intro t
  rw [List.getElem?_take, List.getElem?_take]
  by_cases ht : t < i
  · rw [if_pos ht, if_pos ht]
    have := Lib.lay_get? xs dk i t h
    rw [if_neg (by omega)] at this
    simpa using this
  · rw [if_neg ht, if_neg ht]

set_option maxRecDepth 100000 in
set_option maxHeartbeats 4000000 in
theorem delete_any (g cap n₀ : Nat) (u : Value) (S F : List Int) (w : World) (hS : FRow n₀ w (.slice (some ⟨g, 0, none⟩) S.length cap) S) (hg : n₀ ≤ g) (hgs : g < w.heap.size) (hn0 : n₀ ≤ w.heap.size) (hcap : S.length ≤ cap) (hcm : cap ≤ maxLen) (hH : Holds encF w g 0 S.toArray)
    (hu : ∀ dk W, At encF w g 0 dk W → FArg W u F) :
    Calls Tryd.prog 15 #[.slice (some ⟨g, 0, none⟩) S.length cap, .func (.func 16) #[u] #[]] w fun e w' => ∃ v', e = .returned v' ∧ FRow n₀ w' v' (kept F S) ∧ Go.RowKit.Below n₀ w w' := by
  have HAT := hide (At.refl hH)
  have HI := hide (index_set (.slice (some ⟨g, 0, none⟩) S.length cap) u S F w hS.arg (hu _ w (At.refl hH)))
  have HU := hide hu
  have HH := hide hH
  have HS := hide hS
  have HFIN : Hid (∀ (i : Nat) (dk : Array Int) W, At encF w g 0 dk W → dk.size = S.length → dk.toList.take i = kept F S → (kept F S).length = i → FRow n₀ W (.slice (some ⟨g, 0, none⟩) i cap) (kept F S) ∧ Go.RowKit.Below n₀ w W) := fun i dk W hat hsz hfr hl => by
    have h1 := hS.at hat hsz
    have h2 : FRow n₀ W (.slice (some ⟨g, 0, none⟩) dk.toList.length cap) dk.toList := by rw [Array.length_toList, hsz]; exact h1
    have h3 := h2.take (m := kept F S) (by rw [← hfr]; exact List.take_prefix _ _)
    rw [hl] at h3
    exact ⟨h3, at_below hat hg hn0⟩
  unfold maxLen at hcm
  have HB0 := hide (Go.RowKit.Below.refl n₀ w)
  have HL0 : Hid (S.toArray.size = S.length) := by simp [Hid]
  have HST : Hid (∀ (k : Nat), k < S.length → kept F (S.take (k + 1)) = S.take k → Del F S k (k + 1) S.toArray) := fun k hk he => ⟨by simp, by rw [he]; simp; omega, by rw [he], fun t _ => by simp, by omega⟩
  have HSKIP := hide (fun i j dk (h : Del F S i j dk) x => h.skip (x := x))
  have HKEEP := hide (fun i j dk (h : Del F S i j dk) x => h.keep (x := x))
  have HFULL : Hid (S.take S.length = S) := List.take_length
  clear hS hH hu
  generalize hn : S.length = n at *
  have HN := hide hn
  clear hn
  go_enter Tryd.func15, Tryd.ntmps15
  go_wp2_with (go_at_call 20; refine (unhide HI).mono ?_; rintro e w1 ⟨⟨rfl, he⟩ | ⟨k0, rfl, hk0, he⟩, hw1⟩ <;> obtain rfl := hw1.symm <;> have HE := hide he <;> clear he)
  · go_ret
    exact ⟨_, rfl, by rw [unhide HE]; exact unhide HS, unhide HB0⟩
  · have hkz : ((k0 : Int) == -1) = false := by rw [beq_eq_false_iff_ne]; omega
    have HD0 := hide (unhide HST k0 hk0 (unhide HE))
    go_wp2_with fail
    go_loopg [5, 6] n (fun kk si sj wr => ∃ (i j : Nat) (dk : Array Int), si = .int .i64 i ∧ sj = .int .i64 j ∧ n - j ≤ kk ∧ i < j ∧ j ≤ n ∧ dk.size = n ∧ Hid (Del F S i j dk) ∧ Hid (At encF w g 0 dk wr))
    case atStart => exact ⟨k0, k0 + 1, S.toArray, rfl, by go_num, by omega, by omega, by omega, by rw [unhide HL0], HD0, HAT⟩
    case round =>
      obtain ⟨i, j, dk, rfl, rfl, hkk, hij, hjn, hsd, HD, HA⟩ := hrel
      have HHO := hide ((unhide HA).holds (unhide HH) (by rw [hsd]; exact (unhide HL0).symm) hgs)
      by_cases hlt : j < n
      · have hltz : (j : Int) < (n : Int) := by omega
        obtain ⟨x, hx⟩ : ∃ x, S[j]? = some x := ⟨_, List.getElem?_eq_getElem (by rw [unhide HN]; exact hlt)⟩
        have hcj : wr.cell? ⟨g, j, none⟩ = some (.int .u16 x) := by
          have h := ((unhide HHO).1 j (by omega)).1
          rw [(unhide HD).rest j (Nat.le_refl _), Nat.zero_add] at h
          rw [h]
          have : S[j]! = x := by
            obtain ⟨hl, e⟩ := List.getElem?_eq_some_iff.1 hx
            rw [getElem!_pos S j hl, e]
          rw [this]
        have hci := ((unhide HHO).1 i (by omega)).1
        have hfi := ((unhide HHO).1 i (by omega)).2
        rw [Nat.zero_add] at hci hfi
        generalize encF dk[i]! = ui at *
        have HHX := hide (has_any u F x wr (unhide HU dk wr (unhide HA)))
        cases hb : hasB F x
        · rw [hb] at HHX
          have HD2 := hide (unhide HKEEP i j dk (unhide HD) x hx hb)
          clear hb hx
          go_wp2_with (go_at_call 16; refine (unhide HHX).mono ?_; rintro e w2 ⟨rfl, hw2⟩; obtain rfl := hw2.symm)
          go_roundg (n - (j + 1))
          case rel => exact ⟨i + 1, j + 1, dk.setIfInBounds i x, by go_num, by go_num, Nat.le_refl _, by omega, by omega, by simpa using hsd, HD2, hide (at_set (unhide HA) (unhide HH) (by rw [hsd]; exact (unhide HL0).symm) hgs (by omega) x)⟩
          case measure => omega
        · rw [hb] at HHX
          have HD2 := hide (unhide HSKIP i j dk (unhide HD) x hx hb)
          clear hb hx
          go_wp2_with (go_at_call 16; refine (unhide HHX).mono ?_; rintro e w2 ⟨rfl, hw2⟩; obtain rfl := hw2.symm)
          go_roundg (n - (j + 1))
          case rel => exact ⟨i, j + 1, dk, rfl, by go_num, Nat.le_refl _, by omega, by omega, hsd, HD2, HA⟩
          case measure => omega
      · obtain rfl : j = n := by omega
        have hltz : ¬ (j : Int) < (j : Int) := by omega
        have hcl : ∀ ty, (Builtin.clear_ #[26] ty #[.slice (some ⟨g, i, none⟩) (j - i) (cap - i)]).run Tryd.prog wr = .ok (.tuple #[]) (wr.setCells g i (List.replicate (j - i) (.int .u16 0))) := fun ty =>
          Lib.run_clear_slice wr _ _ ty _ Tryd.underlying26 Tryd.zeroValue25 rfl rfl g i _ _ (by omega) (fun t ht => by
            have := ((unhide HHO).1 (i + t) (by omega)).1
            rw [Nat.zero_add] at this
            rw [this]; rfl) (fun t ht => by
            have := ((unhide HHO).1 (i + t) (by omega)).2
            rw [Nat.zero_add] at this
            exact this)
        have HEND : Hid (FRow n₀ (wr.setCells g i (List.replicate (j - i) (.int .u16 0))) (.slice (some ⟨g, 0, none⟩) i cap) (kept F S) ∧ Go.RowKit.Below n₀ w (wr.setCells g i (List.replicate (j - i) (.int .u16 0)))) := by
          have hat := at_lay (i := i) (unhide HA) (unhide HH) (by rw [hsd]; exact (unhide HL0).symm) hgs (List.replicate (j - i) (0 : Int)) (by simp; omega)
          rw [List.map_replicate] at hat
          have e1 := (unhide HD).front
          have e2 := (unhide HD).len
          rw [← unhide HN, List.take_length] at e1 e2
          exact unhide HFIN i _ _ hat (by rw [size_lay, hsd]) (by rw [lay_front _ (by simp; omega)]; exact e1) e2
        generalize wr.setCells g i (List.replicate (j - i) (.int .u16 0)) = wz at *
        go_wp2
        go_ret
        exact ⟨_, rfl, unhide HEND⟩
set_option maxRecDepth 100000 in
set_option maxHeartbeats 4000000 in
theorem without_any (v f : Value) (S F : List Int) (w : World) (hS : FArg w v S) (hF : FArg w f F) (hn : S.length + F.length ≤ 1099511627776) :
    Calls Tryd.prog 6 #[v, f] w fun e w' => ∃ u, e = .returned u ∧ FRow w.heap.size w' u (kept F (setOf S)) ∧ Go.RowKit.Below w.heap.size w w' := by
  have HO1 := hide (of_set v S w hS (by omega))
  have HO2 : Hid (∀ W, Go.RowKit.Below w.heap.size w W → Calls Tryd.prog 7 #[f] W fun e w' => ∃ u, e = .returned u ∧ FRow W.heap.size w' u (setOf F) ∧ Go.RowKit.Below W.heap.size W w') := fun W hB => of_set f F W (hF.below hB) (by omega)
  have HKE : Hid (kept (setOf F) (setOf S) = kept F (setOf S)) := by
    unfold kept
    apply List.filter_congr
    intro x _
    have : hasB (setOf F) x = hasB F x := by
      cases h : hasB F x
      · cases h2 : hasB (setOf F) x
        · rfl
        · have := hasB_iff.2 (mem_setOf.1 (hasB_iff.1 h2)); rw [h] at this; cases this
      · exact hasB_iff.2 (mem_setOf.2 (hasB_iff.1 h))
    rw [this]
  have HDE : Hid (∀ W1 W2 u1 u2, FRow w.heap.size W1 u1 (setOf S) → Go.RowKit.Below w.heap.size w W1 → FRow W1.heap.size W2 u2 (setOf F) → Go.RowKit.Below W1.heap.size W1 W2 → Calls Tryd.prog 15 #[u1, .func (.func 16) #[u2] #[]] W2 fun e w' => ∃ v', e = .returned v' ∧ FRow w.heap.size w' v' (kept F (setOf S)) ∧ Go.RowKit.Below w.heap.size w w') := fun W1 W2 u1 u2 h1 hB1 h2 hB2 => by
    have h1' := h1.below hB2
    obtain ⟨g, cap, rfl, hg, hgs, hc, hm, hH⟩ := h1.cells
    obtain ⟨g', cap', e', _, hgs', _, _, hH'⟩ := h1'.cells
    injection e' with e1 _ _
    injection e1 with e1
    injection e1 with e1 _ _
    subst e1
    obtain ⟨g2, cap2, cur2, e2, hg2, hh2, r2⟩ := h2
    have hd := delete_any g cap w.heap.size u2 (setOf S) (setOf F) W2 h1' hg hgs' (Nat.le_trans hB1.size hB2.size) hc hm hH' (fun dk W hat => by
      have hb2 : W.heap[g2]? = some (.cells cur2 25 (0, 0)) := by
        obtain ⟨n, os, rfl⟩ := hat
        have hlt : g2 < W2.heap.size := (Array.getElem?_eq_some_iff.1 hh2).1
        rw [heap_grow_old _ _ (by simp; exact hlt)]
        show (W2.heap.modify g _)[g2]? = _
        rw [Array.getElem?_modify, if_neg (by omega)]
        exact hh2
      exact FRow.arg (n₀ := W1.heap.size) ⟨g2, cap2, cur2, e2, hg2, hb2, r2⟩)
    rw [unhide HKE] at hd
    refine hd.mono ?_
    rintro e w' ⟨v', rfl, q1, q2⟩
    exact ⟨v', rfl, q1, (hB1.trans (hB2.mono hB1.size)).trans q2⟩
  clear hS hF hn HKE
  go_enter Tryd.func6, Tryd.ntmps6
  go_wp2_with (first
    | (go_at_call 7; first
      | (refine (unhide HO1).mono ?_; rintro e w1 ⟨u1, rfl, hF1, hB1⟩; have HF1 := hide hF1; have HB1 := hide hB1; have HOX := hide (unhide HO2 _ hB1); clear hF1 hB1 HO1)
      | (refine (unhide HOX).mono ?_; rintro e w2 ⟨u2, rfl, hF2, hB2⟩; have HDX := hide (unhide HDE _ _ _ _ (unhide HF1) (unhide HB1) hF2 hB2); clear hF2 hB2 HOX))
    | (go_at_call 15; refine (unhide HDX).mono ?_; rintro e w3 ⟨u3, rfl, h3⟩; have H3 := hide h3; clear h3))
  go_ret
  exact ⟨u3, rfl, unhide H3⟩
end So
end Go.Proofs.YtgaagbjbolfbjaaDoor
