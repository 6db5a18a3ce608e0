/- Contract: the law's own copy of rows answers rows that hold the same texts, in memory of its own; nothing that was turns. -/
import Derived.Test.YtaaonaaciomijabDoorRowB
import Derived.Test.YtaaonaaciomijabDoorShoW
import Derived.Laws.AppendOwn
import Derived.Laws.AppendOwnNone
namespace Go.Proofs.YtaaonaaciomijabDoor
open Go.RowKit
namespace CpW
open FldW ShM

theorem infoS : (Tryd.prog.info? 47).map (fun i => (i.zero, i.size, i.bytes)) = some (some (.slice none 0 0), 1, 24) := by kernel_rfl

/-- u is a copy of the texts r: nil for none, else a block of its own -/
def CopyOf (n₀ : Nat) (W : World) (u : Value) (r : List ByteArray) : Prop := (u = .slice none 0 0 ∧ r = []) ∨ RowB.StrRow n₀ W u r
theorem CopyOf.kept {n₀ : Nat} {W W' : World} {u : Value} {r : List ByteArray} (h : CopyOf n₀ W u r) (k : RowB.Keep9 W W') : CopyOf n₀ W' u r := by
  rcases h with h | h
  · exact .inl h
  · exact .inr (h.kept k)
theorem CopyOf.mono {n₀ n₁ : Nat} {W : World} {u : Value} {r : List ByteArray} (h : CopyOf n₀ W u r) (k : n₁ ≤ n₀) : CopyOf n₁ W u r := by
  rcases h with h | h
  · exact .inl h
  · exact .inr (h.mono k)
theorem CopyOf.of_owns {n₀ : Nat} {W : World} {u : Value} {r : List ByteArray} (h : W.ownsRow n₀ 9 1 u r.length (r.map Value.string)) : CopyOf n₀ W u r := by
  obtain ⟨hl, ⟨rfl, h1⟩ | ⟨g, cap, cur, rfl, hg, hh, hc1, hm, hsz, htk⟩⟩ := h
  · exact .inl ⟨rfl, List.eq_nil_of_length_eq_zero h1⟩
  · refine .inr ⟨g, cap, cur, rfl, hg, hh, hc1, hm, by omega, ?_⟩
    rw [Nat.mul_one] at htk
    exact htk
theorem CopyOf.arg {n₀ : Nat} {W : World} {u : Value} {r : List ByteArray} (h : CopyOf n₀ W u r) : ArgB.ArgOf Value.string W u r ∧ Kind u := by
  rcases h with ⟨rfl, rfl⟩ | h
  · exact ⟨ArgB.arg_nil, .inl rfl⟩
  · obtain ⟨g, cap, cur, rfl, hg, hh, hc, hm, hz, ht⟩ := h
    refine ⟨⟨_, cap, rfl, hc, by omega, fun _ => ⟨g, 0, rfl, (Array.getElem?_eq_some_iff.1 hh).1, fun j x hj => ?_⟩⟩, .inr ⟨_, _, _, rfl⟩⟩
    have h1 : (cur.toList.take r.length)[j]? = some (.string x) := by rw [ht]; simp [hj]
    have hjl : j < r.length := (List.getElem?_eq_some_iff.1 hj).1
    rw [List.getElem?_take, if_pos hjl] at h1
    simp only [World.cell?, hh, Nat.zero_add]
    simpa using h1
theorem own_form {W : World} {n m : Nat} {e : TypeId} {v : Value} {xs : List Value} (h : W.ownsRow n e 1 v m xs) : ∃ al cl, v = .slice al m cl := by
  obtain ⟨_, ⟨rfl, h0⟩ | ⟨g, cap, cur, rfl, _⟩⟩ := h
  · subst h0; exact ⟨none, 0, rfl⟩
  · exact ⟨_, cap, rfl⟩
theorem nil_owns (W : World) (n : Nat) (e : TypeId) : W.ownsRow n e 1 (.slice none 0 0) 0 [] := ⟨rfl, .inl ⟨rfl, rfl⟩⟩
theorem below_none {W w' : World} (hg : W.grownBy w' none) : Below W.heap.size W w' := (Below.refl _ W).grown hg (Nat.le_refl _) (fun k e => by cases e)
theorem cells_of {W : World} {ad : Addr} {m c : Nat} {r : List ByteArray} (h : ArgB.ArgOf Value.string W (.slice (some ad) m c) r) : m = r.length ∧ ∀ j u, (r.map Value.string)[j]? = some u → W.cell? (ad.add j) = some u := by
  obtain ⟨ao, cap, e, h1, h2, h3⟩ := h
  injection e with e1 e2 e3
  refine ⟨e2, fun j u hu => ?_⟩
  simp only [List.getElem?_map, Option.map_eq_some_iff] at hu
  obtain ⟨x, hx, rfl⟩ := hu
  have hj : j < r.length := (List.getElem?_eq_some_iff.1 hx).1
  obtain ⟨g, off, e4, _, hc⟩ := h3 (by omega)
  rw [e4] at e1
  cases e1
  rw [Go.WideShapes.add_plain]
  exact hc j x hx
theorem ones (r : List ByteArray) : ∀ u ∈ r.map Value.string, u.oneCell' = true := by
  intro u hu
  obtain ⟨x, _, rfl⟩ := List.mem_map.1 hu
  rfl
/-- so far copied -/
def Sofar (n₀ : Nat) (W : World) (V : List Value) (R : List (List ByteArray)) : Prop := ∀ (i : Nat) u r, V[i]? = some u → R[i]? = some r → CopyOf n₀ W u r
theorem Sofar.nil (n₀ : Nat) (W : World) (R : List (List ByteArray)) : Sofar n₀ W [] R := fun i u r h => by simp at h
theorem Sofar.snoc {n₀ : Nat} {W W' : World} {V : List Value} {R : List (List ByteArray)} {u : Value} {r : List ByteArray} (h : Sofar n₀ W V R) (k : RowB.Keep9 W W') (hr : R[V.length]? = some r) (hu : CopyOf n₀ W' u r) : Sofar n₀ W' (V ++ [u]) R := by
  intro i x q hx hq
  by_cases hi : i < V.length
  · rw [List.getElem?_append_left hi] at hx
    exact (h i x q hx hq).kept k
  · rw [List.getElem?_append_right (by omega)] at hx
    have : i = V.length := by
      have := (List.getElem?_eq_some_iff.1 hx).1
      simp at this
      omega
    subst this
    simp at hx
    subst hx
    rw [hr] at hq
    cases hq
    exact hu
theorem Sofar.rows {n₀ B : Nat} {W : World} {v : Value} {V : List Value} {R : List (List ByteArray)} (h : Sofar n₀ W V R) (hl : V.length = R.length) (ho : W.ownsRow B 47 1 v V.length V) : IsRows W v R := by
  have hc := ho
  obtain ⟨_, ⟨rfl, h0⟩ | ⟨g, cap, cur, rfl, hg, hh, hc1, hm, hsz, htk⟩⟩ := ho
  · have : V = [] := List.eq_nil_of_length_eq_zero h0
    subst this
    refine ⟨[], ArgB.arg_nil, hl, fun i u r hu => ?_, fun u hu => ?_⟩
    · simp at hu
    · cases hu
  · refine ⟨V, ⟨_, cap, rfl, hc1, by omega, fun _ => ⟨g, 0, rfl, (Array.getElem?_eq_some_iff.1 hh).1, fun j x hx => ?_⟩⟩, hl, fun i u r hu hr => (h i u r hu hr).arg.1, fun u hu => ?_⟩
    · have := hc.cells (g := g) rfl j x hx
      rwa [Go.WideShapes.add_plain] at this
    · obtain ⟨i, hi, e⟩ := List.getElem_of_mem hu
      exact (h i u R[i] (by rw [List.getElem?_eq_getElem hi, e]) (List.getElem?_eq_getElem (by omega))).arg.2

set_option maxRecDepth 100000 in
set_option maxHeartbeats 4000000 in
theorem copied_any (R : List (List ByteArray)) (v : Value) (w : World) (hR : IsRows w v R) (hl : R.length ≤ 1048576) (hr : ∀ r ∈ R, r.length ≤ 1048576) :
    Calls Tryd.prog 20 #[v] w fun e w' => ∃ u, e = .returned u ∧ IsRows w' u R ∧ Below w.heap.size w w' := by
  obtain ⟨i9, hi9, hz90, hz91, hz92⟩ := info_parts info9
  obtain ⟨iS, hiS, hzS0, hzS1, hzS2⟩ := info_parts infoS
  obtain ⟨ao, cap, rfl, _, _, hcell⟩ := hR.form2
  have HC := hide hcell
  have HR := hide hr
  clear hcell hR hr
  generalize hn : R.length = n at *
  have HN := hide hn
  clear hn
  go_enter Tryd.func20, Tryd.ntmps20
  go_wp2
  go_loopw [3, 8] (fun s i wr => ∃ (k : Nat) (V : List Value), k ≤ n ∧ V.length = k ∧ i = .int .i64 k ∧ wr.ownsRow w.heap.size 47 1 s k V ∧ Below w.heap.size w wr ∧ Hid (Sofar w.heap.size wr V R)) (fun _ i _ => n - (intOf i).toNat)
  case atStart => exact ⟨0, [], Nat.zero_le _, rfl, rfl, nil_owns _ _ _, Below.refl _ _, hide (Sofar.nil _ _ _)⟩
  case round =>
    obtain ⟨k, V, hk, hV, rfl, hown, hB, HS⟩ := hrel
    have HV := hide hV
    clear hV
    by_cases hlt : k < n
    · obtain ⟨r, hr⟩ : ∃ r, R[k]? = some r := ⟨_, List.getElem?_eq_getElem (by rw [unhide HN]; exact hlt)⟩
      obtain ⟨g, off, u, rfl, hg, hcu, hru, hku⟩ := unhide HC k r hr
      have hrl := unhide HR r (List.mem_of_getElem? hr)
      have HRK : Hid (R[V.length]? = some r) := by rw [Hid, unhide HV]; exact hr
      have hcw := (hB.cell (p := ⟨g, off + k, none⟩) hg).trans hcu
      have hrw := hru.below hB
      have hlk : (k : Int) < (n : Int) := by omega
      clear hr hcu hru
      obtain ⟨s1, c1, rfl⟩ := own_form hown
      rcases hku with rfl | ⟨ad, m, c, rfl⟩
      · have hr0 : r = [] := by
          obtain ⟨_, _, e, _⟩ := hrw
          injection e with _ e2 _
          exact List.eq_nil_of_length_eq_zero e2.symm
        subst hr0
        clear hrw hrl
        go_wp2_with (at_builtin; first
          | (refine wpList_append_own_none _ rfl _ _ 47 rfl wr.heap.size 9 i9 1 Tryd.underlying47 hi9 _ _ _ rfl (nil_owns _ _ _) rfl ?_)
          | (refine wpList_append_own _ rfl _ _ 39 rfl w.heap.size 47 iS (.slice none 0 0) 1 24 Tryd.underlying39 hiS hzS0 hzS1 hzS2 rfl (by decide) _ _ _ rfl (hown.alloc _) ⟨wr.heap.size, 0, none⟩ 1 1 [.slice none 0 0] rfl rfl (cell_one_new _ _ _) (fun x hx => by simp at hx; subst hx; rfl) (by unfold maxLen; omega) (by omega) (by have := hB.size; simp; omega) ?_; intro v' w2 hown' hgrow _))
        have HB2 := hide (below_push hown hB hgrow)
        have HK : Hid (RowB.Keep9 wr w2) := (RowB.Keep9.alloc wr _).trans (RowB.Keep9.grown_own (hown.alloc _) (by decide) hgrow)
        have HO2 := hide hown'
        clear hown hB hgrow hown'
        go_wp2
        go_roundw
        case rel => exact ⟨k + 1, V ++ [.slice none 0 0], by omega, by rw [List.length_append, unhide HV]; rfl, by go_num, unhide HO2, unhide HB2, hide ((unhide HS).snoc (unhide HK) (unhide HRK) (.inl ⟨rfl, rfl⟩))⟩
        case measure => simp [intOf]; omega
      · obtain ⟨hmr, hnews⟩ := cells_of hrw
        have HM := hide hmr
        have hml : m ≤ 1048576 := by omega
        have HNW := hide hnews
        have HLN : Hid ((r.map Value.string).length = m * 1) := by rw [Hid, List.length_map, hmr, Nat.mul_one]
        have HON := hide (ones r)
        have HCO : Hid (∀ W u, W.ownsRow wr.heap.size 9 1 u m (r.map Value.string) → CopyOf w.heap.size W u r) := by
          intro W u h
          rw [hmr] at h
          exact (CopyOf.of_owns h).mono hB.size
        clear hmr hnews hrw hrl
        generalize r.map Value.string = news at *
        go_wp2_with (at_builtin; first
          | (refine wpList_append_own _ rfl _ _ 47 rfl wr.heap.size 9 i9 (.string ByteArray.empty) 1 16 Tryd.underlying47 hi9 hz90 hz91 hz92 rfl (by decide) _ _ _ rfl (nil_owns _ _ _) ad m c news rfl (unhide HLN) (unhide HNW) (unhide HON) (by unfold maxLen; omega) (by omega) (Nat.le_refl _) ?_; intro v1 w1 hown1 hgrow1 hnil1; clear hnil1
             rw [Nat.zero_add, List.nil_append] at hown1
             obtain ⟨a1, cp1, rfl⟩ := own_form hown1
             have hB1 := below_none hgrow1
             have hownA := Same.owns_below hown hB1
             have HCP := hide (unhide HCO _ _ hown1)
             have HK1 := hide (RowB.Keep9.below hB1)
             have hBA := hB.trans (hB1.mono hB.size)
             clear hown1 hgrow1 HCO)
          | go_loud (refine wpList_append_own _ rfl _ _ 39 rfl w.heap.size 47 iS (.slice none 0 0) 1 24 Tryd.underlying39 hiS hzS0 hzS1 hzS2 rfl (by decide) _ _ _ rfl (hownA.alloc _) ⟨w1.heap.size, 0, none⟩ 1 1 [.slice a1 m cp1] rfl rfl (cell_one_new _ _ _) (fun x hx => by simp at hx; subst hx; rfl) (by unfold maxLen; omega) (by omega) (by have := hBA.size; simp; omega) ?_; intro v' w2 hown' hgrow hnil2; clear hnil2))
        have HB2 := hide (below_push hownA hBA hgrow)
        have HK2 : Hid (RowB.Keep9 w1 w2) := (RowB.Keep9.alloc w1 _).trans (RowB.Keep9.grown_own (hownA.alloc _) (by decide) hgrow)
        have HO2 := hide hown'
        clear hown hB hgrow hown' hB1 hBA hownA
        go_wp2
        go_roundw
        case rel => exact ⟨k + 1, V ++ [.slice a1 m cp1], by omega, by rw [List.length_append, unhide HV]; rfl, by go_num, unhide HO2, unhide HB2, hide ((unhide HS).snoc ((unhide HK1).trans (unhide HK2)) (unhide HRK) ((unhide HCP).kept (unhide HK2)))⟩
        case measure => simp [intOf]; omega
    · have hkn : k = n := by omega
      have HRW : Hid (IsRows wr _ R) := (unhide HS).rows (by rw [unhide HV, hkn, unhide HN]) (by rw [unhide HV]; exact hown)
      have HBB := hide hB
      clear hkn hown hB
      go_wp2
      go_ret
      exact ⟨_, rfl, unhide HRW, unhide HBB⟩
end CpW
end Go.Proofs.YtaaonaaciomijabDoor
