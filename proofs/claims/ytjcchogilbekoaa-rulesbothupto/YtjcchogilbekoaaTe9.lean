/- Layer 15: RulesBoth: a chain is its parts, one after the other, there and back. -/
import Derived.Test.YtjcchogilbekoaaTe8
namespace Go.Proofs.Ytjcchogilbekoaa
open Go.RowKit Go.Shelf
namespace Rv

theorem chain_grow {L : List RuB} {s m : List UInt8} (h : Ta.chain s (L.map RuB.r) = some m) : m.length ≤ s.length + tw L := by
  rw [← fold_app] at h
  exact fold_grow @app_grow L s m h
theorem peel_grow {L : List RuB} {s m : List UInt8} (h : Ta.peel s (L.map RuB.r) = some m) : m.length ≤ s.length + tw L := by
  unfold Ta.peel at h
  rw [← List.map_reverse, ← fold_und] at h
  have := fold_grow @und_grow L.reverse s m h
  rw [tw_reverse] at this
  exact this

set_option maxRecDepth 100000 in
set_option maxHeartbeats 8000000 in
theorem both_law {v1 v2 : Value} {A B : List RuB} (s : ByteArray) (w : World) (h1 : RulesAt w v1 A w.heap.size) (h2 : RulesAt w v2 B w.heap.size) (hz : A.length + B.length ≤ 1048576) (hs : s.size + tw A + tw B ≤ 1048576) :
    Calls Try.prog 8 #[.string s, v1, v2] w fun e w' => e = .returned (.bool true) ∧ Below w.heap.size w w' := by
  have HROW : Hid (∀ w1, Below w.heap.size w w1 → ∃ u2 W2 W3 uA, (Builtin.append_ #[36, 36] 36 #[.slice none 0 0, v1]).run Try.prog w1 = .ok u2 W2 ∧ (Builtin.append_ #[36, 36] 36 #[u2, v2]).run Try.prog W2 = .ok uA W3 ∧ RulesAt W3 uA (A ++ B) W3.heap.size ∧ Below w.heap.size w W3) := hide (fun w1 hb => by
    obtain ⟨u2, W2, r1, o1, b1⟩ := rules_append (W := w1) (n := w1.heap.size) (A := []) (World.ownsRow_nil _ _ _ _) ((h1.below hb).mono hb.size) (by simp; omega) (Nat.le_refl _)
    rw [List.nil_append] at o1
    have hb2 : Below w.heap.size w W2 := hb.trans (b1.mono hb.size)
    obtain ⟨uA, W3, r2, o2, b2⟩ := rules_append (W := W2) (n := w1.heap.size) o1 ((h2.below hb2).mono hb2.size) hz b1.size
    exact ⟨u2, W2, W3, uA, r1, r2, rat_of o2, hb2.trans (b2.mono hb.size)⟩)
  have es : s.data.toList.length = s.size := by simp
  have ht : tw (A ++ B) = tw A + tw B := tw_append A B
  have hl : (A ++ B).length = A.length + B.length := List.length_append
  have CA : ∀ (x : ByteArray) (M : Option (List UInt8)), x.size + tw (A ++ B) ≤ 4611686018427387903 → Ta.chain x.data.toList ((A ++ B).map RuB.r) = M → Hid (∀ W3 uA, RulesAt W3 uA (A ++ B) W3.heap.size → Below w.heap.size w W3 → ∀ W, Below W3.heap.size W3 W → Calls Try.prog 16 #[.string x, uA] W fun e w' => e = .returned (Pt.ansV M) ∧ Below W.heap.size W w') := fun x M hx hM => hide (fun W3 uA hA _ W hb => by
    rw [← hM]; exact chain_any x W ((hA.below hb).mono hb.size) (by omega) hx)
  have PA : ∀ (x : ByteArray) (M : Option (List UInt8)), x.size + tw (A ++ B) ≤ 4611686018427387903 → Ta.peel x.data.toList ((A ++ B).map RuB.r) = M → Hid (∀ W3 uA, RulesAt W3 uA (A ++ B) W3.heap.size → Below w.heap.size w W3 → ∀ W, Below W3.heap.size W3 W → Calls Try.prog 19 #[.string x, uA] W fun e w' => e = .returned (Pt.ansV M) ∧ Below W.heap.size W w') := fun x M hx hM => hide (fun W3 uA hA _ W hb => by
    rw [← hM]; exact peel_any x W ((hA.below hb).mono hb.size) (by omega) hx)
  have C1 : ∀ (x : ByteArray) (M : Option (List UInt8)), x.size + tw A ≤ 4611686018427387903 → Ta.chain x.data.toList (A.map RuB.r) = M → Hid (∀ (W3 : World) (uA : Value), RulesAt W3 uA (A ++ B) W3.heap.size → Below w.heap.size w W3 → ∀ W, Below W3.heap.size W3 W → Calls Try.prog 16 #[.string x, v1] W fun e w' => e = .returned (Pt.ansV M) ∧ Below W.heap.size W w') := fun x M hx hM => hide (fun W3 uA _ hw W hb => by
    have hb := hw.trans (hb.mono hw.size)
    rw [← hM]; exact chain_any x W ((h1.below hb).mono hb.size) (by omega) hx)
  have C2 : ∀ (x : ByteArray) (M : Option (List UInt8)), x.size + tw B ≤ 4611686018427387903 → Ta.chain x.data.toList (B.map RuB.r) = M → Hid (∀ (W3 : World) (uA : Value), RulesAt W3 uA (A ++ B) W3.heap.size → Below w.heap.size w W3 → ∀ W, Below W3.heap.size W3 W → Calls Try.prog 16 #[.string x, v2] W fun e w' => e = .returned (Pt.ansV M) ∧ Below W.heap.size W w') := fun x M hx hM => hide (fun W3 uA _ hw W hb => by
    have hb := hw.trans (hb.mono hw.size)
    rw [← hM]; exact chain_any x W ((h2.below hb).mono hb.size) (by omega) hx)
  have P2 : ∀ (x : ByteArray) (M : Option (List UInt8)), x.size + tw B ≤ 4611686018427387903 → Ta.peel x.data.toList (B.map RuB.r) = M → Hid (∀ (W3 : World) (uA : Value), RulesAt W3 uA (A ++ B) W3.heap.size → Below w.heap.size w W3 → ∀ W, Below W3.heap.size W3 W → Calls Try.prog 19 #[.string x, v2] W fun e w' => e = .returned (Pt.ansV M) ∧ Below W.heap.size W w') := fun x M hx hM => hide (fun W3 uA _ hw W hb => by
    have hb := hw.trans (hb.mono hw.size)
    rw [← hM]; exact peel_any x W ((h2.below hb).mono hb.size) (by omega) hx)
  obtain ⟨a1, c1, rfl, _⟩ := h1
  obtain ⟨a2, c2, rfl, _⟩ := h2
  have hch := Ta.chain_append s.data.toList (A.map RuB.r) (B.map RuB.r)
  rw [← List.map_append] at hch
  cases ha : Ta.chain s.data.toList (A.map RuB.r) with
  | none =>
    rw [ha] at hch
    have HC0 := CA s none (by omega) hch
    have HD0 := C1 s none (by omega) ha
    cases hp : Ta.peel s.data.toList ((A ++ B).map RuB.r) with
    | none =>
      have HP0 := PA s none (by omega) hp
      simp only [Pt.ansV] at HP0 HC0 HD0
      clear CA PA C1 C2 P2 hch hp hs es ht hl hz ha
      go_enter Try.func8, Try.ntmps8
      go_wp2_with fail
      refine (Pt.wakes15_any _).mono ?_
      rintro e w1 ⟨rfl, hb1⟩
      obtain ⟨u2, W2, W3, uA, hrun1, hrun2, hA, hB3⟩ := unhide HROW w1 hb1
      have HRUN1 := hide hrun1
      have HRUN2 := hide hrun2
      have HC := hide (unhide HC0 W3 uA hA hB3)
      have HD := hide (unhide HD0 W3 uA hA hB3)
      have HP := hide (unhide HP0 W3 uA hA hB3)
      have HW3 := hide hB3
      have B3 := hide (Below.refl W3.heap.size W3)
      clear hrun1 hrun2 hb1 hB3
      go_wp2_with (at_builtin; first | refine wpList_append_run rfl _ _ 36 36 rfl _ _ rfl rfl u2 W2 (unhide HRUN1) ?_ | refine wpList_append_run rfl _ _ 36 36 rfl _ _ rfl rfl uA W3 (unhide HRUN2) ?_)
      go_wp2_with fail
      refine (unhide HC _ (unhide B3)).mono ?_
      rintro e w4 ⟨rfl, hb4⟩
      have B4 := hide ((unhide B3).trans (hb4.mono (unhide B3).size))
      clear hb4 B3
      go_wp2_with fail
      refine (unhide HD _ (unhide B4)).mono ?_
      rintro e w5 ⟨rfl, hb5⟩
      have B5 := hide ((unhide B4).trans (hb5.mono (unhide B4).size))
      clear hb5 B4
      go_wp2_with fail
      refine (unhide HP _ (unhide B5)).mono ?_
      rintro e w6 ⟨rfl, hb6⟩
      have B6 := hide ((unhide B5).trans (hb6.mono (unhide B5).size))
      clear hb6 B5
      go_wp2
      go_ret
      exact ⟨by simp, (unhide HW3).trans ((unhide B6).mono (unhide HW3).size)⟩
    | some p =>
      have hp2 := Ta.peel_some.1 hp
      have hg := peel_grow hp
      have HP0 := PA s (some p) (by omega) hp
      have HR0 := CA (Pt.str p) (some s.data.toList) (by rw [Pt.str_size]; omega) (by rw [Pt.str_list]; exact hp2)
      simp only [Pt.ansV, Pt.rstr_self] at HP0 HR0 HC0 HD0
      clear CA PA C1 C2 P2 hch hp hp2 hg hs es ht hl hz ha
      go_enter Try.func8, Try.ntmps8
      go_wp2_with fail
      refine (Pt.wakes15_any _).mono ?_
      rintro e w1 ⟨rfl, hb1⟩
      obtain ⟨u2, W2, W3, uA, hrun1, hrun2, hA, hB3⟩ := unhide HROW w1 hb1
      have HRUN1 := hide hrun1
      have HRUN2 := hide hrun2
      have HC := hide (unhide HC0 W3 uA hA hB3)
      have HD := hide (unhide HD0 W3 uA hA hB3)
      have HP := hide (unhide HP0 W3 uA hA hB3)
      have HR := hide (unhide HR0 W3 uA hA hB3)
      have HW3 := hide hB3
      have B3 := hide (Below.refl W3.heap.size W3)
      clear hrun1 hrun2 hb1 hB3
      go_wp2_with (at_builtin; first | refine wpList_append_run rfl _ _ 36 36 rfl _ _ rfl rfl u2 W2 (unhide HRUN1) ?_ | refine wpList_append_run rfl _ _ 36 36 rfl _ _ rfl rfl uA W3 (unhide HRUN2) ?_)
      go_wp2_with fail
      refine (unhide HC _ (unhide B3)).mono ?_
      rintro e w4 ⟨rfl, hb4⟩
      have B4 := hide ((unhide B3).trans (hb4.mono (unhide B3).size))
      clear hb4 B3
      go_wp2_with fail
      refine (unhide HD _ (unhide B4)).mono ?_
      rintro e w5 ⟨rfl, hb5⟩
      have B5 := hide ((unhide B4).trans (hb5.mono (unhide B4).size))
      clear hb5 B4
      go_wp2_with fail
      refine (unhide HP _ (unhide B5)).mono ?_
      rintro e w6 ⟨rfl, hb6⟩
      have B6 := hide ((unhide B5).trans (hb6.mono (unhide B5).size))
      clear hb6 B5
      go_wp2_with fail
      refine (unhide HR _ (unhide B6)).mono ?_
      rintro e w7 ⟨rfl, hb7⟩
      have B7 := hide ((unhide B6).trans (hb7.mono (unhide B6).size))
      clear hb7 B6
      go_wp2
      go_ret
      exact ⟨by simp, (unhide HW3).trans ((unhide B7).mono (unhide HW3).size)⟩
  | some v =>
    rw [ha] at hch
    have hch : Ta.chain s.data.toList ((A ++ B).map RuB.r) = Ta.chain v (B.map RuB.r) := hch
    have hgv := chain_grow ha
    have HD0 := C1 s (some v) (by omega) ha
    cases hb : Ta.chain v (B.map RuB.r) with
    | none =>
      rw [hb] at hch
      have HC0 := CA s none (by omega) hch
      have HE0 := C2 (Pt.str v) none (by rw [Pt.str_size]; omega) (by rw [Pt.str_list]; exact hb)
      cases hp : Ta.peel s.data.toList ((A ++ B).map RuB.r) with
      | none =>
        have HP0 := PA s none (by omega) hp
        simp only [Pt.ansV] at HP0 HC0 HD0 HE0
        clear CA PA C1 C2 P2 hch hp hs es ht hl hz ha hb hgv
        go_enter Try.func8, Try.ntmps8
        go_wp2_with fail
        refine (Pt.wakes15_any _).mono ?_
        rintro e w1 ⟨rfl, hb1⟩
        obtain ⟨u2, W2, W3, uA, hrun1, hrun2, hA, hB3⟩ := unhide HROW w1 hb1
        have HRUN1 := hide hrun1
        have HRUN2 := hide hrun2
        have HC := hide (unhide HC0 W3 uA hA hB3)
        have HD := hide (unhide HD0 W3 uA hA hB3)
        have HE := hide (unhide HE0 W3 uA hA hB3)
        have HP := hide (unhide HP0 W3 uA hA hB3)
        have HW3 := hide hB3
        have B3 := hide (Below.refl W3.heap.size W3)
        clear hrun1 hrun2 hb1 hB3
        go_wp2_with (at_builtin; first | refine wpList_append_run rfl _ _ 36 36 rfl _ _ rfl rfl u2 W2 (unhide HRUN1) ?_ | refine wpList_append_run rfl _ _ 36 36 rfl _ _ rfl rfl uA W3 (unhide HRUN2) ?_)
        go_wp2_with fail
        refine (unhide HC _ (unhide B3)).mono ?_
        rintro e w4 ⟨rfl, hb4⟩
        have B4 := hide ((unhide B3).trans (hb4.mono (unhide B3).size))
        clear hb4 B3
        go_wp2_with fail
        refine (unhide HD _ (unhide B4)).mono ?_
        rintro e w5 ⟨rfl, hb5⟩
        have B5 := hide ((unhide B4).trans (hb5.mono (unhide B4).size))
        clear hb5 B4
        go_wp2_with fail
        refine (unhide HE _ (unhide B5)).mono ?_
        rintro e w6 ⟨rfl, hb6⟩
        have B6 := hide ((unhide B5).trans (hb6.mono (unhide B5).size))
        clear hb6 B5
        go_wp2_with fail
        refine (unhide HP _ (unhide B6)).mono ?_
        rintro e w7 ⟨rfl, hb7⟩
        have B7 := hide ((unhide B6).trans (hb7.mono (unhide B6).size))
        clear hb7 B6
        go_wp2
        go_ret
        exact ⟨by simp, (unhide HW3).trans ((unhide B7).mono (unhide HW3).size)⟩
      | some p =>
        have hp2 := Ta.peel_some.1 hp
        have hg := peel_grow hp
        have HP0 := PA s (some p) (by omega) hp
        have HR0 := CA (Pt.str p) (some s.data.toList) (by rw [Pt.str_size]; omega) (by rw [Pt.str_list]; exact hp2)
        simp only [Pt.ansV, Pt.rstr_self] at HP0 HR0 HC0 HD0 HE0
        clear CA PA C1 C2 P2 hch hp hp2 hg hs es ht hl hz ha hb hgv
        go_enter Try.func8, Try.ntmps8
        go_wp2_with fail
        refine (Pt.wakes15_any _).mono ?_
        rintro e w1 ⟨rfl, hb1⟩
        obtain ⟨u2, W2, W3, uA, hrun1, hrun2, hA, hB3⟩ := unhide HROW w1 hb1
        have HRUN1 := hide hrun1
        have HRUN2 := hide hrun2
        have HC := hide (unhide HC0 W3 uA hA hB3)
        have HD := hide (unhide HD0 W3 uA hA hB3)
        have HE := hide (unhide HE0 W3 uA hA hB3)
        have HP := hide (unhide HP0 W3 uA hA hB3)
        have HR := hide (unhide HR0 W3 uA hA hB3)
        have HW3 := hide hB3
        have B3 := hide (Below.refl W3.heap.size W3)
        clear hrun1 hrun2 hb1 hB3
        go_wp2_with (at_builtin; first | refine wpList_append_run rfl _ _ 36 36 rfl _ _ rfl rfl u2 W2 (unhide HRUN1) ?_ | refine wpList_append_run rfl _ _ 36 36 rfl _ _ rfl rfl uA W3 (unhide HRUN2) ?_)
        go_wp2_with fail
        refine (unhide HC _ (unhide B3)).mono ?_
        rintro e w4 ⟨rfl, hb4⟩
        have B4 := hide ((unhide B3).trans (hb4.mono (unhide B3).size))
        clear hb4 B3
        go_wp2_with fail
        refine (unhide HD _ (unhide B4)).mono ?_
        rintro e w5 ⟨rfl, hb5⟩
        have B5 := hide ((unhide B4).trans (hb5.mono (unhide B4).size))
        clear hb5 B4
        go_wp2_with fail
        refine (unhide HE _ (unhide B5)).mono ?_
        rintro e w6 ⟨rfl, hb6⟩
        have B6 := hide ((unhide B5).trans (hb6.mono (unhide B5).size))
        clear hb6 B5
        go_wp2_with fail
        refine (unhide HP _ (unhide B6)).mono ?_
        rintro e w7 ⟨rfl, hb7⟩
        have B7 := hide ((unhide B6).trans (hb7.mono (unhide B6).size))
        clear hb7 B6
        go_wp2_with fail
        refine (unhide HR _ (unhide B7)).mono ?_
        rintro e w8 ⟨rfl, hb8⟩
        have B8 := hide ((unhide B7).trans (hb8.mono (unhide B7).size))
        clear hb8 B7
        go_wp2
        go_ret
        exact ⟨by simp, (unhide HW3).trans ((unhide B8).mono (unhide HW3).size)⟩
    | some y =>
      rw [hb] at hch
      have hgy := chain_grow hb
      have HC0 := CA s (some y) (by omega) hch
      have HE0 := C2 (Pt.str v) (some y) (by rw [Pt.str_size]; omega) (by rw [Pt.str_list]; exact hb)
      have HP0 := PA (Pt.str y) (some s.data.toList) (by rw [Pt.str_size]; omega) (by rw [Pt.str_list]; exact Ta.peel_some.2 hch)
      have HR0 := P2 (Pt.str y) (some v) (by rw [Pt.str_size]; omega) (by rw [Pt.str_list]; exact Ta.peel_some.2 hb)
      simp only [Pt.ansV, Pt.rstr_self] at HC0 HD0 HE0 HP0 HR0
      clear CA PA C1 C2 P2 hch hs es ht hl hz ha hb hgv hgy
      go_enter Try.func8, Try.ntmps8
      go_wp2_with fail
      refine (Pt.wakes15_any _).mono ?_
      rintro e w1 ⟨rfl, hb1⟩
      obtain ⟨u2, W2, W3, uA, hrun1, hrun2, hA, hB3⟩ := unhide HROW w1 hb1
      have HRUN1 := hide hrun1
      have HRUN2 := hide hrun2
      have HC := hide (unhide HC0 W3 uA hA hB3)
      have HD := hide (unhide HD0 W3 uA hA hB3)
      have HE := hide (unhide HE0 W3 uA hA hB3)
      have HP := hide (unhide HP0 W3 uA hA hB3)
      have HR := hide (unhide HR0 W3 uA hA hB3)
      have HW3 := hide hB3
      have B3 := hide (Below.refl W3.heap.size W3)
      clear hrun1 hrun2 hb1 hB3
      go_wp2_with (at_builtin; first | refine wpList_append_run rfl _ _ 36 36 rfl _ _ rfl rfl u2 W2 (unhide HRUN1) ?_ | refine wpList_append_run rfl _ _ 36 36 rfl _ _ rfl rfl uA W3 (unhide HRUN2) ?_)
      go_wp2_with fail
      refine (unhide HC _ (unhide B3)).mono ?_
      rintro e w4 ⟨rfl, hb4⟩
      have B4 := hide ((unhide B3).trans (hb4.mono (unhide B3).size))
      clear hb4 B3
      go_wp2_with fail
      refine (unhide HD _ (unhide B4)).mono ?_
      rintro e w5 ⟨rfl, hb5⟩
      have B5 := hide ((unhide B4).trans (hb5.mono (unhide B4).size))
      clear hb5 B4
      go_wp2_with fail
      refine (unhide HE _ (unhide B5)).mono ?_
      rintro e w6 ⟨rfl, hb6⟩
      have B6 := hide ((unhide B5).trans (hb6.mono (unhide B5).size))
      clear hb6 B5
      go_wp2_with fail
      refine (unhide HP _ (unhide B6)).mono ?_
      rintro e w7 ⟨rfl, hb7⟩
      have B7 := hide ((unhide B6).trans (hb7.mono (unhide B6).size))
      clear hb7 B6
      go_wp2_with fail
      refine (unhide HR _ (unhide B7)).mono ?_
      rintro e w8 ⟨rfl, hb8⟩
      have B8 := hide ((unhide B7).trans (hb8.mono (unhide B7).size))
      clear hb8 B7
      go_wp2
      go_ret
      exact ⟨by simp, (unhide HW3).trans ((unhide B8).mono (unhide HW3).size)⟩
end Rv
end Go.Proofs.Ytjcchogilbekoaa
