/- Layer 15: the document's Peel. -/
import Derived.Test.YtjcchogilbekoaaTe6
namespace Go.Proofs.Ytjcchogilbekoaa
open Go.RowKit Go.Shelf
namespace Rv

set_option maxRecDepth 100000 in
set_option maxHeartbeats 2000000 in
theorem dpeel_any {v : Value} {L : List RuB} (s : ByteArray) (w : World) (h : DAt w v L) (hz : L.length ≤ 1048576) (hs : s.size + tw L ≤ 4611686018427387903) :
    Calls Try.prog 20 #[.string s, v] w fun e w' => e = .returned (Pt.ansV (Ta.peel s.data.toList (L.map RuB.r))) ∧ Below w.heap.size w w' := by
  obtain ⟨ao, c, rfl, hat⟩ := h
  have HAT := hide hat
  obtain ⟨R, hR⟩ : ∃ R, R = Ta.peel s.data.toList (L.map RuB.r) := ⟨_, rfl⟩
  rw [← hR]
  have H0 := hide hR
  have hs0 := hide hs
  clear hat hR hs
  generalize hn : L.length = n at *
  have HN := hide hn
  clear hn
  go_enter Try.func20, Try.ntmps20
  go_wp2
  go_loopw [0, 6] (fun s0 s6 wr => ∃ (p : Nat) (m : ByteArray), s0 = .string m ∧ s6 = .int .i64 ((p : Int) - 1) ∧ p ≤ n ∧ Hid (R = Ta.peel m.data.toList ((L.take p).map RuB.r)) ∧ Hid (m.size + tw (L.take p) ≤ 4611686018427387903) ∧ Hid (Below w.heap.size w wr)) (fun _ s6 _ => (intOf s6 + 1).toNat)
  case atStart => exact ⟨n, s, rfl, by go_num, Nat.le_refl _, hide (by rw [List.take_of_length_le (by rw [unhide HN]; exact Nat.le_refl _)]; exact unhide H0), hide (by rw [List.take_of_length_le (by rw [unhide HN]; exact Nat.le_refl _)]; exact unhide hs0), Below.refl _ _⟩
  case round =>
    obtain ⟨p, m, rfl, rfl, hp, HR, HS, HB⟩ := hrel
    cases p with
    | succ k =>
      have e1 : ((k + 1 : Nat) : Int) - 1 = (k : Int) := by omega
      rw [e1]
      have hltz : (k : Int) < (n : Int) := by omega
      obtain ⟨x, hx⟩ : ∃ x, L[k]? = some x := ⟨_, List.getElem?_eq_getElem (by rw [unhide HN]; omega)⟩
      obtain ⟨g, rfl, hg, hcc⟩ := unhide HAT (by omega)
      obtain ⟨q0, q1, q2, q3, q4, q5, q6, q7⟩ := d_cells (w := wr) (g := g) (o := k * 8) (x := x) (fun i u hu => ((unhide HB).cell (p := ⟨g, k * 8 + i, none⟩) hg).trans (hcc k x hx i u hu))
      have hsz := unhide HS
      rw [tw_take hx] at hsz
      have HA := hide (Pt.dund_any x.k x.st x.ad x.cd m wr (by omega))
      have hr := unhide HR
      rw [peel_step hx, show Ta.und x.r m.data.toList = Ta.und (Pt.ruR x.k x.st x.ad x.cd) m.data.toList from rfl] at hr
      have hgr : ∀ y, Ta.und (Pt.ruR x.k x.st x.ad x.cd) m.data.toList = some y → y.length + tw (L.take k) ≤ 4611686018427387903 := fun y hy => by
        have := und_grow x hy
        have e : m.data.toList.length = m.size := by simp
        omega
      have HG := hide hgr
      have HR2 := hide hr
      clear hcc hx hsz hr hgr HR HS hg e1
      cases hx : Ta.und (Pt.ruR x.k x.st x.ad x.cd) m.data.toList with
      | none =>
        have hr := unhide HR2
        rw [hx] at HA hr
        simp only [Pt.ansV] at HA
        have hr : R = none := hr
        subst hr
        clear hx HG HR2
        go_wp2_with (go_at_call 15; refine (unhide HA).mono ?_; rintro e w1 ⟨rfl, hb1⟩; have HB1 := hide ((unhide HB).trans (hb1.mono (unhide HB).size)); clear hb1)
        go_ret2
        exact ⟨rfl, unhide HB1⟩
      | some y =>
        have HR3 : Hid (R = Ta.peel (Pt.str y).data.toList ((L.take k).map RuB.r)) := by
          have hr := unhide HR2
          rw [hx] at hr
          rw [Pt.str_list]; exact hr
        have HS3 : Hid ((Pt.str y).size + tw (L.take k) ≤ 4611686018427387903) := by rw [Pt.str_size]; exact unhide HG y hx
        rw [hx] at HA
        simp only [Pt.ansV] at HA
        clear hx HG HR2
        go_wp2_with (go_at_call 15; refine (unhide HA).mono ?_; rintro e w1 ⟨rfl, hb1⟩; have HB1 := hide ((unhide HB).trans (hb1.mono (unhide HB).size)); clear hb1)
        exact ⟨⟨k, Pt.str y, rfl, by go_num, by omega, HR3, HS3, HB1⟩, by simp [intOf]⟩
    | zero =>
      have e1 : ((0 : Nat) : Int) - 1 = -1 := by omega
      rw [e1]
      have hr : R = some m.data.toList := unhide HR
      subst hr
      clear HR HS H0
      go_wp2
      go_ret2
      exact ⟨by rw [show Pt.ansV (some m.data.toList) = .tuple #[.string m, .bool true] from by simp only [Pt.ansV, Pt.rstr_self]]; rfl, unhide HB⟩
end Rv
end Go.Proofs.Ytjcchogilbekoaa
