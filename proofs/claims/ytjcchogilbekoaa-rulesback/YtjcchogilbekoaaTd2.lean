/- Layer 15: RulesBack: what a rule makes it unmakes. -/
import Derived.Test.YtjcchogilbekoaaTd1
namespace Go.Proofs.Ytjcchogilbekoaa
open Go.RowKit
namespace Pt
open Cd

set_option maxHeartbeats 4000000 in
set_option maxRecDepth 100000 in
theorem back_law (k fl : Int) (cr : Bool) (st ad cd : ByteArray) (ao : Option Addr) (nl nc : Nat) (t : ByteArray) (w : World) (ht : 2 * (t.size + 2 * st.size + 2 * ad.size) ≤ 9223372036854775807) :
    Calls Try.prog 7 #[.agg #[.int .i64 k, .int .u16 fl, .bool cr, .string st, .string ad, .string cd, .slice ao nl nc], .string t] w fun e w' => e = .returned (.bool true) ∧ Below w.heap.size w w' := by
  have HA := hide (fun W => app_any k fl cr st ad cd ao nl nc t W (by omega))
  have HF := hide (fun W => fits_any k fl cr st ad cd ao nl nc t W (by omega))
  have HU := hide (fun W => und_any k fl cr st ad cd ao nl nc t W (by omega))
  have hf := (Ta.app_fits (ruR k st ad cd) t.data.toList).symm
  have es : st.data.toList.length = st.size := by simp
  have ea : ad.data.toList.length = ad.size := by simp
  have et : t.data.toList.length = t.size := by simp
  have hP : ∀ p, Ta.und (ruR k st ad cd) t.data.toList = some p → Hid (∀ W, Calls Try.prog 9 #[.agg #[.int .i64 k, .int .u16 fl, .bool cr, .string st, .string ad, .string cd, .slice ao nl nc], .string (str p)] W fun e w' => e = .returned (.tuple #[.string t, .bool true]) ∧ Below W.heap.size W w') := fun p hp => by
    have h1 := Ta.und_some.1 hp
    have hl := Ta.app_len h1
    rw [show (ruR k st ad cd).strip.length = st.size from es, show (ruR k st ad cd).add.length = ad.size from ea, et] at hl
    refine hide (fun W => ?_)
    have := app_any k fl cr st ad cd ao nl nc (str p) W (by rw [str_size]; omega)
    rw [str_list, h1] at this
    simpa only [ansV, rstr_self] using this
  have hN : ∀ m, Ta.app (ruR k st ad cd) t.data.toList = some m → m.length + st.size = t.size + ad.size ∧ Hid (∀ W, Calls Try.prog 14 #[.agg #[.int .i64 k, .int .u16 fl, .bool cr, .string st, .string ad, .string cd, .slice ao nl nc], .string (str m)] W fun e w' => e = .returned (.tuple #[.string t, .bool true]) ∧ Below W.heap.size W w') := fun m hm => by
    have hl := Ta.app_len hm
    rw [show (ruR k st ad cd).strip.length = st.size from es, show (ruR k st ad cd).add.length = ad.size from ea, et] at hl
    refine ⟨hl, hide (fun W => ?_)⟩
    have := und_any k fl cr st ad cd ao nl nc (str m) W (by rw [str_size]; omega)
    rw [str_list, Ta.und_some.2 hm] at this
    simpa only [ansV, rstr_self] using this
  generalize Ta.app (ruR k st ad cd) t.data.toList = M at *
  generalize Ta.und (ruR k st ad cd) t.data.toList = U at *
  clear es ea et
  cases M with
  | none =>
    clear hN
    simp only [Option.isSome_none] at hf
    rw [hf] at HF
    clear hf
    cases U with
    | none =>
      clear hP
      simp only [ansV] at HA HU
      go_enter Try.func7, Try.ntmps7
      go_wp2_with fail
      refine (wakes15_any _).mono ?_
      rintro e w1 ⟨rfl, hb1⟩
      have A1 := hide (At7.new hb1)
      obtain ⟨c0, c1, c2, c3, c4, c5, c6, hlt, _⟩ := unhide A1
      clear hb1
      go_wp2_with fail
      refine (unhide HA _).mono ?_
      rintro e w2 ⟨rfl, hb2⟩
      have A2 := hide ((unhide A1).step hb2)
      obtain ⟨c0, c1, c2, c3, c4, c5, c6, hlt, _⟩ := unhide A2
      clear hb2 A1
      go_wp2_with fail
      refine (unhide HF _).mono ?_
      rintro e w3 ⟨rfl, hb3⟩
      have A3 := hide ((unhide A2).step hb3)
      obtain ⟨c0, c1, c2, c3, c4, c5, c6, hlt, _⟩ := unhide A3
      clear hb3 A2
      go_wp2_with fail
      refine (unhide HU _).mono ?_
      rintro e w4 ⟨rfl, hb4⟩
      have A4 := hide ((unhide A3).step hb4)
      obtain ⟨c0, c1, c2, c3, c4, c5, c6, hlt, _⟩ := unhide A4
      clear hb4 A3
      go_wp2
      go_ret
      exact ⟨by simp, (unhide A4).bel⟩
    | some p =>
      have HP := hP p rfl
      clear hP
      simp only [ansV] at HA HU
      go_enter Try.func7, Try.ntmps7
      go_wp2_with fail
      refine (wakes15_any _).mono ?_
      rintro e w1 ⟨rfl, hb1⟩
      have A1 := hide (At7.new hb1)
      obtain ⟨c0, c1, c2, c3, c4, c5, c6, hlt, _⟩ := unhide A1
      clear hb1
      go_wp2_with fail
      refine (unhide HA _).mono ?_
      rintro e w2 ⟨rfl, hb2⟩
      have A2 := hide ((unhide A1).step hb2)
      obtain ⟨c0, c1, c2, c3, c4, c5, c6, hlt, _⟩ := unhide A2
      clear hb2 A1
      go_wp2_with fail
      refine (unhide HF _).mono ?_
      rintro e w3 ⟨rfl, hb3⟩
      have A3 := hide ((unhide A2).step hb3)
      obtain ⟨c0, c1, c2, c3, c4, c5, c6, hlt, _⟩ := unhide A3
      clear hb3 A2
      go_wp2_with fail
      refine (unhide HU _).mono ?_
      rintro e w4 ⟨rfl, hb4⟩
      have A4 := hide ((unhide A3).step hb4)
      obtain ⟨c0, c1, c2, c3, c4, c5, c6, hlt, _⟩ := unhide A4
      clear hb4 A3
      go_wp2_with fail
      refine (unhide HP _).mono ?_
      rintro e w5 ⟨rfl, hb5⟩
      have A5 := hide ((unhide A4).step hb5)
      obtain ⟨c0, c1, c2, c3, c4, c5, c6, hlt, _⟩ := unhide A5
      clear hb5 A4
      go_wp2
      go_ret
      exact ⟨by simp, (unhide A5).bel⟩
  | some m =>
    obtain ⟨hl, HN⟩ := hN m rfl
    clear hN
    simp only [Option.isSome_some] at hf
    rw [hf] at HF
    clear hf
    have hsz : (str m).size = m.length := str_size m
    have hv : (t.size : Int) - (st.size : Int) + (ad.size : Int) = ((str m).size : Int) := by rw [hsz]; omega
    have hw1 : IntKind.i64.wrap ((t.size : Int) - (st.size : Int)) = (t.size : Int) - (st.size : Int) := by simp [IntKind.wrap, IntKind.signed, IntKind.bits]; omega
    have hw2 : IntKind.i64.wrap ((t.size : Int) - (st.size : Int) + (ad.size : Int)) = ((str m).size : Int) := by rw [← hv]; simp [IntKind.wrap, IntKind.signed, IntKind.bits]; omega
    clear hl hsz
    cases U with
    | none =>
      clear hP
      simp only [ansV] at HA HU
      go_enter Try.func7, Try.ntmps7
      go_wp2_with fail
      refine (wakes15_any _).mono ?_
      rintro e w1 ⟨rfl, hb1⟩
      have A1 := hide (At7.new hb1)
      obtain ⟨c0, c1, c2, c3, c4, c5, c6, hlt, _⟩ := unhide A1
      clear hb1
      go_wp2_with fail
      refine (unhide HA _).mono ?_
      rintro e w2 ⟨rfl, hb2⟩
      have A2 := hide ((unhide A1).step hb2)
      obtain ⟨c0, c1, c2, c3, c4, c5, c6, hlt, _⟩ := unhide A2
      clear hb2 A1
      go_wp2_with fail
      refine (unhide HF _).mono ?_
      rintro e w3 ⟨rfl, hb3⟩
      have A3 := hide ((unhide A2).step hb3)
      obtain ⟨c0, c1, c2, c3, c4, c5, c6, hlt, _⟩ := unhide A3
      clear hb3 A2
      go_wp2_with fail
      refine (unhide HN _).mono ?_
      rintro e w4 ⟨rfl, hb4⟩
      have A4 := hide ((unhide A3).step hb4)
      obtain ⟨c0, c1, c2, c3, c4, c5, c6, hlt, _⟩ := unhide A4
      clear hb4 A3
      go_wp2_with fail
      refine (unhide HU _).mono ?_
      rintro e w5 ⟨rfl, hb5⟩
      have A5 := hide ((unhide A4).step hb5)
      obtain ⟨c0, c1, c2, c3, c4, c5, c6, hlt, _⟩ := unhide A5
      clear hb5 A4
      go_wp2
      go_ret
      exact ⟨by simp, (unhide A5).bel⟩
    | some p =>
      have HP := hP p rfl
      clear hP
      simp only [ansV] at HA HU
      go_enter Try.func7, Try.ntmps7
      go_wp2_with fail
      refine (wakes15_any _).mono ?_
      rintro e w1 ⟨rfl, hb1⟩
      have A1 := hide (At7.new hb1)
      obtain ⟨c0, c1, c2, c3, c4, c5, c6, hlt, _⟩ := unhide A1
      clear hb1
      go_wp2_with fail
      refine (unhide HA _).mono ?_
      rintro e w2 ⟨rfl, hb2⟩
      have A2 := hide ((unhide A1).step hb2)
      obtain ⟨c0, c1, c2, c3, c4, c5, c6, hlt, _⟩ := unhide A2
      clear hb2 A1
      go_wp2_with fail
      refine (unhide HF _).mono ?_
      rintro e w3 ⟨rfl, hb3⟩
      have A3 := hide ((unhide A2).step hb3)
      obtain ⟨c0, c1, c2, c3, c4, c5, c6, hlt, _⟩ := unhide A3
      clear hb3 A2
      go_wp2_with fail
      refine (unhide HN _).mono ?_
      rintro e w4 ⟨rfl, hb4⟩
      have A4 := hide ((unhide A3).step hb4)
      obtain ⟨c0, c1, c2, c3, c4, c5, c6, hlt, _⟩ := unhide A4
      clear hb4 A3
      go_wp2_with fail
      refine (unhide HU _).mono ?_
      rintro e w5 ⟨rfl, hb5⟩
      have A5 := hide ((unhide A4).step hb5)
      obtain ⟨c0, c1, c2, c3, c4, c5, c6, hlt, _⟩ := unhide A5
      clear hb5 A4
      go_wp2_with fail
      refine (unhide HP _).mono ?_
      rintro e w6 ⟨rfl, hb6⟩
      have A6 := hide ((unhide A5).step hb6)
      obtain ⟨c0, c1, c2, c3, c4, c5, c6, hlt, _⟩ := unhide A6
      clear hb6 A5
      go_wp2
      go_ret
      exact ⟨by simp, (unhide A6).bel⟩
end Pt
end Go.Proofs.Ytjcchogilbekoaa
