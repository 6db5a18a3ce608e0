/- Contracts: the document's Fits of any rule, against the plain meaning (Ta). -/
import Derived.Test.YtjcchogilbekoaaTb3
namespace Go.Proofs.Ytjcchogilbekoaa
open Go.RowKit
namespace Pt
open Cd

theorem box8 {w w1 : World} {v0 v1 v2 v3 v4 v5 v6 v7 : Value} {T : TypeId} (hb : Below (w.alloc (.cells #[v0, v1, v2, v3, v4, v5, v6, v7] T)).heap.size (w.alloc (.cells #[v0, v1, v2, v3, v4, v5, v6, v7] T)) w1) :
    w1.cell? ⟨w.heap.size, 0, none⟩ = some v0 ∧ w1.cell? ⟨w.heap.size, 1, none⟩ = some v1 ∧ w1.cell? ⟨w.heap.size, 2, none⟩ = some v2 ∧ w1.cell? ⟨w.heap.size, 3, none⟩ = some v3 ∧ w1.cell? ⟨w.heap.size, 4, none⟩ = some v4 ∧ w1.cell? ⟨w.heap.size, 5, none⟩ = some v5 ∧ w1.cell? ⟨w.heap.size, 6, none⟩ = some v6 ∧ w1.cell? ⟨w.heap.size, 7, none⟩ = some v7 := by
  have h : ∀ j u, (#[v0, v1, v2, v3, v4, v5, v6, v7] : Array Value).toList[j]? = some u → w1.cell? ⟨w.heap.size, j, none⟩ = some u := fun j u hu => by
    have := new_cells w _ T j u hu
    rw [Go.WideShapes.add_plain, Nat.zero_add] at this
    exact (hb.cell (p := ⟨w.heap.size, j, none⟩) (by simp)).trans this
  exact ⟨h 0 _ rfl, h 1 _ rfl, h 2 _ rfl, h 3 _ rfl, h 4 _ rfl, h 5 _ rfl, h 6 _ rfl, h 7 _ rfl⟩

set_option maxHeartbeats 1000000 in
set_option maxRecDepth 100000 in
theorem dfits_any (k : Int) (st ad cd : ByteArray) (t : ByteArray) (w : World) (ht : t.size ≤ 9223372036854775807) :
    Calls Try.prog 23 #[.agg #[.int .i64 k, .int .i64 0, .bool false, .string st, .string ad, .string cd, .slice none 0 0, .int .i64 0], .string t] w fun e w' => e = .returned (.bool (Ta.fits (ruR k st ad cd) t.data.toList)) ∧ Below w.heap.size w w' := by
  rw [Ta.fits_dfits]
  show Calls _ _ _ _ fun e w' => e = .returned (.bool (Ta.dfits k st.data.toList (admR k cd) t.data.toList)) ∧ Below w.heap.size w w'
  have HRF := hide (fun W => refRead_any cd W)
  have HRS : Hid (∀ v W, TextsAt W v (rd cd.data.toList).1 → Calls Try.prog 32 #[v, .string t] W fun e w' => e = .returned (.bool (startsB (rdP cd.data.toList) t.data.toList)) ∧ Below W.heap.size W w') := fun v W h => refStarts_any _ v t W (rd_pcs _) (rd_len _) h
  have HRE : Hid (∀ v W, TextsAt W v (rd cd.data.toList).1 → Calls Try.prog 31 #[v, .string t] W fun e w' => e = .returned (.bool (endsB (rdP cd.data.toList) t.data.toList)) ∧ Below W.heap.size W w') := fun v W h => refEnds_any _ v t W (rd_pcs _) (rd_len _) h ht
  have hl1 : t.data.toList.length = t.size := by simp
  have hl2 : st.data.toList.length = st.size := by simp
  unfold Ta.dfits admR
  rw [hl1, hl2]
  generalize startsB (rdP cd.data.toList) t.data.toList = B1 at *
  generalize endsB (rdP cd.data.toList) t.data.toList = B2 at *
  generalize rd cd.data.toList = R at *
  by_cases hE : R.2 = 0
  · by_cases hn : st.size < t.size
    · have hsub : (t.size : Int) - (st.size : Int) = ((t.size - st.size : Nat) : Int) := by omega
      have hw : IntKind.i64.wrap ((t.size : Int) - (st.size : Int)) = ((t.size - st.size : Nat) : Int) := by rw [hsub]; simp [IntKind.wrap, IntKind.signed, IntKind.bits]; omega
      have hz1 : ¬ (t.size : Int) ≤ (st.size : Int) := by omega
      have hz2 : ((t.size - st.size : Nat) : Int) ≤ (t.size : Int) := by omega
      have hz3 : (st.size : Int) ≤ (t.size : Int) := by omega
      have hE2 : (R.2 : Int) = 0 := by omega
      rw [decide_eq_true hE, decide_eq_true hn]
      clear hE hn hsub
      by_cases h2 : k = 2
      · subst h2
        rw [if_pos rfl, if_neg (by decide)]
        cases B2 with
        | true =>
          go_enter Try.func23, Try.ntmps23
          go_wp2_with fail
          refine (unhide HRF _).mono ?_
          rintro e w1 ⟨v, rfl, hp1, hb1⟩
          obtain ⟨c0, _, _, c3, _, _, _, _⟩ := box8 hb1
          have hlt : w.heap.size < w1.heap.size := by have := hb1.size; simp at this; omega
          have HBB : Hid (Below w.heap.size w w1) := hide (((Below.refl _ w).alloc (Nat.le_refl _) _).trans (hb1.mono (by simp)))
          have HT := hide hp1.at
          clear hb1 hp1
          rw [hE2]
          go_wp2_with fail
          refine (unhide HRE _ _ (unhide HT)).mono ?_
          rintro e w2 ⟨rfl, hb2⟩
          have c3' := (hb2.cell (p := ⟨w.heap.size, 3, none⟩) hlt).trans c3
          have HB2 := hide hb2
          clear hb2 c3 c0
          go_wp2
          go_region
          go_wp2
          go_ret
          have hbz := (unhide HBB).trans ((unhide HB2).mono (Nat.le_of_lt hlt))
          refine ⟨?_, (hbz.drew)⟩
          rw [Lib.extract_toList, Lib.toList_data, List.take_of_length_le (by rw [List.length_drop]; omega)]
          rfl
        | false =>
          go_enter Try.func23, Try.ntmps23
          go_wp2_with fail
          refine (unhide HRF _).mono ?_
          rintro e w1 ⟨v, rfl, hp1, hb1⟩
          obtain ⟨c0, _, _, c3, _, _, _, _⟩ := box8 hb1
          have hlt : w.heap.size < w1.heap.size := by have := hb1.size; simp at this; omega
          have HBB : Hid (Below w.heap.size w w1) := hide (((Below.refl _ w).alloc (Nat.le_refl _) _).trans (hb1.mono (by simp)))
          have HT := hide hp1.at
          clear hb1 hp1
          rw [hE2]
          go_wp2_with fail
          refine (unhide HRE _ _ (unhide HT)).mono ?_
          rintro e w2 ⟨rfl, hb2⟩
          have c3' := (hb2.cell (p := ⟨w.heap.size, 3, none⟩) hlt).trans c3
          have HB2 := hide hb2
          clear hb2 c3 c0
          go_wp2
          go_region
          go_wp2
          go_ret
          have hbz := (unhide HBB).trans ((unhide HB2).mono (Nat.le_of_lt hlt))
          exact ⟨by simp, hbz.drew⟩
      · rw [if_neg h2]
        by_cases h1 : k = 1
        · subst h1
          rw [if_pos rfl, if_pos rfl]
          cases B1 with
          | true =>
            go_enter Try.func23, Try.ntmps23
            go_wp2_with fail
            refine (unhide HRF _).mono ?_
            rintro e w1 ⟨v, rfl, hp1, hb1⟩
            obtain ⟨c0, _, _, c3, _, _, _, _⟩ := box8 hb1
            have hlt : w.heap.size < w1.heap.size := by have := hb1.size; simp at this; omega
            have HBB : Hid (Below w.heap.size w w1) := hide (((Below.refl _ w).alloc (Nat.le_refl _) _).trans (hb1.mono (by simp)))
            have HT := hide hp1.at
            clear hb1 hp1
            rw [hE2]
            go_wp2_with fail
            refine (unhide HRS _ _ (unhide HT)).mono ?_
            rintro e w2 ⟨rfl, hb2⟩
            have c3' := (hb2.cell (p := ⟨w.heap.size, 3, none⟩) hlt).trans c3
            have HB2 := hide hb2
            clear hb2 c3 c0
            go_wp2
            go_region
            go_wp2
            go_ret
            have hbz := (unhide HBB).trans ((unhide HB2).mono (Nat.le_of_lt hlt))
            refine ⟨?_, (hbz.drew)⟩
            rw [Lib.extract_toList, Lib.toList_data, List.drop_zero, Nat.sub_zero]
            rfl
          | false =>
            go_enter Try.func23, Try.ntmps23
            go_wp2_with fail
            refine (unhide HRF _).mono ?_
            rintro e w1 ⟨v, rfl, hp1, hb1⟩
            obtain ⟨c0, _, _, c3, _, _, _, _⟩ := box8 hb1
            have hlt : w.heap.size < w1.heap.size := by have := hb1.size; simp at this; omega
            have HBB : Hid (Below w.heap.size w w1) := hide (((Below.refl _ w).alloc (Nat.le_refl _) _).trans (hb1.mono (by simp)))
            have HT := hide hp1.at
            clear hb1 hp1
            rw [hE2]
            go_wp2_with fail
            refine (unhide HRS _ _ (unhide HT)).mono ?_
            rintro e w2 ⟨rfl, hb2⟩
            have c3' := (hb2.cell (p := ⟨w.heap.size, 3, none⟩) hlt).trans c3
            have HB2 := hide hb2
            clear hb2 c3 c0
            go_wp2
            go_region
            go_wp2
            go_ret
            have hbz := (unhide HBB).trans ((unhide HB2).mono (Nat.le_of_lt hlt))
            exact ⟨by simp, hbz.drew⟩
        · rw [if_neg h1]
          go_enter Try.func23, Try.ntmps23
          go_wp2_with fail
          refine (unhide HRF _).mono ?_
          rintro e w1 ⟨v, rfl, hp1, hb1⟩
          obtain ⟨c0, _, _, c3, _, _, _, _⟩ := box8 hb1
          have hlt : w.heap.size < w1.heap.size := by have := hb1.size; simp at this; omega
          have HBB : Hid (Below w.heap.size w w1) := hide (((Below.refl _ w).alloc (Nat.le_refl _) _).trans (hb1.mono (by simp)))
          have HT := hide hp1.at
          clear hb1 hp1
          rw [hE2]
          go_wp2
          go_ret
          exact ⟨rfl, unhide HBB⟩
    · have hz1 : (t.size : Int) ≤ (st.size : Int) := by omega
      have hE2 : (R.2 : Int) = 0 := by omega
      rw [decide_eq_false hn]
      have hR : ∀ {a b c d : Bool}, (if k = 2 then false && a && b else if k = 1 then false && c && d else false) = false := by intros; split <;> (try split) <;> rfl
      rw [hR]
      clear hE hn hR
      go_enter Try.func23, Try.ntmps23
      go_wp2_with fail
      refine (unhide HRF _).mono ?_
      rintro e w1 ⟨v, rfl, hp1, hb1⟩
      obtain ⟨c0, _, _, c3, _, _, _, _⟩ := box8 hb1
      have hlt : w.heap.size < w1.heap.size := by have := hb1.size; simp at this; omega
      have HBB : Hid (Below w.heap.size w w1) := hide (((Below.refl _ w).alloc (Nat.le_refl _) _).trans (hb1.mono (by simp)))
      have HT := hide hp1.at
      clear hb1 hp1
      rw [hE2]
      go_wp2
      go_ret
      exact ⟨rfl, unhide HBB⟩
  · have hE2 : ¬ (R.2 : Int) = 0 := by omega
    rw [decide_eq_false hE]
    have hR : ∀ {a b c d e : Bool}, (if k = 2 then a && (false && b) && c else if k = 1 then a && (false && d) && e else false) = false := by intros; split <;> (try split) <;> simp
    rw [hR]
    clear hE hR
    go_enter Try.func23, Try.ntmps23
    go_wp2_with fail
    refine (unhide HRF _).mono ?_
    rintro e w1 ⟨v, rfl, hp1, hb1⟩
    obtain ⟨c0, _, _, c3, _, _, _, _⟩ := box8 hb1
    have hlt : w.heap.size < w1.heap.size := by have := hb1.size; simp at this; omega
    have HBB : Hid (Below w.heap.size w w1) := hide (((Below.refl _ w).alloc (Nat.le_refl _) _).trans (hb1.mono (by simp)))
    have HT := hide hp1.at
    clear hb1 hp1
    go_wp2
    go_ret
    exact ⟨rfl, unhide HBB⟩
end Pt
end Go.Proofs.Ytjcchogilbekoaa
