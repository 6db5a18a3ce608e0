/- Contracts: the document's Apply and Undo of any rule, against the plain meaning (Ta). -/
import Derived.Test.YtjcchogilbekoaaTc1
namespace Go.Proofs.Ytjcchogilbekoaa
open Go.RowKit
namespace Pt
open Cd

theorem rstr_toList (l : List UInt8) : (str l).toList = l := by rw [ByteArray.toList_eq, str_list]
theorem rstr_self (t : ByteArray) : str t.data.toList = t := by simp [str]
theorem cat_left (t a : ByteArray) (n : Nat) : t.extract 0 n ++ a = str (t.data.toList.take n ++ a.data.toList) := by
  rw [str_app, Lib.extract_data, List.drop_zero, Nat.sub_zero]
theorem cat_right (a t : ByteArray) (n : Nat) : a ++ t.extract n t.size = str (a.data.toList ++ t.data.toList.drop n) := by
  rw [str_app, Lib.extract_data, List.take_of_length_le (by simp)]

set_option maxHeartbeats 1000000 in
set_option maxRecDepth 100000 in
theorem dapp_any (k : Int) (st ad cd : ByteArray) (t : ByteArray) (w : World) (ht : t.size + st.size + ad.size ≤ 9223372036854775807) :
    Calls Try.prog 10 #[.agg #[.int .i64 k, .int .i64 0, .bool false, .string st, .string ad, .string cd, .slice none 0 0, .int .i64 0], .string t] w fun e w' => e = .returned (ansV (Ta.app (ruR k st ad cd) t.data.toList)) ∧ Below w.heap.size w w' := by
  have HF := hide (fun W => dfits_any k st ad cd t W (by omega))
  rw [Ta.app_dmade]
  cases hf : Ta.fits (ruR k st ad cd) t.data.toList with
  | false =>
    rw [hf] at HF
    clear hf
    rw [if_neg (by simp)]
    go_enter Try.func10, Try.ntmps10
    go_wp2_with (go_at_call 23; refine (unhide HF _).mono ?_; rintro e w1 ⟨rfl, hb1⟩; have HB1 := hide hb1; clear hb1)
    go_ret2
    exact ⟨rfl, ((Below.refl _ w).alloc (Nat.le_refl _) _).trans ((unhide HB1).mono (by simp))⟩
  | true =>
    rw [hf] at HF
    obtain ⟨s, hs⟩ := Ta.fits_iff.1 hf
    obtain ⟨hk, e, _, _⟩ := Ta.stem_some.1 hs
    have hn : st.size ≤ t.size := by
      have := congrArg List.length e
      rw [Ta.put_len] at this
      have e1 : t.data.toList.length = t.size := by simp
      have e2 : (ruR k st ad cd).strip.length = st.size := by show st.data.toList.length = _; simp
      omega
    have hk : k = 1 ∨ k = 2 := hk
    clear e hs hf
    rw [if_pos rfl]
    have hsub : (t.size : Int) - (st.size : Int) = ((t.size - st.size : Nat) : Int) := by omega
    have hw : IntKind.i64.wrap ((t.size : Int) - (st.size : Int)) = ((t.size - st.size : Nat) : Int) := by rw [hsub]; simp [IntKind.wrap, IntKind.signed, IntKind.bits]; omega
    have hz2 : ((t.size - st.size : Nat) : Int) ≤ (t.size : Int) := by omega
    have hz3 : (st.size : Int) ≤ (t.size : Int) := by omega
    have e1 : t.data.toList.length = t.size := by simp
    have e2 : st.data.toList.length = st.size := by simp
    clear hsub
    by_cases h2 : k = 2
    · subst h2
      have hd : Ta.dmade (ruR 2 st ad cd) t.data.toList = t.data.toList.take (t.size - st.size) ++ ad.data.toList := by
        show (if (2 : Int) = 2 then t.data.toList.take (t.data.toList.length - st.data.toList.length) ++ ad.data.toList else _) = _
        rw [if_pos rfl, e1, e2]
      rw [hd]
      have hb : (t.extract 0 (t.size - st.size)).size + ad.size ≤ 9223372036854775807 := by rw [ByteArray.size_extract]; omega
      clear hd e1 e2
      go_enter Try.func10, Try.ntmps10
      go_wp2_with (go_at_call 23; refine (unhide HF _).mono ?_; rintro e w1 ⟨rfl, hb1⟩; obtain ⟨c0, _, _, c3, c4, _, _, _⟩ := box8 hb1; have HB1 := hide hb1; clear hb1)
      go_region
      go_wp2
      go_ret2
      exact ⟨by rw [cat_left]; rfl, (((Below.refl _ w).alloc (Nat.le_refl _) _).trans ((unhide HB1).mono (by simp))).drew⟩
    · obtain rfl : k = 1 := by omega
      have hd : Ta.dmade (ruR 1 st ad cd) t.data.toList = ad.data.toList ++ t.data.toList.drop st.size := by
        show (if (1 : Int) = 2 then _ else ad.data.toList ++ t.data.toList.drop st.data.toList.length) = _
        rw [if_neg (by decide), e2]
      rw [hd]
      have hb : ad.size + (t.extract st.size t.size).size ≤ 9223372036854775807 := by rw [ByteArray.size_extract]; omega
      clear hd e1 e2
      go_enter Try.func10, Try.ntmps10
      go_wp2_with (go_at_call 23; refine (unhide HF _).mono ?_; rintro e w1 ⟨rfl, hb1⟩; obtain ⟨c0, _, _, c3, c4, _, _, _⟩ := box8 hb1; have HB1 := hide hb1; clear hb1)
      go_region
      go_wp2
      go_ret2
      exact ⟨by rw [cat_right]; rfl, (((Below.refl _ w).alloc (Nat.le_refl _) _).trans ((unhide HB1).mono (by simp))).drew⟩
/-- the document's Undo ends as the word that it tries is made or not -/
theorem dend {m : Option (List UInt8)} {t : ByteArray} : (m = some t.data.toList ∧ ansV m = .tuple #[.string t, .bool true]) ∨ (m = none ∧ ansV m = .tuple #[.string ⟨#[]⟩, .bool false]) ∨ ∃ x, m = some x ∧ ¬ x = t.data.toList ∧ ansV m = .tuple #[.string (str x), .bool true] := by
  cases m with
  | none => exact .inr (.inl ⟨rfl, rfl⟩)
  | some x =>
    by_cases h : x = t.data.toList
    · subst h
      exact .inl ⟨rfl, by simp only [ansV, rstr_self]⟩
    · exact .inr (.inr ⟨x, rfl, h, rfl⟩)
set_option maxHeartbeats 2000000 in
set_option maxRecDepth 100000 in
theorem dund_any (k : Int) (st ad cd : ByteArray) (t : ByteArray) (w : World) (ht : t.size + 2 * st.size + ad.size ≤ 9223372036854775807) :
    Calls Try.prog 15 #[.agg #[.int .i64 k, .int .i64 0, .bool false, .string st, .string ad, .string cd, .slice none 0 0, .int .i64 0], .string t] w fun e w' => e = .returned (ansV (Ta.und (ruR k st ad cd) t.data.toList)) ∧ Below w.heap.size w w' := by
  rw [Ta.und_dback]
  have e1 : t.data.toList.length = t.size := by simp
  have e2 : (ruR k st ad cd).add.length = ad.size := by show ad.data.toList.length = _; simp
  rw [e1, e2]
  by_cases hs : t.size < ad.size
  · rw [if_pos hs]
    have hz : (t.size : Int) < (ad.size : Int) := by omega
    go_enter Try.func15, Try.ntmps15
    go_wp2
    go_ret2
    exact ⟨rfl, (Below.refl _ w).alloc (Nat.le_refl _) _⟩
  · rw [if_neg hs]
    have hz0 : ¬ (t.size : Int) < (ad.size : Int) := by omega
    have hsub : (t.size : Int) - (ad.size : Int) = ((t.size - ad.size : Nat) : Int) := by omega
    have hw : IntKind.i64.wrap ((t.size : Int) - (ad.size : Int)) = ((t.size - ad.size : Nat) : Int) := by rw [hsub]; simp [IntKind.wrap, IntKind.signed, IntKind.bits]; omega
    have hz2 : ((t.size - ad.size : Nat) : Int) ≤ (t.size : Int) := by omega
    have hz3 : (ad.size : Int) ≤ (t.size : Int) := by omega
    have hb : (t.extract 0 (t.size - ad.size)).size + st.size ≤ 9223372036854775807 := by rw [ByteArray.size_extract]; omega
    clear hsub
    by_cases h1 : k = 1
    · subst h1
      obtain ⟨bk, hbk⟩ : ∃ bk, bk = st ++ t.extract ad.size t.size := ⟨_, rfl⟩
      have hd : Ta.dback (ruR 1 st ad cd) t.data.toList = bk.data.toList := by
        show (if (1 : Int) = 1 then st.data.toList ++ t.data.toList.drop ad.data.toList.length else _) = _
        rw [if_pos rfl, hbk, cat_right, str_list]
        simp
      have hbz : st.size + (t.extract ad.size t.size).size ≤ 9223372036854775807 := by rw [ByteArray.size_extract]; omega
      rw [hd]
      have HA := hide (fun W => dapp_any 1 st ad cd bk W (by rw [hbk, ByteArray.size_append, ByteArray.size_extract]; omega))
      clear hd e1 e2
      generalize Ta.app (ruR 1 st ad cd) bk.data.toList = M at *
      have HBK := hide hbk
      clear hbk
      rcases dend (m := M) (t := t) with ⟨em, ea⟩ | ⟨em, ea⟩ | ⟨x, em, hx, ea⟩
      · rw [if_pos em]
        clear em
        go_enter Try.func15, Try.ntmps15
        go_wp2
        go_region
        go_wp2
        go_region
        go_wp2_with fail
        rw [← unhide HBK]
        refine (unhide HA _).mono ?_
        rintro e w1 ⟨rfl, hb1⟩
        have HB1 := hide hb1
        clear hb1
        rw [ea]
        go_wp2
        go_ret2
        exact ⟨by rw [show ansV (some bk.data.toList) = .tuple #[.string bk, .bool true] from by simp only [ansV, rstr_self]]; rfl, ((Below.refl _ w).alloc (Nat.le_refl _) _).drew.drew.trans ((unhide HB1).mono (by simp))⟩
      · rw [if_neg (by rw [em]; simp)]
        clear em
        go_enter Try.func15, Try.ntmps15
        go_wp2
        go_region
        go_wp2
        go_region
        go_wp2_with fail
        rw [← unhide HBK]
        refine (unhide HA _).mono ?_
        rintro e w1 ⟨rfl, hb1⟩
        have HB1 := hide hb1
        clear hb1
        rw [ea]
        go_wp2
        go_ret2
        exact ⟨rfl, ((Below.refl _ w).alloc (Nat.le_refl _) _).drew.drew.trans ((unhide HB1).mono (by simp))⟩
      · rw [if_neg (by rw [em]; simp [hx])]
        have hx1 : ¬ (str x).toList = t.toList := by rw [rstr_toList, ByteArray.toList_eq]; exact hx
        have hx2 : ((str x).toList == t.toList) = false := by simpa using hx1
        clear em hx
        go_enter Try.func15, Try.ntmps15
        go_wp2
        go_region
        go_wp2
        go_region
        go_wp2_with fail
        rw [← unhide HBK]
        refine (unhide HA _).mono ?_
        rintro e w1 ⟨rfl, hb1⟩
        have HB1 := hide hb1
        clear hb1
        rw [ea]
        go_wp2
        go_ret2
        exact ⟨rfl, ((Below.refl _ w).alloc (Nat.le_refl _) _).drew.drew.trans ((unhide HB1).mono (by simp))⟩
    · have h1 : ¬ k = 1 := h1
      obtain ⟨bk, hbk⟩ : ∃ bk, bk = t.extract 0 (t.size - ad.size) ++ st := ⟨_, rfl⟩
      have hd : Ta.dback (ruR k st ad cd) t.data.toList = bk.data.toList := by
        show (if k = 1 then _ else t.data.toList.take (t.data.toList.length - ad.data.toList.length) ++ st.data.toList) = _
        rw [if_neg h1, hbk, cat_left, str_list]
        simp
      rw [hd]
      have HA := hide (fun W => dapp_any k st ad cd bk W (by rw [hbk, ByteArray.size_append, ByteArray.size_extract]; omega))
      clear hd e1 e2
      generalize Ta.app (ruR k st ad cd) bk.data.toList = M at *
      have HBK := hide hbk
      clear hbk
      rcases dend (m := M) (t := t) with ⟨em, ea⟩ | ⟨em, ea⟩ | ⟨x, em, hx, ea⟩
      · rw [if_pos em]
        clear em
        go_enter Try.func15, Try.ntmps15
        go_wp2
        go_region
        go_wp2_with fail
        rw [← unhide HBK]
        refine (unhide HA _).mono ?_
        rintro e w1 ⟨rfl, hb1⟩
        have HB1 := hide hb1
        clear hb1
        rw [ea]
        go_wp2
        go_ret2
        exact ⟨by rw [show ansV (some bk.data.toList) = .tuple #[.string bk, .bool true] from by simp only [ansV, rstr_self]]; rfl, ((Below.refl _ w).alloc (Nat.le_refl _) _).drew.trans ((unhide HB1).mono (by simp))⟩
      · rw [if_neg (by rw [em]; simp)]
        clear em
        go_enter Try.func15, Try.ntmps15
        go_wp2
        go_region
        go_wp2_with fail
        rw [← unhide HBK]
        refine (unhide HA _).mono ?_
        rintro e w1 ⟨rfl, hb1⟩
        have HB1 := hide hb1
        clear hb1
        rw [ea]
        go_wp2
        go_ret2
        exact ⟨rfl, ((Below.refl _ w).alloc (Nat.le_refl _) _).drew.trans ((unhide HB1).mono (by simp))⟩
      · rw [if_neg (by rw [em]; simp [hx])]
        have hx1 : ¬ (str x).toList = t.toList := by rw [rstr_toList, ByteArray.toList_eq]; exact hx
        have hx2 : ((str x).toList == t.toList) = false := by simpa using hx1
        clear em hx
        go_enter Try.func15, Try.ntmps15
        go_wp2
        go_region
        go_wp2_with fail
        rw [← unhide HBK]
        refine (unhide HA _).mono ?_
        rintro e w1 ⟨rfl, hb1⟩
        have HB1 := hide hb1
        clear hb1
        rw [ea]
        go_wp2
        go_ret2
        exact ⟨rfl, ((Below.refl _ w).alloc (Nat.le_refl _) _).drew.trans ((unhide HB1).mono (by simp))⟩
end Pt
end Go.Proofs.Ytjcchogilbekoaa
