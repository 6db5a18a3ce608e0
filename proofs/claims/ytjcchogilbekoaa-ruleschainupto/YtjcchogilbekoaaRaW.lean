/- Contracts: the document's Read, listed, Admits. -/
import Derived.Test.YtjcchogilbekoaaRfS
namespace Go.Proofs.Ytjcchogilbekoaa
open Go.RowKit
namespace Pt
open Cd

theorem refRead_any (s : ByteArray) (w : World) :
    Calls Try.prog 30 #[.string s] w fun e w' => ∃ v, e = .returned (.tuple #[v, .int .i64 ((rd s.data.toList).2 : Nat)]) ∧ RefP w.heap.size w' v (rd s.data.toList).1 ∧ Below w.heap.size w w' := by
  have hsl : s.data.toList.length = s.size := by simp
  by_cases h1 : s.data.toList = [] ∨ 512 < s.data.toList.length
  · rw [rd_none h1]
    refine (refRead_none s w h1).mono ?_
    rintro e w' ⟨rfl, rfl⟩
    exact ⟨_, rfl, refP_nil _ _, Below.refl _ _⟩
  · by_cases h2 : s.data.toList = [46]
    · have e : s = ⟨#[46]⟩ := by rw [← str_self s, h2]; rfl
      subst e
      refine (refRead_dot w).mono ?_
      rintro e w' ⟨rfl, rfl⟩
      exact ⟨_, rfl, refP_nil _ _, Below.refl _ _⟩
    · exact refRead_loop s w (fun e => h1 (.inl e)) (by have : ¬ 512 < s.data.toList.length := fun e => h1 (.inr e); omega) h2
theorem con_step (s : ByteArray) (k : Nat) (b : UInt8) (h : k < s.size) : (s.data.toList.drop k).contains b = ((s[k] == b) || (s.data.toList.drop (k + 1)).contains b) := by
  rw [drop_cons s k h, Bool.eq_iff_iff, con_iff, List.mem_cons, Bool.or_eq_true, beq_iff_eq, con_iff]
  exact ⟨fun e => e.imp Eq.symm id, fun e => e.imp Eq.symm id⟩
theorem con_end (s : ByteArray) (k : Nat) (b : UInt8) (h : s.size ≤ k) : (s.data.toList.drop k).contains b = false := by
  rw [List.drop_of_length_le (by simpa using h)]
  rfl

set_option maxHeartbeats 1000000 in
set_option maxRecDepth 100000 in
theorem listed_any (s : ByteArray) (b : UInt8) (w : World) (hs : s.size ≤ maxLen) :
    Calls Try.prog 47 #[.string s, .int .u8 (b.toNat : Int)] w fun e w' => e = .returned (.bool (s.data.toList.contains b)) ∧ w' = w := by
  unfold maxLen at hs
  have HST := hide (fun k h => con_step s k b h)
  have HEN := hide (fun k h => con_end s k b h)
  have HZ : Hid ((s.data.toList.drop 0).contains b = s.data.toList.contains b) := hide (by rw [List.drop_zero])
  generalize s.data.toList.contains b = RES at *
  go_enter Try.func47, Try.ntmps47
  go_wp2
  go_loop [5] (fun n => ∃ k : Nat, k ≤ s.size ∧ n = .int .i64 k ∧ Hid ((s.data.toList.drop k).contains b = RES)) (fun n => s.size - (intOf n).toNat)
  case atStart => exact ⟨0, by omega, rfl, HZ⟩
  case round =>
    obtain ⟨k, hk, rfl, HK⟩ := hrel
    by_cases hlt : k < s.size
    · have HS := hide (unhide HST k hlt)
      by_cases hc : s[k] = b
      · have hcz : ((s[k].toNat : Int) == (b.toNat : Int)) = true := by rw [hc, beq_iff_eq]
        have HR : Hid (RES = true) := hide (by rw [← unhide HK, unhide HS, hc]; simp)
        clear hc HZ HST HEN HK HS
        go_wp2
        go_ret
        exact ⟨ret_bool (unhide HR).symm, rfl⟩
      · have hcz : ((s[k].toNat : Int) == (b.toNat : Int)) = false := by rw [beq_eq_false_iff_ne]; exact ne_int hc
        have HK2 : Hid ((s.data.toList.drop (k + 1)).contains b = RES) := hide (by rw [← unhide HK, unhide HS]; simp [hc])
        clear hc HZ HST HEN HS
        go_wp2
        go_round
        case rel => exact ⟨k + 1, by omega, by go_num, HK2⟩
        case measure => simp [intOf]; omega
    · have HR : Hid (RES = false) := hide (by rw [← unhide HK, unhide HEN k (by omega)])
      clear HZ HST HEN HK
      go_wp2
      go_ret
      exact ⟨ret_bool (unhide HR).symm, rfl⟩

set_option maxHeartbeats 1000000 in
set_option maxRecDepth 100000 in
theorem refAdmits_one (c b : UInt8) (w : World) :
    Calls Try.prog 41 #[.agg #[.string (str [c])], .int .u8 (b.toNat : Int)] w fun e w' => e = .returned (.bool (adm [c] b)) ∧ w' = w.alloc (.cells #[.string (str [c])] 69) := by
  have e0 : str [c] = ⟨#[c]⟩ := rfl
  by_cases h : c = 46
  · subst h
    rw [adm_dot]
    go_enter Try.func41, Try.ntmps41
    go_wp2
    go_ret
    exact ⟨rfl, rfl⟩
  · rw [adm_one h]
    have hc : (c == 46) = false := by simp [h]
    have HR : Hid (((c.toNat : Int) == (b.toNat : Int)) = (c == b)) := hide (by
      rw [Bool.eq_iff_iff, beq_iff_eq, beq_iff_eq]
      exact ⟨fun e => UInt8.toNat_inj.1 (by omega), fun e => by rw [e]⟩)
    generalize (c == b) = RES at *
    go_enter Try.func41, Try.ntmps41
    go_wp2
    go_ret
    exact ⟨ret_bool (unhide HR), rfl⟩
theorem ext_mid (p q r : List UInt8) : (str (p ++ q ++ r)).extract p.length ((str (p ++ q ++ r)).size - r.length) = str q := by
  rw [extract_str, str_list, str_size, List.append_assoc, List.drop_left]
  congr 1
  have : (p ++ (q ++ r)).length - r.length - p.length = q.length := by simp; omega
  rw [this, List.take_left]
set_option maxHeartbeats 1000000 in
set_option maxRecDepth 100000 in
theorem refAdmits_out (l : List UInt8) (b : UInt8) (w : World) (hl : l.length ≤ 512) :
    Calls Try.prog 41 #[.agg #[.string (str (91 :: 94 :: (l ++ [93])))], .int .u8 (b.toNat : Int)] w fun e w' => e = .returned (.bool (adm (91 :: 94 :: (l ++ [93])) b)) ∧ w' = w.alloc (.cells #[.string (str (91 :: 94 :: (l ++ [93])))] 69) := by
  have HL : Hid (∀ W, Calls Try.prog 47 #[.string (str l), .int .u8 (b.toNat : Int)] W fun e w' => e = .returned (.bool (l.contains b)) ∧ w' = W) := fun W => by
    have := listed_any (str l) b W (by rw [str_size]; unfold maxLen; omega)
    rw [str_list] at this
    exact this
  rw [adm_out]
  have hex : (str (91 :: 94 :: (l ++ [93]))).extract 2 ((str (91 :: 94 :: (l ++ [93]))).size - 1) = str l := ext_mid [91, 94] l [93]
  have hsz : (str (91 :: 94 :: (l ++ [93]))).size = l.length + 3 := by rw [str_size]; simp
  have h1 : 1 < (str (91 :: 94 :: (l ++ [93]))).size := by omega
  have h94 : (str (91 :: 94 :: (l ++ [93])))[1] = 94 := rfl
  have hlo : 3 ≤ (str (91 :: 94 :: (l ++ [93]))).size := by omega
  have hhi : (str (91 :: 94 :: (l ++ [93]))).size ≤ 1000 := by omega
  generalize l.contains b = RES at *
  generalize str l = L at *
  generalize str (91 :: 94 :: (l ++ [93])) = T at *
  clear hsz
  go_enter Try.func41, Try.ntmps41
  go_wp2_with (go_at_call 47; refine (unhide HL _).mono ?_; rintro e w1 ⟨rfl, rfl⟩)
  go_ret
  exact ⟨rfl, rfl⟩
set_option maxHeartbeats 1000000 in
set_option maxRecDepth 100000 in
theorem refAdmits_in (c : UInt8) (l : List UInt8) (b : UInt8) (w : World) (hl : l.length ≤ 512) (hc : c ≠ 94) :
    Calls Try.prog 41 #[.agg #[.string (str (91 :: c :: (l ++ [93])))], .int .u8 (b.toNat : Int)] w fun e w' => e = .returned (.bool (adm (91 :: c :: (l ++ [93])) b)) ∧ w' = w.alloc (.cells #[.string (str (91 :: c :: (l ++ [93])))] 69) := by
  have HL : Hid (∀ W, Calls Try.prog 47 #[.string (str (c :: l)), .int .u8 (b.toNat : Int)] W fun e w' => e = .returned (.bool ((c :: l).contains b)) ∧ w' = W) := fun W => by
    have := listed_any (str (c :: l)) b W (by rw [str_size]; unfold maxLen; simp; omega)
    rw [str_list] at this
    exact this
  rw [adm_in hc]
  have hex : (str (91 :: c :: (l ++ [93]))).extract 1 ((str (91 :: c :: (l ++ [93]))).size - 1) = str (c :: l) := ext_mid [91] (c :: l) [93]
  have hsz : (str (91 :: c :: (l ++ [93]))).size = l.length + 3 := by rw [str_size]; simp
  have h1 : 1 < (str (91 :: c :: (l ++ [93]))).size := by omega
  have hc1 : (str (91 :: c :: (l ++ [93])))[1] = c := rfl
  have hcz : ((c.toNat : Int) == 94) = false := by rw [beq_eq_false_iff_ne]; exact ne_int hc
  have hlo : 3 ≤ (str (91 :: c :: (l ++ [93]))).size := by omega
  have hhi : (str (91 :: c :: (l ++ [93]))).size ≤ 1000 := by omega
  generalize (c :: l).contains b = RES at *
  generalize str (c :: l) = L at *
  generalize str (91 :: c :: (l ++ [93])) = T at *
  clear hsz hc
  go_enter Try.func41, Try.ntmps41
  go_wp2_with (go_at_call 47; refine (unhide HL _).mono ?_; rintro e w1 ⟨rfl, rfl⟩)
  go_ret
  exact ⟨rfl, rfl⟩
/-- a piece of a text that is read -/
def Pcs (p : List UInt8) : Prop := Pc p ∧ p.length ≤ 512
theorem refAdmits_any (p : List UInt8) (b : UInt8) (w : World) (hp : Pcs p) :
    Calls Try.prog 41 #[.agg #[.string (str p)], .int .u8 (b.toNat : Int)] w fun e w' => e = .returned (.bool (adm p b)) ∧ w' = w.alloc (.cells #[.string (str p)] 69) := by
  obtain ⟨hp, hl⟩ := hp
  rcases pc_cases hp with rfl | ⟨c, hc1, hc2, rfl⟩ | ⟨l, h1, h2, rfl⟩ | ⟨c, l, hc, h3, rfl⟩
  · exact refAdmits_one 46 b w
  · exact refAdmits_one c b w
  · exact refAdmits_out l b w (by simp at hl; omega)
  · exact refAdmits_in c l b w (by simp at hl; omega) hc
theorem flat_mem {P : List (List UInt8)} {p : List UInt8} (h : p ∈ P) : p.length ≤ P.flatten.length := by
  induction P with
  | nil => simp at h
  | cons q t ih =>
    rw [List.flatten_cons, List.length_append]
    rcases List.mem_cons.1 h with rfl | h
    · omega
    · have := ih h; omega
theorem rd_pcs (l : List UInt8) : ∀ p ∈ (rd l).1, Pcs p := by
  intro p hp
  refine ⟨rd_pc l p hp, ?_⟩
  rcases rd_cases l with e | ⟨_, h2, _, h4, _, _⟩
  · rw [e] at hp; simp at hp
  · have := flat_mem hp
    rw [(pcs_pcs h4).2] at this
    omega
/-- pieces in memory -/
def TextsAt (W : World) (v : Value) (P : List (List UInt8)) : Prop :=
  (v = .slice none 0 0 ∧ P = []) ∨ ∃ g cap, v = .slice (some ⟨g, 0, none⟩) P.length cap ∧ g < W.heap.size ∧ ∀ j p, P[j]? = some p → W.cell? ⟨g, j, none⟩ = some (.string (str p))
theorem TextsAt.below {W W' : World} {v : Value} {P : List (List UInt8)} (h : TextsAt W v P) (hb : Below W.heap.size W W') : TextsAt W' v P := by
  rcases h with h | ⟨g, cap, h1, h2, h3⟩
  · exact .inl h
  · exact .inr ⟨g, cap, h1, Nat.lt_of_lt_of_le h2 hb.size, fun j u hu => (hb.cell (p := ⟨g, j, none⟩) h2).trans (h3 j u hu)⟩
theorem RefP.at {n : Nat} {W : World} {v : Value} {P : List (List UInt8)} (h : RefP n W v P) : TextsAt W v P := by
  obtain ⟨h0, ⟨h1, h2⟩ | ⟨g, cap, cur, h1, h2, h3, h4, h5, h6, h7⟩⟩ := h
  · left
    exact ⟨h1, List.eq_nil_of_length_eq_zero h2⟩
  · right
    refine ⟨g, cap, h1, (Array.getElem?_eq_some_iff.1 h3).1, fun j p hp => ?_⟩
    have hj : j < P.length := (List.getElem?_eq_some_iff.1 hp).1
    have hu : (txt P)[j]? = some (.string (str p)) := by simp [txt, hp]
    rw [← h7, List.getElem?_take, if_pos (by omega)] at hu
    rw [cell_of_row W g j cur _ _ h3]
    simpa using hu
end Pt
end Go.Proofs.Ytjcchogilbekoaa
