/- Contract: cond.cut: the first item of a text that isn't empty, and what stands behind it. -/
import Derived.Test.YtjcchogilbekoabCuA
import Derived.Test.YtjcchogilbekoabCuB
import Derived.Test.YtjcchogilbekoabCuC
namespace Go.Proofs.Ytjcchogilbekoab
open Go.RowKit
namespace Pt
open Cd

set_option maxHeartbeats 1000000 in
set_option maxRecDepth 100000 in
theorem cut_in (s : ByteArray) (t m : List UInt8) (c : UInt8) (w : World) (hs : s.size ≤ maxLen) (h : s.data.toList = 91 :: t) (h93 : 93 ∈ t) (hm : t.takeWhile (· != 93) = c :: m) (hc : c ≠ 94) :
    Calls Try.prog 24 #[.string s] w fun e w' => e = .returned (.tuple #[.agg (itC (adm (91 :: ((c :: m) ++ [93])))), .string (str (t.dropWhile (· != 93)).tail), .bool true]) ∧ Below w.heap.size w w' := by
  have hlen := congrArg List.length h
  simp only [List.length_cons] at hlen
  have hsl : s.data.toList.length = s.size := by simp
  have htl : t.length ≤ maxLen := by omega
  have hml : (c :: m).length ≤ maxLen := by
    have h3 := tw_len t
    rw [hm] at h3
    omega
  have HC : Hid (∀ W, Calls Try.prog 31 #[.string (str t), .string ⟨#[93]⟩] W fun e w' => e = .returned (.tuple #[.string (str (c :: m)), .string (str (t.dropWhile (· != 93)).tail), .bool true]) ∧ ∃ q, w' = W.drewN q) := fun W => by
    have := cut_yes (str t) 93 W (by rw [str_size]; exact htl) (by rw [str_list]; exact h93)
    rw [str_list, hm] at this
    exact this
  have HP : Hid (∀ W, Calls Try.prog 17 #[.string (str (c :: m)), .string ⟨#[94]⟩] W fun e w' => e = .returned (.tuple #[.string (str (c :: m)), .bool false]) ∧ w' = W) := fun W => prefix_no (str (c :: m)) 94 c m W (by rw [str_size]; exact hml) (str_list _) hc
  have HO : Hid (∀ W, Calls Try.prog 29 #[.string (str (c :: m))] W fun e w' => e = .returned (.agg (itC (adm (91 :: ((c :: m) ++ [93]))))) ∧ w' = (W.alloc (.cells (itC (adm (91 :: ((c :: m) ++ [93])))) 45)).alloc (.cells (itC (adm (91 :: ((c :: m) ++ [93])))) 45)) := fun W => by
    have h := only_set (c :: m) W hml
    rw [set_in hc] at h
    exact h
  obtain ⟨hz0, hs0⟩ := first_byte h
  have hz : 1 ≤ s.size := hz0
  have he := rest_str h
  have hne := str_ne (l := c :: m) (by simp)
  unfold maxLen at hs
  clear h hlen hsl htl hml hm h93 hc
  generalize adm (91 :: ((c :: m) ++ [93])) = f at *
  generalize str (c :: m) = I at *
  generalize str (t.dropWhile (· != 93)).tail = R at *
  have HD := hide (cells_four f)
  generalize itC f = C at *
  obtain ⟨x0, x1, x2, x3, rfl⟩ := unhide HD
  clear HD
  go_enter Try.func24, Try.ntmps24
  go_wp2_with (first | (go_at_call 31; refine (unhide HC _).mono ?_; rintro e W1 ⟨rfl, q1, rfl⟩) | (go_at_call 17; refine (unhide HP _).mono ?_; rintro e W1 ⟨rfl, rfl⟩) | (go_at_call 29; refine (unhide HO _).mono ?_; rintro e W1 ⟨rfl, rfl⟩))
  refine bodyPost_ret (v := .tuple #[.agg #[.int .u64 x0, .int .u64 x1, .int .u64 x2, .int .u64 x3], .string R, .bool true]) (by simp [results, Try.results24, go_sem]) rfl ⟨rfl, ?_⟩
  have B0 := below_drewN ((Below.refl w.heap.size w).alloc (Nat.le_refl _) (.cells #[.int .u64 0, .int .u64 0, .int .u64 0, .int .u64 0] 45)) q1
  exact (((((B0.setCell (Nat.le_refl _) _).setCell (Nat.le_refl _) _).setCell (Nat.le_refl _) _).setCell (Nat.le_refl _) _).alloc (by simp) _).alloc (by simp <;> omega) _

set_option maxHeartbeats 1000000 in
set_option maxRecDepth 100000 in
theorem cut_bad (s : ByteArray) (t : List UInt8) (I R L : ByteArray) (cl tu : Bool) (w : World) (hs : s.size ≤ maxLen) (h : s.data.toList = 91 :: t)
    (HC : Hid (∀ W, Calls Try.prog 31 #[.string (str t), .string ⟨#[93]⟩] W fun e w' => e = .returned (.tuple #[.string I, .string R, .bool cl]) ∧ ∃ q, w' = W.drewN q))
    (HP : Hid (∀ W, Calls Try.prog 17 #[.string I, .string ⟨#[94]⟩] W fun e w' => e = .returned (.tuple #[.string L, .bool tu]) ∧ w' = W))
    (hb : cl = false ∨ (cl = true ∧ L.toList.isEmpty = true)) :
    Calls Try.prog 24 #[.string s] w fun e w' => e = .returned (.tuple #[.agg #[.int .u64 0, .int .u64 0, .int .u64 0, .int .u64 0], .string ⟨#[]⟩, .bool false]) ∧ Below w.heap.size w w' := by
  obtain ⟨hz0, hs0⟩ := first_byte h
  have hz : 1 ≤ s.size := hz0
  have he := rest_str h
  unfold maxLen at hs
  clear h
  rcases hb with rfl | ⟨rfl, hL⟩
  all_goals
    go_enter Try.func24, Try.ntmps24
    go_wp2_with (first | (go_at_call 31; refine (unhide HC _).mono ?_; rintro e W1 ⟨rfl, q1, rfl⟩) | (go_at_call 17; refine (unhide HP _).mono ?_; rintro e W1 ⟨rfl, rfl⟩))
    refine bodyPost_ret (v := .tuple #[.agg #[.int .u64 0, .int .u64 0, .int .u64 0, .int .u64 0], .string ⟨#[]⟩, .bool false]) (by simp [results, Try.results24, go_sem]) rfl ⟨rfl, ?_⟩
    have B0 := below_drewN ((Below.refl w.heap.size w).alloc (Nat.le_refl _) (.cells #[.int .u64 0, .int .u64 0, .int .u64 0, .int .u64 0] 45)) q1
    exact (((B0.setCell (Nat.le_refl _) _).setCell (Nat.le_refl _) _).setCell (Nat.le_refl _) _).setCell (Nat.le_refl _) _

theorem empty_is : (⟨#[]⟩ : ByteArray).toList.isEmpty = true := by rw [ByteArray.toList_eq]; rfl
/-- what cut answers -/
def cutV : Option (List UInt8 × List UInt8) → Value
  | none => .tuple #[.agg #[.int .u64 0, .int .u64 0, .int .u64 0, .int .u64 0], .string ⟨#[]⟩, .bool false]
  | some (p, r) => .tuple #[.agg (itC (adm p)), .string (str r), .bool true]
theorem dw_none {t : List UInt8} (h : 93 ∉ t) : t.dropWhile (· != 93) = [] := by
  induction t with
  | nil => rfl
  | cons a t ih =>
    simp only [List.mem_cons, not_or] at h
    have ha : (a != 93) = true := by simp; exact fun e => h.1 e.symm
    rw [List.dropWhile_cons, if_pos ha, ih h.2]
theorem dw_some {t : List UInt8} (h : 93 ∈ t) : ∃ r, t.dropWhile (· != 93) = 93 :: r := by
  induction t with
  | nil => simp at h
  | cons a t ih =>
    rw [List.dropWhile_cons]
    split
    · rename_i ha
      refine ih ((List.mem_cons.1 h).resolve_left fun e => ?_)
      rw [← e] at ha
      simp at ha
    · rename_i ha
      have : a = 93 := by simpa using ha
      exact ⟨t, by rw [this]⟩
theorem cut_any (s : ByteArray) (w : World) (hs : s.size ≤ maxLen) (h0 : s.data.toList ≠ []) :
    Calls Try.prog 24 #[.string s] w fun e w' => e = .returned (cutV (cut1 s.data.toList)) ∧ Below w.heap.size w w' := by
  cases h : s.data.toList with
  | nil => exact absurd h h0
  | cons c t =>
    have hlen := congrArg List.length h
    simp only [List.length_cons] at hlen
    have hsl : s.data.toList.length = s.size := by simp
    have htl : t.length ≤ maxLen := by omega
    by_cases h91 : c = 91
    · subst h91
      by_cases h93 : 93 ∈ t
      · obtain ⟨r, hr⟩ := dw_some h93
        have hY := fun W => cut_yes (str t) 93 W (by rw [str_size]; exact htl) (by rw [str_list]; exact h93)
        rw [str_list] at hY
        have h3 := tw_len t
        cases hm : t.takeWhile (· != 93) with
        | nil =>
          have e : cut1 (91 :: t) = none := by simp [cut1, hm, hr]
          rw [e]
          rw [hm] at hY
          exact cut_bad s t _ _ _ true false w hs h (hide hY) (hide fun W => prefix_nil 94 W) (.inr ⟨rfl, empty_is⟩)
        | cons d m =>
          rw [hm] at hY h3
          by_cases h94 : d = 94
          · subst h94
            cases m with
            | nil =>
              have e : cut1 (91 :: t) = none := by simp [cut1, hm, hr]
              rw [e]
              exact cut_bad s t _ _ _ true true w hs h (hide hY) (hide fun W => prefix_yes (str [94]) 94 [] W (by decide) rfl) (.inr ⟨rfl, empty_is⟩)
            | cons a m =>
              have e : cut1 (91 :: t) = some (91 :: ((94 :: a :: m) ++ [93]), (t.dropWhile (· != 93)).tail) := by simp [cut1, hm, hr]
              rw [e]
              exact cut_out s t (a :: m) w hs h h93 hm (by simp)
          · have e : cut1 (91 :: t) = some (91 :: ((d :: m) ++ [93]), (t.dropWhile (· != 93)).tail) := by simp [cut1, hm, hr, h94]
            rw [e]
            exact cut_in s t m d w hs h h93 hm h94
      · have e : cut1 (91 :: t) = none := by simp [cut1, dw_none h93]
        rw [e]
        have hN := fun W => cut_no (str t) 93 W (by rw [str_list]; exact h93)
        cases t with
        | nil => exact cut_bad s [] _ _ _ false false w hs h (hide hN) (hide fun W => prefix_nil 94 W) (.inl rfl)
        | cons d m =>
          by_cases h94 : d = 94
          · subst h94
            exact cut_bad s _ _ _ _ false true w hs h (hide hN) (hide fun W => prefix_yes (str (94 :: m)) 94 m W (by rw [str_size]; exact htl) (str_list _)) (.inl rfl)
          · exact cut_bad s _ _ _ _ false false w hs h (hide hN) (hide fun W => prefix_no (str (d :: m)) 94 d m W (by rw [str_size]; exact htl) (str_list _) h94) (.inl rfl)
    · have e : cut1 (c :: t) = some ([c], t) := by simp [cut1, h91]
      rw [e]
      by_cases h46 : c = 46
      · subst h46
        exact cut_dot s t w hs h
      · exact cut_plain s c t w hs h h46 h91
end Pt
end Go.Proofs.Ytjcchogilbekoab
