/- Contract: cond.cut at a plain byte. -/
import Derived.Test.YtkefjaifaonlbaaGreatDoorGz11
import Derived.Laws.CopyRow
import Derived.Laws.CopyOwn
import Derived.Deep.WholeRow
import Derived.Laws.AppendOwn
namespace Go.Proofs.YtkefjaifaonlbaaGreatDoor
open Go.RowKit
namespace Pt
open Cd


set_option maxHeartbeats 1000000 in
set_option maxRecDepth 100000 in
theorem cut_plain (s : ByteArray) (c : UInt8) (l : List UInt8) (w : World) (hs : s.size ≤ maxLen) (h : s.data.toList = c :: l) (h46 : c ≠ 46) (h91 : c ≠ 91) :
    Calls Tryz.prog 151 #[.string s] w fun e w' => e = .returned (.tuple #[.agg (itC (adm [c])), .string (str l), .bool true]) ∧ Below w.heap.size w w' := by
  unfold maxLen at hs
  obtain ⟨hz0, hs0⟩ := first_byte h
  have hz : 1 ≤ s.size := hz0
  have HE := hide (rest_str h)
  have he : s.extract 0 1 = ⟨#[c]⟩ := by rw [extract_str, h]; rfl
  have HO : Hid (∀ W, Calls Tryz.prog 154 #[.string ⟨#[c]⟩] W fun e w' => e = .returned (.agg (itC (adm [c]))) ∧ w' = (W.alloc (.cells (itC (adm [c])) 195)).alloc (.cells (itC (adm [c])) 195)) := fun W => by
    rw [← set_one h46]
    exact only_any ⟨#[c]⟩ W (by show 1 ≤ maxLen; decide)
  have h1 := ne_int h46
  have h2 := ne_int h91
  simp only [show ((46 : UInt8).toNat : Int) = 46 from rfl, show ((91 : UInt8).toNat : Int) = 91 from rfl] at h1 h2
  clear h h46 h91
  generalize str l = T at *
  have HD := hide (cells_four (adm [c]))
  generalize itC (adm [c]) = C at *
  obtain ⟨x0, x1, x2, x3, rfl⟩ := unhide HD
  clear HD
  go_enter Tryz.func151, Tryz.ntmps151
  go_wp2
  go_region_with (go_at_call 154; refine (unhide HO _).mono ?_; rintro e W1 ⟨rfl, rfl⟩)
  all_goals go_wp2
  all_goals refine bodyPost_ret (v := .tuple #[.agg #[.int .u64 x0, .int .u64 x1, .int .u64 x2, .int .u64 x3], .string (s.extract 1 s.size), .bool true]) (by simp [results, Tryz.results151, go_sem]) rfl ⟨ret_cut rfl (unhide HE), ?_⟩
  all_goals repeat (first | exact Below.refl _ _ | refine Below.drew ?_ | refine Below.alloc ?_ (by simp <;> omega) _)
end Pt
end Go.Proofs.YtkefjaifaonlbaaGreatDoor
/- Contract: cond.cut at a bracket. -/
namespace Go.Proofs.YtkefjaifaonlbaaGreatDoor
open Go.RowKit
namespace Pt
open Cd

theorem str_ne {l : List UInt8} (h : l ≠ []) : (str l).toList.isEmpty = false := by
  rw [ByteArray.toList_eq, str_list]
  cases l with
  | nil => exact absurd rfl h
  | cons a t => rfl
theorem tw_len (t : List UInt8) : (t.takeWhile (· != 93)).length ≤ t.length := (List.takeWhile_sublist _).length_le

set_option maxHeartbeats 1000000 in
set_option maxRecDepth 100000 in
theorem cut_out (s : ByteArray) (t m : List UInt8) (w : World) (hs : s.size ≤ maxLen) (h : s.data.toList = 91 :: t) (h93 : 93 ∈ t) (hm : t.takeWhile (· != 93) = 94 :: m) (hm0 : m ≠ []) :
    Calls Tryz.prog 151 #[.string s] w fun e w' => e = .returned (.tuple #[.agg (itC (adm (91 :: ((94 :: m) ++ [93])))), .string (str (t.dropWhile (· != 93)).tail), .bool true]) ∧ Below w.heap.size w w' := by
  have hlen := congrArg List.length h
  simp only [List.length_cons] at hlen
  have hsl : s.data.toList.length = s.size := by simp
  have htl : t.length ≤ maxLen := by omega
  have hml : m.length ≤ maxLen := by
    have h2 := congrArg List.length hm
    have h3 := tw_len t
    simp only [List.length_cons] at h2
    omega
  have HC : Hid (∀ W, Calls Tryz.prog 119 #[.string (str t), .string ⟨#[93]⟩] W fun e w' => e = .returned (.tuple #[.string (str (94 :: m)), .string (str (t.dropWhile (· != 93)).tail), .bool true]) ∧ ∃ q, w' = W.drewN q) := fun W => by
    have := cut_yes (str t) 93 W (by rw [str_size]; exact htl) (by rw [str_list]; exact h93)
    rw [str_list, hm] at this
    exact this
  have HP : Hid (∀ W, Calls Tryz.prog 156 #[.string (str (94 :: m)), .string ⟨#[94]⟩] W fun e w' => e = .returned (.tuple #[.string (str m), .bool true]) ∧ w' = W) := fun W => prefix_yes (str (94 :: m)) 94 m W (by rw [str_size]; have h3 := tw_len t; rw [hm] at h3; omega) (str_list _)
  have HO : Hid (∀ W, Calls Tryz.prog 154 #[.string (str m)] W fun e w' => e = .returned (.agg (itC (setOf m))) ∧ w' = (W.alloc (.cells (itC (setOf m)) 195)).alloc (.cells (itC (setOf m)) 195)) := fun W => only_set m W hml
  have HT : Hid (∀ W, Calls Tryz.prog 155 #[.agg (itC (setOf m))] W fun e w' => e = .returned (.agg (itC (adm (91 :: ((94 :: m) ++ [93]))))) ∧ w' = (W.alloc (.cells (itC (adm (91 :: ((94 :: m) ++ [93])))) 195)).alloc (.cells (itC (adm (91 :: ((94 :: m) ++ [93])))) 195)) := fun W => by
    have h := others_any (setOf m) W
    rw [set_out] at h
    exact h
  obtain ⟨hz0, hs0⟩ := first_byte h
  have hz : 1 ≤ s.size := hz0
  have he := rest_str h
  have hne := str_ne hm0
  unfold maxLen at hs
  clear h hlen hsl htl hml hm h93 hm0
  generalize itC (setOf m) = C0 at *
  generalize adm (91 :: ((94 :: m) ++ [93])) = f at *
  generalize str m = M at *
  generalize str (94 :: m) = I at *
  generalize str (t.dropWhile (· != 93)).tail = R at *
  have HD := hide (cells_four f)
  generalize itC f = C at *
  obtain ⟨x0, x1, x2, x3, rfl⟩ := unhide HD
  clear HD
  go_enter Tryz.func151, Tryz.ntmps151
  go_wp2_with (first | (go_at_call 119; refine (unhide HC _).mono ?_; rintro e W1 ⟨rfl, q1, rfl⟩) | (go_at_call 156; refine (unhide HP _).mono ?_; rintro e W1 ⟨rfl, rfl⟩) | (go_at_call 154; refine (unhide HO _).mono ?_; rintro e W1 ⟨rfl, rfl⟩) | (go_at_call 155; refine (unhide HT _).mono ?_; rintro e W1 ⟨rfl, rfl⟩))
  refine bodyPost_ret (v := .tuple #[.agg #[.int .u64 x0, .int .u64 x1, .int .u64 x2, .int .u64 x3], .string R, .bool true]) (by simp [results, Tryz.results151, go_sem]) rfl ⟨rfl, ?_⟩
  have B0 := below_drewN ((Below.refl w.heap.size w).alloc (Nat.le_refl _) (.cells #[.int .u64 0, .int .u64 0, .int .u64 0, .int .u64 0] 195)) q1
  exact (((((((B0.setCell (Nat.le_refl _) _).setCell (Nat.le_refl _) _).setCell (Nat.le_refl _) _).setCell (Nat.le_refl _) _).alloc (by simp) _).alloc (by simp <;> omega) _).alloc (by simp <;> omega) _).alloc (by simp <;> omega) _
end Pt
end Go.Proofs.YtkefjaifaonlbaaGreatDoor
/- Contract: cond.cut: the first item of a text that isn't empty, and what stands behind it. -/
namespace Go.Proofs.YtkefjaifaonlbaaGreatDoor
open Go.RowKit
namespace Pt
open Cd

set_option maxHeartbeats 1000000 in
set_option maxRecDepth 100000 in
theorem cut_in (s : ByteArray) (t m : List UInt8) (c : UInt8) (w : World) (hs : s.size ≤ maxLen) (h : s.data.toList = 91 :: t) (h93 : 93 ∈ t) (hm : t.takeWhile (· != 93) = c :: m) (hc : c ≠ 94) :
    Calls Tryz.prog 151 #[.string s] w fun e w' => e = .returned (.tuple #[.agg (itC (adm (91 :: ((c :: m) ++ [93])))), .string (str (t.dropWhile (· != 93)).tail), .bool true]) ∧ Below w.heap.size w w' := by
  have hlen := congrArg List.length h
  simp only [List.length_cons] at hlen
  have hsl : s.data.toList.length = s.size := by simp
  have htl : t.length ≤ maxLen := by omega
  have hml : (c :: m).length ≤ maxLen := by
    have h3 := tw_len t
    rw [hm] at h3
    omega
  have HC : Hid (∀ W, Calls Tryz.prog 119 #[.string (str t), .string ⟨#[93]⟩] W fun e w' => e = .returned (.tuple #[.string (str (c :: m)), .string (str (t.dropWhile (· != 93)).tail), .bool true]) ∧ ∃ q, w' = W.drewN q) := fun W => by
    have := cut_yes (str t) 93 W (by rw [str_size]; exact htl) (by rw [str_list]; exact h93)
    rw [str_list, hm] at this
    exact this
  have HP : Hid (∀ W, Calls Tryz.prog 156 #[.string (str (c :: m)), .string ⟨#[94]⟩] W fun e w' => e = .returned (.tuple #[.string (str (c :: m)), .bool false]) ∧ w' = W) := fun W => prefix_no (str (c :: m)) 94 c m W (by rw [str_size]; exact hml) (str_list _) hc
  have HO : Hid (∀ W, Calls Tryz.prog 154 #[.string (str (c :: m))] W fun e w' => e = .returned (.agg (itC (adm (91 :: ((c :: m) ++ [93]))))) ∧ w' = (W.alloc (.cells (itC (adm (91 :: ((c :: m) ++ [93])))) 195)).alloc (.cells (itC (adm (91 :: ((c :: m) ++ [93])))) 195)) := fun W => by
    have h := only_set (c :: m) W hml
    rw [set_in hc] at h
    exact h
  obtain ⟨hz0, hs0⟩ := first_byte h
  have hz : 1 ≤ s.size := hz0
  have he := rest_str h
  have hne := str_ne (l := c :: m) (by simp)
  unfold maxLen at hs
  clear h hlen hsl htl hml hm h93 hc
  generalize adm (91 :: ((c :: m) ++ [93])) = f at *
  generalize str (c :: m) = I at *
  generalize str (t.dropWhile (· != 93)).tail = R at *
  have HD := hide (cells_four f)
  generalize itC f = C at *
  obtain ⟨x0, x1, x2, x3, rfl⟩ := unhide HD
  clear HD
  go_enter Tryz.func151, Tryz.ntmps151
  go_wp2_with (first | (go_at_call 119; refine (unhide HC _).mono ?_; rintro e W1 ⟨rfl, q1, rfl⟩) | (go_at_call 156; refine (unhide HP _).mono ?_; rintro e W1 ⟨rfl, rfl⟩) | (go_at_call 154; refine (unhide HO _).mono ?_; rintro e W1 ⟨rfl, rfl⟩))
  refine bodyPost_ret (v := .tuple #[.agg #[.int .u64 x0, .int .u64 x1, .int .u64 x2, .int .u64 x3], .string R, .bool true]) (by simp [results, Tryz.results151, go_sem]) rfl ⟨rfl, ?_⟩
  have B0 := below_drewN ((Below.refl w.heap.size w).alloc (Nat.le_refl _) (.cells #[.int .u64 0, .int .u64 0, .int .u64 0, .int .u64 0] 195)) q1
  exact (((((B0.setCell (Nat.le_refl _) _).setCell (Nat.le_refl _) _).setCell (Nat.le_refl _) _).setCell (Nat.le_refl _) _).alloc (by simp) _).alloc (by simp <;> omega) _

set_option maxHeartbeats 1000000 in
set_option maxRecDepth 100000 in
theorem cut_bad (s : ByteArray) (t : List UInt8) (I R L : ByteArray) (cl tu : Bool) (w : World) (hs : s.size ≤ maxLen) (h : s.data.toList = 91 :: t)
    (HC : Hid (∀ W, Calls Tryz.prog 119 #[.string (str t), .string ⟨#[93]⟩] W fun e w' => e = .returned (.tuple #[.string I, .string R, .bool cl]) ∧ ∃ q, w' = W.drewN q))
    (HP : Hid (∀ W, Calls Tryz.prog 156 #[.string I, .string ⟨#[94]⟩] W fun e w' => e = .returned (.tuple #[.string L, .bool tu]) ∧ w' = W))
    (hb : cl = false ∨ (cl = true ∧ L.toList.isEmpty = true)) :
    Calls Tryz.prog 151 #[.string s] w fun e w' => e = .returned (.tuple #[.agg #[.int .u64 0, .int .u64 0, .int .u64 0, .int .u64 0], .string ⟨#[]⟩, .bool false]) ∧ Below w.heap.size w w' := by
  obtain ⟨hz0, hs0⟩ := first_byte h
  have hz : 1 ≤ s.size := hz0
  have he := rest_str h
  unfold maxLen at hs
  clear h
  rcases hb with rfl | ⟨rfl, hL⟩
  all_goals
    go_enter Tryz.func151, Tryz.ntmps151
    go_wp2_with (first | (go_at_call 119; refine (unhide HC _).mono ?_; rintro e W1 ⟨rfl, q1, rfl⟩) | (go_at_call 156; refine (unhide HP _).mono ?_; rintro e W1 ⟨rfl, rfl⟩))
    refine bodyPost_ret (v := .tuple #[.agg #[.int .u64 0, .int .u64 0, .int .u64 0, .int .u64 0], .string ⟨#[]⟩, .bool false]) (by simp [results, Tryz.results151, go_sem]) rfl ⟨rfl, ?_⟩
    have B0 := below_drewN ((Below.refl w.heap.size w).alloc (Nat.le_refl _) (.cells #[.int .u64 0, .int .u64 0, .int .u64 0, .int .u64 0] 195)) q1
    exact (((B0.setCell (Nat.le_refl _) _).setCell (Nat.le_refl _) _).setCell (Nat.le_refl _) _).setCell (Nat.le_refl _) _

theorem empty_is : (⟨#[]⟩ : ByteArray).toList.isEmpty = true := by rw [ByteArray.toList_eq]; rfl
/-- what cut answers -/
def cutV : Option (List UInt8 × List UInt8) → Value
  | none => .tuple #[.agg #[.int .u64 0, .int .u64 0, .int .u64 0, .int .u64 0], .string ⟨#[]⟩, .bool false]
  | some (p, r) => .tuple #[.agg (itC (adm p)), .string (str r), .bool true]
theorem dw_none {t : List UInt8} (h : 93 ∉ t) : t.dropWhile (· != 93) = [] := by
  induction t with
  | nil => rfl
  | cons a t ih =>
    simp only [List.mem_cons, not_or] at h
    have ha : (a != 93) = true := by simp; exact fun e => h.1 e.symm
    rw [List.dropWhile_cons, if_pos ha, ih h.2]
theorem dw_some {t : List UInt8} (h : 93 ∈ t) : ∃ r, t.dropWhile (· != 93) = 93 :: r := by
  induction t with
  | nil => simp at h
  | cons a t ih =>
    rw [List.dropWhile_cons]
    split
    · rename_i ha
      refine ih ((List.mem_cons.1 h).resolve_left fun e => ?_)
      rw [← e] at ha
      simp at ha
    · rename_i ha
      have : a = 93 := by simpa using ha
      exact ⟨t, by rw [this]⟩
theorem cut_any (s : ByteArray) (w : World) (hs : s.size ≤ maxLen) (h0 : s.data.toList ≠ []) :
    Calls Tryz.prog 151 #[.string s] w fun e w' => e = .returned (cutV (cut1 s.data.toList)) ∧ Below w.heap.size w w' := by
  cases h : s.data.toList with
  | nil => exact absurd h h0
  | cons c t =>
    have hlen := congrArg List.length h
    simp only [List.length_cons] at hlen
    have hsl : s.data.toList.length = s.size := by simp
    have htl : t.length ≤ maxLen := by omega
    by_cases h91 : c = 91
    · subst h91
      by_cases h93 : 93 ∈ t
      · obtain ⟨r, hr⟩ := dw_some h93
        have hY := fun W => cut_yes (str t) 93 W (by rw [str_size]; exact htl) (by rw [str_list]; exact h93)
        rw [str_list] at hY
        have h3 := tw_len t
        cases hm : t.takeWhile (· != 93) with
        | nil =>
          have e : cut1 (91 :: t) = none := by simp [cut1, hm, hr]
          rw [e]
          rw [hm] at hY
          exact cut_bad s t _ _ _ true false w hs h (hide hY) (hide fun W => prefix_nil 94 W) (.inr ⟨rfl, empty_is⟩)
        | cons d m =>
          rw [hm] at hY h3
          by_cases h94 : d = 94
          · subst h94
            cases m with
            | nil =>
              have e : cut1 (91 :: t) = none := by simp [cut1, hm, hr]
              rw [e]
              exact cut_bad s t _ _ _ true true w hs h (hide hY) (hide fun W => prefix_yes (str [94]) 94 [] W (by decide) rfl) (.inr ⟨rfl, empty_is⟩)
            | cons a m =>
              have e : cut1 (91 :: t) = some (91 :: ((94 :: a :: m) ++ [93]), (t.dropWhile (· != 93)).tail) := by simp [cut1, hm, hr]
              rw [e]
              exact cut_out s t (a :: m) w hs h h93 hm (by simp)
          · have e : cut1 (91 :: t) = some (91 :: ((d :: m) ++ [93]), (t.dropWhile (· != 93)).tail) := by simp [cut1, hm, hr, h94]
            rw [e]
            exact cut_in s t m d w hs h h93 hm h94
      · have e : cut1 (91 :: t) = none := by simp [cut1, dw_none h93]
        rw [e]
        have hN := fun W => cut_no (str t) 93 W (by rw [str_list]; exact h93)
        cases t with
        | nil => exact cut_bad s [] _ _ _ false false w hs h (hide hN) (hide fun W => prefix_nil 94 W) (.inl rfl)
        | cons d m =>
          by_cases h94 : d = 94
          · subst h94
            exact cut_bad s _ _ _ _ false true w hs h (hide hN) (hide fun W => prefix_yes (str (94 :: m)) 94 m W (by rw [str_size]; exact htl) (str_list _)) (.inl rfl)
          · exact cut_bad s _ _ _ _ false false w hs h (hide hN) (hide fun W => prefix_no (str (d :: m)) 94 d m W (by rw [str_size]; exact htl) (str_list _) h94) (.inl rfl)
    · have e : cut1 (c :: t) = some ([c], t) := by simp [cut1, h91]
      rw [e]
      by_cases h46 : c = 46
      · subst h46
        exact cut_dot s t w hs h
      · exact cut_plain s c t w hs h h46 h91
end Pt
end Go.Proofs.YtkefjaifaonlbaaGreatDoor
/- Contract: cond.patternOf: the items of a list, or too many. -/
namespace Go.Proofs.YtkefjaifaonlbaaGreatDoor
open Go.RowKit
namespace Pt
open Cd

/-- the cells of items, one behind the other -/
def flatC (fs : List (UInt8 → Bool)) : List Value := fs.flatMap fun f => (itC f).toList
def zeroP : List Value := List.replicate 64 (.int .u64 0)
/-- the cells of a pattern -/
def patC (fs : List (UInt8 → Bool)) : Array Value := (Value.int .i64 fs.length :: (flatC fs ++ zeroP.drop (flatC fs).length)).toArray

theorem zero_pat (w : World) : (zeroValue 198).run Tryz.prog w = .ok (.agg (patC [])) w := by kernel_rfl
theorem flatC_len (fs : List (UInt8 → Bool)) : (flatC fs).length = fs.length * 4 := by
  induction fs with
  | nil => rfl
  | cons f t ih =>
    unfold flatC at *
    rw [List.flatMap_cons, List.length_append, ih, List.length_cons]
    simp [itC]
    omega
theorem flatC_one (fs : List (UInt8 → Bool)) : ∀ u ∈ flatC fs, u.oneCell' = true := by
  intro u hu
  obtain ⟨f, _, h⟩ := List.mem_flatMap.1 hu
  simp [itC] at h
  rcases h with rfl | rfl | rfl | rfl <;> rfl
theorem patC_size (fs : List (UInt8 → Bool)) (h : fs.length ≤ 16) : (patC fs).size = 65 := by
  have := flatC_len fs
  simp [patC, zeroP]
  omega
theorem patC_one (fs : List (UInt8 → Bool)) : (patC fs).all (·.oneCell') = true := by
  rw [Array.all_eq_true]
  intro i hi
  have hm : (patC fs)[i] ∈ (patC fs).toList := by simp
  generalize (patC fs)[i] = u at *
  simp only [patC, List.mem_cons, List.mem_append] at hm
  rcases hm with rfl | h | h
  · rfl
  · exact flatC_one fs u h
  · have := List.mem_of_mem_drop h
    rw [zeroP, List.mem_replicate] at this
    rw [this.2]
    rfl
/-- items in memory -/
def ItemsAt (W : World) (v : Value) (fs : List (UInt8 → Bool)) : Prop :=
  (v = .slice none 0 0 ∧ fs = []) ∨ ∃ g cap, v = .slice (some ⟨g, 0, none⟩) fs.length cap ∧ g < W.heap.size ∧ ∀ j u, (flatC fs)[j]? = some u → W.cell? ⟨g, j, none⟩ = some u
theorem ItemsAt.below {W W' : World} {v : Value} {fs : List (UInt8 → Bool)} (h : ItemsAt W v fs) (hb : Below W.heap.size W W') : ItemsAt W' v fs := by
  rcases h with h | ⟨g, cap, h1, h2, h3⟩
  · exact .inl h
  · exact .inr ⟨g, cap, h1, Nat.lt_of_lt_of_le h2 hb.size, fun j u hu => (hb.cell (p := ⟨g, j, none⟩) h2).trans (h3 j u hu)⟩
/-- what copy leaves in the pattern's items -/
def copied (Z : Array Value) (cs : List Value) : Array Value := (Z.toList.take 1 ++ cs ++ Z.toList.drop (1 + cs.length)).toArray
theorem add_off (g j : Nat) : (⟨g, 0, none⟩ : Addr).add j = ⟨g, j, none⟩ := by unfold Addr.add; split <;> simp_all
theorem infoI : (Tryz.prog.info? 195).map (·.size) = some 4 := by kernel_rfl
theorem copy_run (w : World) (ty : TypeId) (g dCap : Nat) (v : Value) (cur : Array Value) (t : TypeId) (fs : List (UInt8 → Bool)) (hfs : fs.length ≤ 16)
    (hg : w.heap[g]? = some (.cells cur t (0, 0))) (hc : cur.size = 65) (hv : ItemsAt w v fs) :
    (Builtin.copy_ #[209, 209] ty #[.slice (some ⟨g, 1, none⟩) 16 dCap, v]).run Tryz.prog w = .ok (goInt fs.length) (w.setRow g (copied cur (flatC fs))) := by
  have hlen := flatC_len fs
  have hst := run_storeCells_at Tryz.prog g 1 t (flatC fs) 0 cur w hg (by omega) (flatC_one fs)
  obtain ⟨i, hq, hi⟩ := Option.map_eq_some_iff.1 infoI
  have hu := Tryz.underlying209
  rcases hv with ⟨rfl, rfl⟩ | ⟨gs, cap, rfl, _, hcell⟩
  · simp [Builtin.copy_, run_underlying hu, Builtin.lenOf, Builtin.firstCells, sizeOf, typeInfo, hq, storeCells, copied, flatC]
    rw [← List.drop_one, List.take_append_drop, Array.toArray_toList, setRow_self w g cur t (0, 0) hg]
  · have hl := run_loadCells_list (P := Tryz.prog) w ⟨gs, 0, none⟩ (flatC fs) (fun j u h => by rw [add_off]; exact hcell j u h)
    rw [hlen] at hl
    have hmin : min fs.length 16 = fs.length := by omega
    simp [Builtin.copy_, run_underlying hu, Builtin.lenOf, Builtin.firstCells, sizeOf, typeInfo, hq, hi, hmin, hl, hst, copied]
theorem copied_set (fs : List (UInt8 → Bool)) : (copied (patC []) (flatC fs)).setIfInBounds 0 (.int .i64 fs.length) = patC fs := by
  apply Array.toList_inj.1
  simp [copied, patC, flatC, Nat.add_comm 1]
theorem infoP : (Tryz.prog.info? 198).map (·.size) = some 65 := by kernel_rfl
theorem load_pat (w : World) (g : Nat) (cur : Array Value) (t : TypeId) (hg : w.heap[g]? = some (.cells cur t (0, 0))) (hc : cur.size = 65) : (loadCellsFrom ⟨g, 0, none⟩ 0 65 #[]).run Tryz.prog w = .ok cur w := by
  have hl := run_loadCells_list (P := Tryz.prog) w ⟨g, 0, none⟩ cur.toList (fun j v hv => by
    rw [add_off, cell_of_row w g j cur t (0, 0) hg]
    simpa using hv)
  simp only [Array.length_toList, Array.toArray_toList, hc] at hl
  simpa [loadCells] using hl
theorem store_pat (w : World) (g : Nat) (cur new : Array Value) (t : TypeId) (hg : w.heap[g]? = some (.cells cur t (0, 0))) (hc : cur.size = 65) (hn : new.size = 65) (h1 : new.all (·.oneCell') = true) : (storeCells ⟨g, 0, none⟩ new.toList 0).run Tryz.prog w = .ok () (w.setRow g new) := by
  have h := run_storeCells_at Tryz.prog g 0 t new.toList 0 cur w hg (by simp; omega) (fun v hv => by
    rw [Array.all_eq_true] at h1
    obtain ⟨i, hi, rfl⟩ := List.getElem_of_mem hv
    exact h1 i (by simpa using hi))
  rw [h]
  have : cur.toList.drop (0 + 0 + new.toList.length) = [] := List.drop_of_length_le (by simp; omega)
  rw [this, List.append_nil, List.take_zero, List.nil_append, Array.toArray_toList]
theorem setRow_last (W : World) (c c' : Array Value) (t : TypeId) : (W.alloc (.cells c t)).setRow W.heap.size c' = W.alloc (.cells c' t) := World.setRow_alloc_new W c c' t
theorem CopyOwnB {B : Nat} {w W : World} (h : Below B w W) (Z X : Array Value) (hB : B ≤ W.heap.size) : Below B w (((W.alloc (.cells Z 198)).alloc (.cells X 198)).setRow W.heap.size X) := below_setRow ((h.alloc hB _).alloc (by simp; omega) _) hB X
theorem ret_pat {fn : Func} {p u : Tmp} (h : fn.results = #[.cell p 198, .tmp u]) (tmps : Array Value) (w : World) (g : Nat) (cur : Array Value) (t : TypeId) (hp : tmps.getD p undef = .pointer (some ⟨g, 0, none⟩)) (hg : w.heap[g]? = some (.cells cur t (0, 0))) (hc : cur.size = 65) :
    (results fn tmps).run Tryz.prog w = .ok (.tuple #[.agg cur, tmps.getD u undef]) w := by
  have hl := run_loadVar_row (P := Tryz.prog) w g t 198 cur (0, 0) _ hg Tryz.underlying198 rfl (by rw [hc]; exact infoP)
  rw [results_cell_tmp h, hp]
  simp [asAddr, Result.andThen, hl]

set_option maxHeartbeats 1000000 in
set_option maxRecDepth 100000 in
theorem patternOf_many (v : Value) (n cap : Nat) (a : Option Addr) (w : World) (hn : 16 < n) (hv : v = .slice a n cap) :
    Calls Tryz.prog 152 #[v] w fun e w' => e = .returned (.tuple #[.agg (patC []), .int .i64 42]) ∧ Below w.heap.size w w' := by
  subst hv
  have hnz : (16 : Int) < (n : Int) := by omega
  have hz := zero_pat
  have hs := patC_size [] (by decide)
  have h1 := patC_one []
  generalize patC [] = Z at *
  have hg := heap_alloc_last w (.cells Z 198)
  have hl := load_pat _ _ _ _ hg hs
  have hst := store_pat _ _ _ _ _ hg hs hs h1
  rw [setRow_last] at hst
  have HL := hide hl
  clear h1 hg hl
  go_enter Tryz.func152, Tryz.ntmps152
  go_wp2
  refine bodyPost_ret (ret_pat rfl _ _ w.heap.size Z _ rfl (heap_alloc_last w _) hs) rfl ⟨rfl, ?_⟩
  exact (Below.refl _ w).alloc (Nat.le_refl _) _
set_option maxHeartbeats 1000000 in
set_option maxRecDepth 100000 in
theorem patternOf_few (v : Value) (fs : List (UInt8 → Bool)) (w : World) (hn : fs.length ≤ 16) (hv : ItemsAt w v fs) :
    Calls Tryz.prog 152 #[v] w fun e w' => e = .returned (.tuple #[.agg (patC fs), .int .i64 0]) ∧ Below w.heap.size w w' := by
  have hz := zero_pat
  have hs := patC_size [] (by decide)
  have hsX := patC_size fs hn
  have hX1 := patC_one fs
  have hset := copied_set fs
  have hY0 : (copied (patC []) (flatC fs))[0]? = some (.int .i64 0) := by simp [copied, patC]
  have hsl : ∃ a cap, v = .slice a fs.length cap := by
    rcases hv with ⟨rfl, rfl⟩ | ⟨g, cap, rfl, _⟩
    · exact ⟨none, 0, rfl⟩
    · exact ⟨_, cap, rfl⟩
  generalize patC [] = Z at *
  generalize patC fs = X at *
  have hg0 := heap_alloc2_new w (.cells Z 198) (.cells Z 198)
  have B2 := ((Below.refl _ w).alloc (Nat.le_refl _) (.cells Z 198)).alloc (by simp) (.cells Z 198)
  have hcp := fun ty => copy_run _ ty _ 16 v _ _ fs hn hg0 hs (hv.below B2)
  have e1 := setRow_last (w.alloc (.cells Z 198)) Z (copied Z (flatC fs)) 198
  rw [World.size_alloc] at e1
  rw [e1] at hcp
  have hgX := heap_alloc2_new w (.cells Z 198) (.cells X 198)
  have hg2 := heap_alloc2_old w (.cells Z 198) (.cells X 198)
  have HLD := hide hgX
  have hiX : (Tryz.prog.info? 198).map (·.size) = some X.size := by rw [hsX]; exact infoP
  have hst := store_pat _ _ _ _ _ hg2 hs hsX hX1
  have HGX := hide (setRow_heap _ _ _ X _ _ hg2)
  have HB := hide (CopyOwnB (Below.refl _ w) Z X (Nat.le_refl _))
  obtain ⟨a, cap, rfl⟩ := hsl
  generalize copied Z (flatC fs) = Y at *
  clear hgX hg2 hg0 e1 hX1 B2 hv
  go_enter Tryz.func152, Tryz.ntmps152
  go_wp2_with ((with_reducible (show wpList _ _ _ ({ dst := _, op := Op.load 198 _, type := _, pos := _, after := _, guard := _ } :: _) _ _)); refine wpList_load_row rfl 198 _ rfl (w.heap.size + 1) rfl 198 X (0, 0) _ (unhide HLD) Tryz.underlying198 rfl hiX ?_)
  exact bodyPost_ret (ret_pat rfl _ _ w.heap.size X _ rfl (unhide HGX) hsX) rfl ⟨rfl, unhide HB⟩
end Pt
end Go.Proofs.YtkefjaifaonlbaaGreatDoor
/- Contract: cond.Read: the pattern that a text writes, or the error. -/
namespace Go.Proofs.YtkefjaifaonlbaaGreatDoor
open Go.RowKit
namespace Pt
open Cd

theorem owns_below {W W' : World} {n e size : Nat} {v : Value} {k : Nat} {xs : List Value} (h : W.ownsRow n e size v k xs) (hb : Below W.heap.size W W') : W'.ownsRow n e size v k xs := by
  obtain ⟨h0, h | ⟨g, cap, cur, h1, h2, h3, h4⟩⟩ := h
  · exact ⟨h0, .inl h⟩
  · exact ⟨h0, .inr ⟨g, cap, cur, h1, h2, (hb.block g (Array.getElem?_eq_some_iff.1 h3).1).trans h3, h4⟩⟩
theorem items_of {W : World} {n : Nat} {v : Value} {fs : List (UInt8 → Bool)} (h : W.ownsRow n 195 4 v fs.length (flatC fs)) : ItemsAt W v fs := by
  obtain ⟨h0, ⟨h1, h2⟩ | ⟨g, cap, cur, h1, h2, h3, h4, h5, h6, h7⟩⟩ := h
  · left
    have : fs = [] := List.eq_nil_of_length_eq_zero h2
    subst this
    exact ⟨h1, rfl⟩
  · right
    refine ⟨g, cap, h1, (Array.getElem?_eq_some_iff.1 h3).1, fun j u hu => ?_⟩
    have hj : j < fs.length * 4 := by have := (List.getElem?_eq_some_iff.1 hu).1; rw [flatC_len] at this; exact this
    rw [← h7, List.getElem?_take, if_pos hj] at hu
    rw [cell_of_row W g j cur _ _ h3]
    simpa using hu
theorem new_cells (W : World) (C : Array Value) (t : TypeId) : ∀ j u, C.toList[j]? = some u → (W.alloc (.cells C t)).cell? ((⟨W.heap.size, 0, none⟩ : Addr).add j) = some u := by
  intro j u hu
  rw [add_off, cell_of_row _ _ j C t (0, 0) (heap_alloc_last W _)]
  simpa using hu
theorem infoIt : (Tryz.prog.info? 195).map (fun i => (i.zero, i.size, i.bytes)) = some (some (.agg #[.int .u64 0, .int .u64 0, .int .u64 0, .int .u64 0]), 4, 32) := by kernel_rfl
theorem flat_snoc (fs : List (UInt8 → Bool)) (f : UInt8 → Bool) : flatC fs ++ (itC f).toList = flatC (fs ++ [f]) := by simp [flatC]

set_option maxHeartbeats 1000000 in
set_option maxRecDepth 100000 in
theorem read_none (s : ByteArray) (w : World) (h : s.data.toList = [] ∨ 512 < s.size) :
    Calls Tryz.prog 145 #[.string s] w fun e w' => e = .returned (.tuple #[.agg (patC []), .int .i64 40]) ∧ Below w.heap.size w w' := by
  have hz := zero_pat
  have hs := patC_size [] (by decide)
  have h1 := patC_one []
  generalize patC [] = Z at *
  have hg := heap_alloc_last w (.cells Z 198)
  have hst := store_pat _ _ _ _ _ hg hs hs h1
  rw [setRow_last] at hst
  clear h1 hg
  by_cases he : s.data.toList = []
  · have he2 : s.toList.isEmpty = true := by rw [ByteArray.toList_eq, he]; rfl
    clear h he
    go_enter Tryz.func145, Tryz.ntmps145
    go_wp2
    refine bodyPost_ret (ret_pat rfl _ _ w.heap.size Z _ rfl (heap_alloc_last w _) hs) rfl ⟨rfl, ?_⟩
    exact (Below.refl _ w).alloc (Nat.le_refl _) _
  · have h5 : (512 : Int) < (s.size : Int) := by have := h.resolve_left he; omega
    have he2 : s.toList.isEmpty = false := by
      rw [ByteArray.toList_eq]
      cases hh : s.data.toList with
      | nil => exact absurd hh he
      | cons a t => rfl
    clear h he
    go_enter Tryz.func145, Tryz.ntmps145
    go_wp2
    refine bodyPost_ret (ret_pat rfl _ _ w.heap.size Z _ rfl (heap_alloc_last w _) hs) rfl ⟨rfl, ?_⟩
    exact (Below.refl _ w).alloc (Nat.le_refl _) _
set_option maxHeartbeats 1000000 in
set_option maxRecDepth 100000 in
theorem read_dot (w : World) :
    Calls Tryz.prog 145 #[.string ⟨#[46]⟩] w fun e w' => e = .returned (.tuple #[.agg (patC []), .int .i64 0]) ∧ Below w.heap.size w w' := by
  have hz := zero_pat
  have hs := patC_size [] (by decide)
  have h1 := patC_one []
  generalize patC [] = Z at *
  have hg := heap_alloc_last w (.cells Z 198)
  have hst := store_pat _ _ _ _ _ hg hs hs h1
  rw [setRow_last] at hst
  clear h1 hg
  go_enter Tryz.func145, Tryz.ntmps145
  go_wp2
  refine bodyPost_ret (ret_pat rfl _ _ w.heap.size Z _ rfl (heap_alloc_last w _) hs) rfl ⟨rfl, ?_⟩
  exact (Below.refl _ w).alloc (Nat.le_refl _) _
end Pt
end Go.Proofs.YtkefjaifaonlbaaGreatDoor
