import Derived.Test.YtidhbhdcoanfcaaGreatDoorGq18
import Derived.Laws.CopyOwn
import Derived.Deep.WholeRow
import Derived.Deep.LoopGhost
set_option maxHeartbeats 8000000
set_option maxRecDepth 100000
namespace Go.Proofs.YtidhbhdcoanfcaaGreatDoor
open Go.RowKit
namespace Pt
open Cd

theorem str_ne {l : List UInt8} (h : l ≠ []) : (str l).toList.isEmpty = false := by
 rw [ByteArray.toList_eq, str_list]
 cases l with
 | nil => exact absurd rfl h
 | cons a t => rfl
theorem tw_len (t : List UInt8) : (t.takeWhile (· != 93)).length ≤ t.length := (List.takeWhile_sublist _).length_le

theorem cut_out (s : ByteArray) (t m : List UInt8) (w : World) (hs : s.size ≤ maxLen) (h : s.data.toList = 91 :: t) (h93 : 93 ∈ t) (hm : t.takeWhile (· != 93) = 94 :: m) (hm0 : m ≠ []) :
  Calls Tryz.prog 167 #[.string s] w fun e w' => e = .returned (.tuple #[.agg (itC (adm (91 :: ((94 :: m) ++ [93])))), .string (str (t.dropWhile (· != 93)).tail), .bool true]) ∧ Below w.heap.size w w' := by
 have hlen := congrArg List.length h
 simp only [List.length_cons] at hlen
 have hsl : s.data.toList.length = s.size := by simp
 have htl : t.length ≤ maxLen := by omega
 have hml : m.length ≤ maxLen := by
  have h2 := congrArg List.length hm
  have h3 := tw_len t
  simp only [List.length_cons] at h2
  omega
 have HC : Hid (∀ W, Calls Tryz.prog 110 #[.string (str t), .string ⟨#[93]⟩] W fun e w' => e = .returned (.tuple #[.string (str (94 :: m)), .string (str (t.dropWhile (· != 93)).tail), .bool true]) ∧ ∃ q, w' = W.drewN q) := fun W => by
  have := cut_yes (str t) 93 W (by rw [str_size]; exact htl) (by rw [str_list]; exact h93)
  rw [str_list, hm] at this
  exact this
 have HP : Hid (∀ W, Calls Tryz.prog 189 #[.string (str (94 :: m)), .string ⟨#[94]⟩] W fun e w' => e = .returned (.tuple #[.string (str m), .bool true]) ∧ w' = W) := fun W => prefix_yes (str (94 :: m)) 94 m W (by rw [str_size]; have h3 := tw_len t; rw [hm] at h3; omega) (str_list _)
 have HO : Hid (∀ W, Calls Tryz.prog 187 #[.string (str m)] W fun e w' => e = .returned (.agg (itC (setOf m))) ∧ w' = (W.alloc (.cells (itC (setOf m)) 226)).alloc (.cells (itC (setOf m)) 226)) := fun W => only_set m W hml
 have HT : Hid (∀ W, Calls Tryz.prog 188 #[.agg (itC (setOf m))] W fun e w' => e = .returned (.agg (itC (adm (91 :: ((94 :: m) ++ [93]))))) ∧ w' = (W.alloc (.cells (itC (adm (91 :: ((94 :: m) ++ [93])))) 226)).alloc (.cells (itC (adm (91 :: ((94 :: m) ++ [93])))) 226)) := fun W => by
  have h := others_any (setOf m) W
  rw [set_out] at h
  exact h
 obtain ⟨hz0, hs0⟩ := first_byte h
 have hz : 1 ≤ s.size := hz0
 have he := rest_str h
 have hne := str_ne hm0
 unfold maxLen at hs
 clear h hlen hsl htl hml hm h93 hm0
 generalize itC (setOf m) = C0 at *
 generalize adm (91 :: ((94 :: m) ++ [93])) = f at *
 generalize str m = M at *
 generalize str (94 :: m) = I at *
 generalize str (t.dropWhile (· != 93)).tail = R at *
 have HD := hide (cells_four f)
 generalize itC f = C at *
 obtain ⟨x0, x1, x2, x3, rfl⟩ := unhide HD
 clear HD
 go_enter Tryz.func167, Tryz.ntmps167
 go_wp2_with (first | (go_at_call 110; refine (unhide HC _).mono ?_; rintro e W1 ⟨rfl, q1, rfl⟩) | (go_at_call 189; refine (unhide HP _).mono ?_; rintro e W1 ⟨rfl, rfl⟩) | (go_at_call 187; refine (unhide HO _).mono ?_; rintro e W1 ⟨rfl, rfl⟩) | (go_at_call 188; refine (unhide HT _).mono ?_; rintro e W1 ⟨rfl, rfl⟩))
 refine bodyPost_ret (v := .tuple #[.agg #[.int .u64 x0, .int .u64 x1, .int .u64 x2, .int .u64 x3], .string R, .bool true]) (by simp [results, Tryz.results167, go_sem]) rfl ⟨rfl, ?_⟩
 have B0 := below_drewN ((Below.refl w.heap.size w).alloc (Nat.le_refl _) (.cells #[.int .u64 0, .int .u64 0, .int .u64 0, .int .u64 0] 226)) q1
 exact (((((((B0.setCell (Nat.le_refl _) _).setCell (Nat.le_refl _) _).setCell (Nat.le_refl _) _).setCell (Nat.le_refl _) _).alloc (by simp) _).alloc (by simp <;> omega) _).alloc (by simp <;> omega) _).alloc (by simp <;> omega) _

theorem cut_in (s : ByteArray) (t m : List UInt8) (c : UInt8) (w : World) (hs : s.size ≤ maxLen) (h : s.data.toList = 91 :: t) (h93 : 93 ∈ t) (hm : t.takeWhile (· != 93) = c :: m) (hc : c ≠ 94) :
  Calls Tryz.prog 167 #[.string s] w fun e w' => e = .returned (.tuple #[.agg (itC (adm (91 :: ((c :: m) ++ [93])))), .string (str (t.dropWhile (· != 93)).tail), .bool true]) ∧ Below w.heap.size w w' := by
 have hlen := congrArg List.length h
 simp only [List.length_cons] at hlen
 have hsl : s.data.toList.length = s.size := by simp
 have htl : t.length ≤ maxLen := by omega
 have hml : (c :: m).length ≤ maxLen := by
  have h3 := tw_len t
  rw [hm] at h3
  omega
 have HC : Hid (∀ W, Calls Tryz.prog 110 #[.string (str t), .string ⟨#[93]⟩] W fun e w' => e = .returned (.tuple #[.string (str (c :: m)), .string (str (t.dropWhile (· != 93)).tail), .bool true]) ∧ ∃ q, w' = W.drewN q) := fun W => by
  have := cut_yes (str t) 93 W (by rw [str_size]; exact htl) (by rw [str_list]; exact h93)
  rw [str_list, hm] at this
  exact this
 have HP : Hid (∀ W, Calls Tryz.prog 189 #[.string (str (c :: m)), .string ⟨#[94]⟩] W fun e w' => e = .returned (.tuple #[.string (str (c :: m)), .bool false]) ∧ w' = W) := fun W => prefix_no (str (c :: m)) 94 c m W (by rw [str_size]; exact hml) (str_list _) hc
 have HO : Hid (∀ W, Calls Tryz.prog 187 #[.string (str (c :: m))] W fun e w' => e = .returned (.agg (itC (adm (91 :: ((c :: m) ++ [93]))))) ∧ w' = (W.alloc (.cells (itC (adm (91 :: ((c :: m) ++ [93])))) 226)).alloc (.cells (itC (adm (91 :: ((c :: m) ++ [93])))) 226)) := fun W => by
  have h := only_set (c :: m) W hml
  rw [set_in hc] at h
  exact h
 obtain ⟨hz0, hs0⟩ := first_byte h
 have hz : 1 ≤ s.size := hz0
 have he := rest_str h
 have hne := str_ne (l := c :: m) (by simp)
 unfold maxLen at hs
 clear h hlen hsl htl hml hm h93 hc
 generalize adm (91 :: ((c :: m) ++ [93])) = f at *
 generalize str (c :: m) = I at *
 generalize str (t.dropWhile (· != 93)).tail = R at *
 have HD := hide (cells_four f)
 generalize itC f = C at *
 obtain ⟨x0, x1, x2, x3, rfl⟩ := unhide HD
 clear HD
 go_enter Tryz.func167, Tryz.ntmps167
 go_wp2_with (first | (go_at_call 110; refine (unhide HC _).mono ?_; rintro e W1 ⟨rfl, q1, rfl⟩) | (go_at_call 189; refine (unhide HP _).mono ?_; rintro e W1 ⟨rfl, rfl⟩) | (go_at_call 187; refine (unhide HO _).mono ?_; rintro e W1 ⟨rfl, rfl⟩))
 refine bodyPost_ret (v := .tuple #[.agg #[.int .u64 x0, .int .u64 x1, .int .u64 x2, .int .u64 x3], .string R, .bool true]) (by simp [results, Tryz.results167, go_sem]) rfl ⟨rfl, ?_⟩
 have B0 := below_drewN ((Below.refl w.heap.size w).alloc (Nat.le_refl _) (.cells #[.int .u64 0, .int .u64 0, .int .u64 0, .int .u64 0] 226)) q1
 exact (((((B0.setCell (Nat.le_refl _) _).setCell (Nat.le_refl _) _).setCell (Nat.le_refl _) _).setCell (Nat.le_refl _) _).alloc (by simp) _).alloc (by simp <;> omega) _

theorem cut_bad (s : ByteArray) (t : List UInt8) (I R L : ByteArray) (cl tu : Bool) (w : World) (hs : s.size ≤ maxLen) (h : s.data.toList = 91 :: t)
  (HC : Hid (∀ W, Calls Tryz.prog 110 #[.string (str t), .string ⟨#[93]⟩] W fun e w' => e = .returned (.tuple #[.string I, .string R, .bool cl]) ∧ ∃ q, w' = W.drewN q))
  (HP : Hid (∀ W, Calls Tryz.prog 189 #[.string I, .string ⟨#[94]⟩] W fun e w' => e = .returned (.tuple #[.string L, .bool tu]) ∧ w' = W))
  (hb : cl = false ∨ (cl = true ∧ L.toList.isEmpty = true)) :
  Calls Tryz.prog 167 #[.string s] w fun e w' => e = .returned (.tuple #[.agg #[.int .u64 0, .int .u64 0, .int .u64 0, .int .u64 0], .string ⟨#[]⟩, .bool false]) ∧ Below w.heap.size w w' := by
 obtain ⟨hz0, hs0⟩ := first_byte h
 have hz : 1 ≤ s.size := hz0
 have he := rest_str h
 unfold maxLen at hs
 clear h
 rcases hb with rfl | ⟨rfl, hL⟩
 all_goals
  go_enter Tryz.func167, Tryz.ntmps167
  go_wp2_with (first | (go_at_call 110; refine (unhide HC _).mono ?_; rintro e W1 ⟨rfl, q1, rfl⟩) | (go_at_call 189; refine (unhide HP _).mono ?_; rintro e W1 ⟨rfl, rfl⟩))
  refine bodyPost_ret (v := .tuple #[.agg #[.int .u64 0, .int .u64 0, .int .u64 0, .int .u64 0], .string ⟨#[]⟩, .bool false]) (by simp [results, Tryz.results167, go_sem]) rfl ⟨rfl, ?_⟩
  have B0 := below_drewN ((Below.refl w.heap.size w).alloc (Nat.le_refl _) (.cells #[.int .u64 0, .int .u64 0, .int .u64 0, .int .u64 0] 226)) q1
  exact (((B0.setCell (Nat.le_refl _) _).setCell (Nat.le_refl _) _).setCell (Nat.le_refl _) _).setCell (Nat.le_refl _) _

theorem empty_is : (⟨#[]⟩ : ByteArray).toList.isEmpty = true := by rw [ByteArray.toList_eq]; rfl
def cutV : Option (List UInt8 × List UInt8) → Value
 | none => .tuple #[.agg #[.int .u64 0, .int .u64 0, .int .u64 0, .int .u64 0], .string ⟨#[]⟩, .bool false]
 | some (p, r) => .tuple #[.agg (itC (adm p)), .string (str r), .bool true]
theorem dw_none {t : List UInt8} (h : 93 ∉ t) : t.dropWhile (· != 93) = [] := by
 induction t with
 | nil => rfl
 | cons a t ih =>
  simp only [List.mem_cons, not_or] at h
  have ha : (a != 93) = true := by simp; exact fun e => h.1 e.symm
  rw [List.dropWhile_cons, if_pos ha, ih h.2]
theorem dw_some {t : List UInt8} (h : 93 ∈ t) : ∃ r, t.dropWhile (· != 93) = 93 :: r := by
 induction t with
 | nil => simp at h
 | cons a t ih =>
  rw [List.dropWhile_cons]
  split
  ·rename_i ha
   refine ih ((List.mem_cons.1 h).resolve_left fun e => ?_)
   rw [← e] at ha
   simp at ha
  ·rename_i ha
   have : a = 93 := by simpa using ha
   exact ⟨t, by rw [this]⟩
theorem cut_any (s : ByteArray) (w : World) (hs : s.size ≤ maxLen) (h0 : s.data.toList ≠ []) :
  Calls Tryz.prog 167 #[.string s] w fun e w' => e = .returned (cutV (cut1 s.data.toList)) ∧ Below w.heap.size w w' := by
 cases h : s.data.toList with
 | nil => exact absurd h h0
 | cons c t =>
  have hlen := congrArg List.length h
  simp only [List.length_cons] at hlen
  have hsl : s.data.toList.length = s.size := by simp
  have htl : t.length ≤ maxLen := by omega
  by_cases h91 : c = 91
  ·subst h91
   by_cases h93 : 93 ∈ t
   ·obtain ⟨r, hr⟩ := dw_some h93
    have hY := fun W => cut_yes (str t) 93 W (by rw [str_size]; exact htl) (by rw [str_list]; exact h93)
    rw [str_list] at hY
    have h3 := tw_len t
    cases hm : t.takeWhile (· != 93) with
    | nil =>
     have e : cut1 (91 :: t) = none := by simp [cut1, hm, hr]
     rw [e]
     rw [hm] at hY
     exact cut_bad s t _ _ _ true false w hs h (hide hY) (hide fun W => prefix_nil 94 W) (.inr ⟨rfl, empty_is⟩)
    | cons d m =>
     rw [hm] at hY h3
     by_cases h94 : d = 94
     ·subst h94
      cases m with
      | nil =>
       have e : cut1 (91 :: t) = none := by simp [cut1, hm, hr]
       rw [e]
       exact cut_bad s t _ _ _ true true w hs h (hide hY) (hide fun W => prefix_yes (str [94]) 94 [] W (by decide) rfl) (.inr ⟨rfl, empty_is⟩)
      | cons a m =>
       have e : cut1 (91 :: t) = some (91 :: ((94 :: a :: m) ++ [93]), (t.dropWhile (· != 93)).tail) := by simp [cut1, hm, hr]
       rw [e]
       exact cut_out s t (a :: m) w hs h h93 hm (by simp)
     ·have e : cut1 (91 :: t) = some (91 :: ((d :: m) ++ [93]), (t.dropWhile (· != 93)).tail) := by simp [cut1, hm, hr, h94]
      rw [e]
      exact cut_in s t m d w hs h h93 hm h94
   ·have e : cut1 (91 :: t) = none := by simp [cut1, dw_none h93]
    rw [e]
    have hN := fun W => cut_no (str t) 93 W (by rw [str_list]; exact h93)
    cases t with
    | nil => exact cut_bad s [] _ _ _ false false w hs h (hide hN) (hide fun W => prefix_nil 94 W) (.inl rfl)
    | cons d m =>
     by_cases h94 : d = 94
     ·subst h94
      exact cut_bad s _ _ _ _ false true w hs h (hide hN) (hide fun W => prefix_yes (str (94 :: m)) 94 m W (by rw [str_size]; exact htl) (str_list _)) (.inl rfl)
     ·exact cut_bad s _ _ _ _ false false w hs h (hide hN) (hide fun W => prefix_no (str (d :: m)) 94 d m W (by rw [str_size]; exact htl) (str_list _) h94) (.inl rfl)
  ·have e : cut1 (c :: t) = some ([c], t) := by simp [cut1, h91]
   rw [e]
   by_cases h46 : c = 46
   ·subst h46
    exact cut_dot s t w hs h
   ·exact cut_plain s c t w hs h h46 h91

def flatC (fs : List (UInt8 → Bool)) : List Value := fs.flatMap fun f => (itC f).toList
def zeroP : List Value := List.replicate 64 (.int .u64 0)
def patC (fs : List (UInt8 → Bool)) : Array Value := (Value.int .i64 fs.length :: (flatC fs ++ zeroP.drop (flatC fs).length)).toArray

theorem zero_pat (w : World) : (zeroValue 229).run Tryz.prog w = .ok (.agg (patC [])) w := by kernel_rfl
theorem flatC_len (fs : List (UInt8 → Bool)) : (flatC fs).length = fs.length * 4 := by
 induction fs with
 | nil => rfl
 | cons f t ih =>
  unfold flatC at *
  rw [List.flatMap_cons, List.length_append, ih, List.length_cons]
  simp [itC]
  omega
theorem flatC_one (fs : List (UInt8 → Bool)) : ∀ u ∈ flatC fs, u.oneCell' = true := by
 intro u hu
 obtain ⟨f, _, h⟩ := List.mem_flatMap.1 hu
 simp [itC] at h
 rcases h with rfl | rfl | rfl | rfl <;> rfl
theorem patC_size (fs : List (UInt8 → Bool)) (h : fs.length ≤ 16) : (patC fs).size = 65 := by
 have := flatC_len fs
 simp [patC, zeroP]
 omega
theorem patC_one (fs : List (UInt8 → Bool)) : (patC fs).all (·.oneCell') = true := by
 rw [Array.all_eq_true]
 intro i hi
 have hm : (patC fs)[i] ∈ (patC fs).toList := by simp
 generalize (patC fs)[i] = u at *
 simp only [patC, List.mem_cons, List.mem_append] at hm
 rcases hm with rfl | h | h
 ·rfl
 ·exact flatC_one fs u h
 ·have := List.mem_of_mem_drop h
  rw [zeroP, List.mem_replicate] at this
  rw [this.2]
  rfl
def ItemsAt (W : World) (v : Value) (fs : List (UInt8 → Bool)) : Prop :=
 (v = .slice none 0 0 ∧ fs = []) ∨ ∃ g cap, v = .slice (some ⟨g, 0, none⟩) fs.length cap ∧ g < W.heap.size ∧ ∀ j u, (flatC fs)[j]? = some u → W.cell? ⟨g, j, none⟩ = some u
theorem ItemsAt.below {W W' : World} {v : Value} {fs : List (UInt8 → Bool)} (h : ItemsAt W v fs) (hb : Below W.heap.size W W') : ItemsAt W' v fs := by
 rcases h with h | ⟨g, cap, h1, h2, h3⟩
 ·exact .inl h
 ·exact .inr ⟨g, cap, h1, Nat.lt_of_lt_of_le h2 hb.size, fun j u hu => (hb.cell (p := ⟨g, j, none⟩) h2).trans (h3 j u hu)⟩
def copied (Z : Array Value) (cs : List Value) : Array Value := (Z.toList.take 1 ++ cs ++ Z.toList.drop (1 + cs.length)).toArray
theorem add_off (g j : Nat) : (⟨g, 0, none⟩ : Addr).add j = ⟨g, j, none⟩ := by unfold Addr.add; split <;> simp_all
theorem infoI : (Tryz.prog.info? 226).map (·.size) = some 4 := by kernel_rfl
theorem copy_run (w : World) (ty : TypeId) (g dCap : Nat) (v : Value) (cur : Array Value) (t : TypeId) (fs : List (UInt8 → Bool)) (hfs : fs.length ≤ 16)
  (hg : w.heap[g]? = some (.cells cur t (0, 0))) (hc : cur.size = 65) (hv : ItemsAt w v fs) :
  (Builtin.copy_ #[239, 239] ty #[.slice (some ⟨g, 1, none⟩) 16 dCap, v]).run Tryz.prog w = .ok (goInt fs.length) (w.setRow g (copied cur (flatC fs))) := by
 have hlen := flatC_len fs
 have hst := run_storeCells_at Tryz.prog g 1 t (flatC fs) 0 cur w hg (by omega) (flatC_one fs)
 obtain ⟨i, hq, hi⟩ := Option.map_eq_some_iff.1 infoI
 have hu := Tryz.underlying239
 rcases hv with ⟨rfl, rfl⟩ | ⟨gs, cap, rfl, _, hcell⟩
 ·simp [Builtin.copy_, run_underlying hu, Builtin.lenOf, Builtin.firstCells, sizeOf, typeInfo, hq, storeCells, copied, flatC]
  rw [← List.drop_one, List.take_append_drop, Array.toArray_toList, setRow_self w g cur t (0, 0) hg]
 ·have hl := run_loadCells_list (P := Tryz.prog) w ⟨gs, 0, none⟩ (flatC fs) (fun j u h => by rw [add_off]; exact hcell j u h)
  rw [hlen] at hl
  have hmin : min fs.length 16 = fs.length := by omega
  simp [Builtin.copy_, run_underlying hu, Builtin.lenOf, Builtin.firstCells, sizeOf, typeInfo, hq, hi, hmin, hl, hst, copied]
theorem copied_set (fs : List (UInt8 → Bool)) : (copied (patC []) (flatC fs)).setIfInBounds 0 (.int .i64 fs.length) = patC fs := by
 apply Array.toList_inj.1
 simp [copied, patC, flatC, Nat.add_comm 1]
theorem infoP : (Tryz.prog.info? 229).map (·.size) = some 65 := by kernel_rfl
theorem load_pat (w : World) (g : Nat) (cur : Array Value) (t : TypeId) (hg : w.heap[g]? = some (.cells cur t (0, 0))) (hc : cur.size = 65) : (loadCellsFrom ⟨g, 0, none⟩ 0 65 #[]).run Tryz.prog w = .ok cur w := by
 have hl := run_loadCells_list (P := Tryz.prog) w ⟨g, 0, none⟩ cur.toList (fun j v hv => by
  rw [add_off, cell_of_row w g j cur t (0, 0) hg]
  simpa using hv)
 simp only [Array.length_toList, Array.toArray_toList, hc] at hl
 simpa [loadCells] using hl
theorem store_pat (w : World) (g : Nat) (cur new : Array Value) (t : TypeId) (hg : w.heap[g]? = some (.cells cur t (0, 0))) (hc : cur.size = 65) (hn : new.size = 65) (h1 : new.all (·.oneCell') = true) : (storeCells ⟨g, 0, none⟩ new.toList 0).run Tryz.prog w = .ok () (w.setRow g new) := by
 have h := run_storeCells_at Tryz.prog g 0 t new.toList 0 cur w hg (by simp; omega) (fun v hv => by
  rw [Array.all_eq_true] at h1
  obtain ⟨i, hi, rfl⟩ := List.getElem_of_mem hv
  exact h1 i (by simpa using hi))
 rw [h]
 have : cur.toList.drop (0 + 0 + new.toList.length) = [] := List.drop_of_length_le (by simp; omega)
 rw [this, List.append_nil, List.take_zero, List.nil_append, Array.toArray_toList]
theorem setRow_last (W : World) (c c' : Array Value) (t : TypeId) : (W.alloc (.cells c t)).setRow W.heap.size c' = W.alloc (.cells c' t) := World.setRow_alloc_new W c c' t
theorem CopyOwnB {B : Nat} {w W : World} (h : Below B w W) (Z X : Array Value) (hB : B ≤ W.heap.size) : Below B w (((W.alloc (.cells Z 229)).alloc (.cells X 229)).setRow W.heap.size X) := below_setRow ((h.alloc hB _).alloc (by simp; omega) _) hB X
theorem ret_pat {fn : Func} {p u : Tmp} (h : fn.results = #[.cell p 229, .tmp u]) (tmps : Array Value) (w : World) (g : Nat) (cur : Array Value) (t : TypeId) (hp : tmps.getD p undef = .pointer (some ⟨g, 0, none⟩)) (hg : w.heap[g]? = some (.cells cur t (0, 0))) (hc : cur.size = 65) :
  (results fn tmps).run Tryz.prog w = .ok (.tuple #[.agg cur, tmps.getD u undef]) w := by
 have hl := run_loadVar_row (P := Tryz.prog) w g t 229 cur (0, 0) _ hg Tryz.underlying229 rfl (by rw [hc]; exact infoP)
 rw [results_cell_tmp h, hp]
 simp [asAddr, Result.andThen, hl]

theorem patternOf_many (v : Value) (n cap : Nat) (a : Option Addr) (w : World) (hn : 16 < n) (hv : v = .slice a n cap) :
  Calls Tryz.prog 168 #[v] w fun e w' => e = .returned (.tuple #[.agg (patC []), .int .i64 42]) ∧ Below w.heap.size w w' := by
 subst hv
 have hnz : (16 : Int) < (n : Int) := by omega
 have hz := zero_pat
 have hs := patC_size [] (by decide)
 have h1 := patC_one []
 generalize patC [] = Z at *
 have hg := heap_alloc_last w (.cells Z 229)
 have hl := load_pat _ _ _ _ hg hs
 have hst := store_pat _ _ _ _ _ hg hs hs h1
 rw [setRow_last] at hst
 have HL := hide hl
 clear h1 hg hl
 go_enter Tryz.func168, Tryz.ntmps168
 go_wp2
 refine bodyPost_ret (ret_pat rfl _ _ w.heap.size Z _ rfl (heap_alloc_last w _) hs) rfl ⟨rfl, ?_⟩
 exact (Below.refl _ w).alloc (Nat.le_refl _) _
theorem patternOf_few (v : Value) (fs : List (UInt8 → Bool)) (w : World) (hn : fs.length ≤ 16) (hv : ItemsAt w v fs) :
  Calls Tryz.prog 168 #[v] w fun e w' => e = .returned (.tuple #[.agg (patC fs), .int .i64 0]) ∧ Below w.heap.size w w' := by
 have hz := zero_pat
 have hs := patC_size [] (by decide)
 have hsX := patC_size fs hn
 have hX1 := patC_one fs
 have hset := copied_set fs
 have hY0 : (copied (patC []) (flatC fs))[0]? = some (.int .i64 0) := by simp [copied, patC]
 have hsl : ∃ a cap, v = .slice a fs.length cap := by
  rcases hv with ⟨rfl, rfl⟩ | ⟨g, cap, rfl, _⟩
  ·exact ⟨none, 0, rfl⟩
  ·exact ⟨_, cap, rfl⟩
 generalize patC [] = Z at *
 generalize patC fs = X at *
 have hg0 := heap_alloc2_new w (.cells Z 229) (.cells Z 229)
 have B2 := ((Below.refl _ w).alloc (Nat.le_refl _) (.cells Z 229)).alloc (by simp) (.cells Z 229)
 have hcp := fun ty => copy_run _ ty _ 16 v _ _ fs hn hg0 hs (hv.below B2)
 have e1 := setRow_last (w.alloc (.cells Z 229)) Z (copied Z (flatC fs)) 229
 rw [World.size_alloc] at e1
 rw [e1] at hcp
 have hgX := heap_alloc2_new w (.cells Z 229) (.cells X 229)
 have hg2 := heap_alloc2_old w (.cells Z 229) (.cells X 229)
 have HLD := hide hgX
 have hiX : (Tryz.prog.info? 229).map (·.size) = some X.size := by rw [hsX]; exact infoP
 have hst := store_pat _ _ _ _ _ hg2 hs hsX hX1
 have HGX := hide (setRow_heap _ _ _ X _ _ hg2)
 have HB := hide (CopyOwnB (Below.refl _ w) Z X (Nat.le_refl _))
 obtain ⟨a, cap, rfl⟩ := hsl
 generalize copied Z (flatC fs) = Y at *
 clear hgX hg2 hg0 e1 hX1 B2 hv
 go_enter Tryz.func168, Tryz.ntmps168
 go_wp2_with ((with_reducible (show wpList _ _ _ ({ dst := _, op := Op.load 229 _, type := _, pos := _, after := _, guard := _ } :: _) _ _)); refine wpList_load_row rfl 229 _ rfl (w.heap.size + 1) rfl 229 X (0, 0) _ (unhide HLD) Tryz.underlying229 rfl hiX ?_)
 exact bodyPost_ret (ret_pat rfl _ _ w.heap.size X _ rfl (unhide HGX) hsX) rfl ⟨rfl, unhide HB⟩

theorem owns_below {W W' : World} {n e size : Nat} {v : Value} {k : Nat} {xs : List Value} (h : W.ownsRow n e size v k xs) (hb : Below W.heap.size W W') : W'.ownsRow n e size v k xs := by
 obtain ⟨h0, h | ⟨g, cap, cur, h1, h2, h3, h4⟩⟩ := h
 ·exact ⟨h0, .inl h⟩
 ·exact ⟨h0, .inr ⟨g, cap, cur, h1, h2, (hb.block g (Array.getElem?_eq_some_iff.1 h3).1).trans h3, h4⟩⟩
theorem items_of {W : World} {n : Nat} {v : Value} {fs : List (UInt8 → Bool)} (h : W.ownsRow n 226 4 v fs.length (flatC fs)) : ItemsAt W v fs := by
 obtain ⟨h0, ⟨h1, h2⟩ | ⟨g, cap, cur, h1, h2, h3, h4, h5, h6, h7⟩⟩ := h
 ·left
  have : fs = [] := List.eq_nil_of_length_eq_zero h2
  subst this
  exact ⟨h1, rfl⟩
 ·right
  refine ⟨g, cap, h1, (Array.getElem?_eq_some_iff.1 h3).1, fun j u hu => ?_⟩
  have hj : j < fs.length * 4 := by have := (List.getElem?_eq_some_iff.1 hu).1; rw [flatC_len] at this; exact this
  rw [← h7, List.getElem?_take, if_pos hj] at hu
  rw [cell_of_row W g j cur _ _ h3]
  simpa using hu
theorem infoIt : (Tryz.prog.info? 226).map (fun i => (i.zero, i.size, i.bytes)) = some (some (.agg #[.int .u64 0, .int .u64 0, .int .u64 0, .int .u64 0]), 4, 32) := by kernel_rfl
theorem flat_snoc (fs : List (UInt8 → Bool)) (f : UInt8 → Bool) : flatC fs ++ (itC f).toList = flatC (fs ++ [f]) := by simp [flatC]

theorem read_none (s : ByteArray) (w : World) (h : s.data.toList = [] ∨ 512 < s.size) :
  Calls Tryz.prog 157 #[.string s] w fun e w' => e = .returned (.tuple #[.agg (patC []), .int .i64 40]) ∧ Below w.heap.size w w' := by
 have hz := zero_pat
 have hs := patC_size [] (by decide)
 have h1 := patC_one []
 generalize patC [] = Z at *
 have hg := heap_alloc_last w (.cells Z 229)
 have hst := store_pat _ _ _ _ _ hg hs hs h1
 rw [setRow_last] at hst
 clear h1 hg
 by_cases he : s.data.toList = []
 ·have he2 : s.toList.isEmpty = true := by rw [ByteArray.toList_eq, he]; rfl
  clear h he
  go_enter Tryz.func157, Tryz.ntmps157
  go_wp2
  refine bodyPost_ret (ret_pat rfl _ _ w.heap.size Z _ rfl (heap_alloc_last w _) hs) rfl ⟨rfl, ?_⟩
  exact (Below.refl _ w).alloc (Nat.le_refl _) _
 ·have h5 : (512 : Int) < (s.size : Int) := by have := h.resolve_left he; omega
  have he2 : s.toList.isEmpty = false := by
   rw [ByteArray.toList_eq]
   cases hh : s.data.toList with
   | nil => exact absurd hh he
   | cons a t => rfl
  clear h he
  go_enter Tryz.func157, Tryz.ntmps157
  go_wp2
  refine bodyPost_ret (ret_pat rfl _ _ w.heap.size Z _ rfl (heap_alloc_last w _) hs) rfl ⟨rfl, ?_⟩
  exact (Below.refl _ w).alloc (Nat.le_refl _) _
theorem read_dot (w : World) :
  Calls Tryz.prog 157 #[.string ⟨#[46]⟩] w fun e w' => e = .returned (.tuple #[.agg (patC []), .int .i64 0]) ∧ Below w.heap.size w w' := by
 have hz := zero_pat
 have hs := patC_size [] (by decide)
 have h1 := patC_one []
 generalize patC [] = Z at *
 have hg := heap_alloc_last w (.cells Z 229)
 have hst := store_pat _ _ _ _ _ hg hs hs h1
 rw [setRow_last] at hst
 clear h1 hg
 go_enter Tryz.func157, Tryz.ntmps157
 go_wp2
 refine bodyPost_ret (ret_pat rfl _ _ w.heap.size Z _ rfl (heap_alloc_last w _) hs) rfl ⟨rfl, ?_⟩
 exact (Below.refl _ w).alloc (Nat.le_refl _) _

def rdV (l : List UInt8) : Value := .tuple #[.agg (patC ((rd l).1.map adm)), .int .i64 ((rd l).2 : Nat)]
theorem rdV_bad {l : List UInt8} (h0 : l ≠ []) (h1 : l.length ≤ 512) (h2 : l ≠ [46]) (h : pcs l = none) : rdV l = .tuple #[.agg (patC []), .int .i64 41] := by
 have : rd l = ([], 41) := by unfold rd; rw [if_neg (fun e => e.elim h0 (fun e => by omega)), if_neg h2, h]
 rw [rdV, this]; rfl
theorem rdV_many {l : List UInt8} {P : List (List UInt8)} (h0 : l ≠ []) (h1 : l.length ≤ 512) (h2 : l ≠ [46]) (h : pcs l = some P) (h3 : 16 < P.length) : rdV l = .tuple #[.agg (patC []), .int .i64 42] := by
 have : rd l = ([], 42) := by unfold rd; rw [if_neg (fun e => e.elim h0 (fun e => by omega)), if_neg h2, h]; simp only; rw [if_pos h3]
 rw [rdV, this]; rfl
theorem rdV_few {l : List UInt8} {P : List (List UInt8)} (h0 : l ≠ []) (h1 : l.length ≤ 512) (h2 : l ≠ [46]) (h : pcs l = some P) (h3 : P.length ≤ 16) : rdV l = .tuple #[.agg (patC (P.map adm)), .int .i64 0] := by
 have : rd l = (P, 0) := by unfold rd; rw [if_neg (fun e => e.elim h0 (fun e => by omega)), if_neg h2, h]; simp only; rw [if_neg (by omega)]
 rw [rdV, this]; rfl
theorem heap_two {W : World} {o : Obj} {g : Nat} {x : Obj} (h : W.heap[g]? = some x) : (W.alloc o).heap[g]? = some x := (Go.heap_alloc_old W o (Array.getElem?_eq_some_iff.1 h).1).trans h
theorem new_cells2 (W : World) (A : Obj) (C : Array Value) (t : TypeId) : ∀ j u, C.toList[j]? = some u → ((W.alloc A).alloc (.cells C t)).cell? ((⟨W.heap.size + 1, 0, none⟩ : Addr).add j) = some u := by
 intro j u hu
 rw [add_off, cell_of_row _ _ j C t (0, 0) (heap_alloc2_new W _ _)]
 simpa using hu
theorem push_below {B : Nat} {wr w1 w2 : World} {A A2 : Obj} {v : Value} {e size n : Nat} {xs : List Value} (hB : B ≤ wr.heap.size) (hb : Below wr.heap.size wr w1) (ho : w1.ownsRow B e size v n xs) (hg : ((w1.alloc A).alloc A2).grownBy w2 v.ownBlock) : Below B wr w2 := by
 have h1 := hb.size
 exact (((hb.mono hB).alloc (by omega) A).alloc (by simp; omega) A2).grown hg (by simp; omega) (fun k e => (ho.lt k e).1)
theorem pattern_any (v : Value) (P : List (List UInt8)) (l : List UInt8) (w : World) (h0 : l ≠ []) (h1 : l.length ≤ 512) (h2 : l ≠ [46]) (h : pcs l = some P) (hv : ItemsAt w v (P.map adm)) :
  Calls Tryz.prog 168 #[v] w fun e w' => ∃ C n, e = .returned (.tuple #[.agg C, .int .i64 n]) ∧ .tuple #[.agg C, .int .i64 n] = rdV l ∧ C.size = 65 ∧ C.all (·.oneCell') = true ∧ Below w.heap.size w w' := by
 by_cases h3 : P.length ≤ 16
 ·refine (patternOf_few v (P.map adm) w (by simpa using h3) hv).mono ?_
  rintro e w' ⟨rfl, hb⟩
  exact ⟨_, _, rfl, (rdV_few h0 h1 h2 h h3).symm, patC_size _ (by simpa using h3), patC_one _, hb⟩
 ·have hsl : ∃ a cap, v = .slice a P.length cap := by
   rcases hv with ⟨rfl, e⟩ | ⟨g, cap, rfl, _⟩
   ·have := congrArg List.length e
    simp at this
    subst this
    exact ⟨none, 0, rfl⟩
   ·exact ⟨_, cap, by rw [List.length_map]⟩
  obtain ⟨a, cap, e⟩ := hsl
  refine (patternOf_many v P.length cap a w (by omega) e).mono ?_
  rintro e w' ⟨rfl, hb⟩
  exact ⟨_, _, rfl, (rdV_many h0 h1 h2 h (by omega)).symm, patC_size [] (by decide), patC_one _, hb⟩

theorem read_loop (s : ByteArray) (w : World) (h0 : s.data.toList ≠ []) (hl : s.size ≤ 512) (h2 : s.data.toList ≠ [46]) :
  Calls Tryz.prog 157 #[.string s] w fun e w' => e = .returned (rdV s.data.toList) ∧ Below w.heap.size w w' := by
 obtain ⟨i0, hi, hz0, hz1, hz2⟩ := info_parts infoIt
 have hsl : s.data.toList.length = s.size := by simp
 have HBAD : Hid (pcs s.data.toList = none → rdV s.data.toList = .tuple #[.agg (patC []), .int .i64 41]) := fun h => rdV_bad h0 (by omega) h2 h
 have HPAT : Hid (∀ v P W, pcs s.data.toList = some P → ItemsAt W v (P.map adm) → Calls Tryz.prog 168 #[v] W fun e w' => ∃ C n, e = .returned (.tuple #[.agg C, .int .i64 n]) ∧ .tuple #[.agg C, .int .i64 n] = rdV s.data.toList ∧ C.size = 65 ∧ C.all (·.oneCell') = true ∧ Below W.heap.size W w') := fun v P W h hv => pattern_any v P s.data.toList W h0 (by omega) h2 h hv
 have HCUT : Hid (∀ (r : ByteArray) W, r.data.toList ≠ [] → r.size ≤ 512 → Calls Tryz.prog 167 #[.string r] W fun e w' => e = .returned (cutV (cut1 r.data.toList)) ∧ Below W.heap.size W w') := fun r W h hr => cut_any r W (by unfold maxLen; omega) h
 have hz := zero_pat
 have hs := patC_size [] (by decide)
 have h1 := patC_one []
 have hse : s.toList.isEmpty = false := by
  rw [ByteArray.toList_eq]
  cases hh : s.data.toList with
  | nil => exact absurd hh h0
  | cons a t => rfl
 have hsd : (s.toList == [46]) = false := by rw [ByteArray.toList_eq, beq_eq_false_iff_ne]; exact h2
 have hlz : ¬ (512 : Int) < (s.size : Int) := by omega
 have HST : Hid (∀ W : World, W.heap[w.heap.size]? = some (.cells (patC []) 229 (0, 0)) → ∀ C : Array Value, C.size = 65 → C.all (·.oneCell') = true → (storeCells ⟨w.heap.size, 0, none⟩ C.toList 0).run Tryz.prog W = .ok () (W.setRow w.heap.size C)) := fun W hg C hc h1 => store_pat _ _ _ _ _ hg hs hc h1
 generalize rdV s.data.toList = RV at *
 generalize patC [] = Z at *
 have HZ1 := hide h1
 have HSN : Hid (∀ (W : World) u (P : List (List UInt8)) p, W.ownsRow (w.heap.size + 1) 226 4 u (P.length + 1) (flatC (P.map adm) ++ (itC (adm p)).toList) → W.ownsRow (w.heap.size + 1) 226 4 u (P ++ [p]).length (flatC ((P ++ [p]).map adm))) := fun W u P p h => by
  rw [flat_snoc] at h
  simpa using h
 clear h0 h2 h1 hsl
 go_enter Tryz.func157, Tryz.ntmps157
 go_wp2
 go_loopg [0, 4] s.size (fun kk s0 s4 wr => ∃ (r : ByteArray) (P : List (List UInt8)) (v : Value), s0 = .string r ∧ v = s4 ∧ r.size ≤ kk ∧ P.length + r.size ≤ 512 ∧ Hid (wr.ownsRow (w.heap.size + 1) 226 4 v P.length (flatC (P.map adm))) ∧ Hid ((pcs r.data.toList).map (P ++ ·) = pcs s.data.toList) ∧ Hid (Below w.heap.size w wr) ∧ Hid (wr.heap[w.heap.size]? = some (.cells Z 229 (0, 0))))
 case atStart => exact ⟨s, [], _, rfl, rfl, Nat.le_refl _, by simpa using hl, World.ownsRow_nil _ _ _ _, by rw [Hid]; simp, (Below.refl _ w).alloc (Nat.le_refl _) _, heap_alloc_last w _⟩
 case round =>
  obtain ⟨r, P, v, rfl, rfl, hk, hP, HR, HE, HB, HG⟩ := hrel
  by_cases hr0 : r.data.toList = []
  ·have hre : r.toList.isEmpty = true := by rw [ByteArray.toList_eq, hr0]; rfl
   have HE2 : Hid (pcs s.data.toList = some P) := hide (by have h := unhide HE; rw [hr0, pcs_nil] at h; simpa using h.symm)
   have HX := hide (unhide HPAT v P wr (unhide HE2) (items_of (by rw [List.length_map]; exact unhide HR)))
   clear hr0
   go_wp2_with (go_at_call 168; refine (unhide HX).mono ?_; rintro e w1 ⟨C, n, rfl, hCV, hC65, hC1, hb1⟩; have HCV := hide hCV; have hg1 := (hb1.block w.heap.size (Array.getElem?_eq_some_iff.1 (unhide HG)).1).trans (unhide HG); have hst := unhide HST w1 hg1 C hC65 hC1; have HGX := hide (setRow_heap _ _ _ C _ _ hg1); have HBX := hide (below_setRow ((unhide HB).trans (hb1.mono (unhide HB).size)) (Nat.le_refl _) C); clear hCV hb1 hC1 hg1)
   exact bodyPost_ret (ret_pat rfl _ _ w.heap.size C _ rfl (unhide HGX) hC65) rfl ⟨by rw [← unhide HCV]; rfl, unhide HBX⟩
  ·have hre : r.toList.isEmpty = false := by
    rw [ByteArray.toList_eq]
    cases hh : r.data.toList with
    | nil => exact absurd hh hr0
    | cons a t => rfl
   have HC := hide (unhide HCUT r wr hr0 (by omega))
   cases hc1 : cut1 r.data.toList with
   | none =>
    have HE2 : Hid (pcs s.data.toList = none) := hide (by have h := unhide HE; rw [pcs_bad hr0 hc1] at h; simpa using h.symm)
    have HRV := hide (unhide HBAD (unhide HE2))
    rw [hc1] at HC
    have HC2 : Hid (Calls Tryz.prog 167 #[.string r] wr fun e w' => e = .returned (.tuple #[.agg #[.int .u64 0, .int .u64 0, .int .u64 0, .int .u64 0], .string ⟨#[]⟩, .bool false]) ∧ Below wr.heap.size wr w') := HC
    clear hr0 hc1 HE HE2 HC
    go_wp2_with (go_at_call 167; refine (unhide HC2).mono ?_; rintro e w1 ⟨rfl, hb1⟩; have hg1 := heap_two (o := .cells #[.int .u64 0, .int .u64 0, .int .u64 0, .int .u64 0] 226) ((hb1.block w.heap.size (Array.getElem?_eq_some_iff.1 (unhide HG)).1).trans (unhide HG)); have hst := unhide HST _ hg1 Z hs (unhide HZ1); have HGX := hide (setRow_heap _ _ _ Z _ _ hg1); have HBX := hide (below_setRow (((unhide HB).trans (hb1.mono (unhide HB).size)).alloc (Nat.le_trans (unhide HB).size hb1.size) (.cells #[.int .u64 0, .int .u64 0, .int .u64 0, .int .u64 0] 226)) (Nat.le_refl _) Z); clear hb1 hg1)
    exact bodyPost_ret (ret_pat rfl _ _ w.heap.size Z _ rfl (unhide HGX) hs) rfl ⟨by rw [unhide HRV]; rfl, unhide HBX⟩
   | some q =>
    obtain ⟨p, t⟩ := q
    obtain ⟨e1, e2⟩ := cut1_len hc1
    have e3 := congrArg List.length e1
    rw [List.length_append] at e3
    have hrl : r.data.toList.length = r.size := by simp
    have hts : (str t).size = t.length := str_size t
    have HE2 : Hid ((pcs (str t).data.toList).map ((P ++ [p]) ++ ·) = pcs s.data.toList) := hide (by
     have h := unhide HE
     rw [pcs_cut hc1] at h
     rw [str_list, ← h, Option.map_map]
     congr 1
     funext x
     simp)
    rw [hc1] at HC
    have HC2 : Hid (Calls Tryz.prog 167 #[.string r] wr fun e w' => e = .returned (.tuple #[.agg (itC (adm p)), .string (str t), .bool true]) ∧ Below wr.heap.size wr w') := HC
    have HSN2 := hide (fun W u h => unhide HSN W u P p h)
    have HLT : Hid (w.heap.size + 1 ≤ wr.heap.size) := (Array.getElem?_eq_some_iff.1 (unhide HG)).1
    have hN1 : t.length < r.size := by omega
    have hN2 : P.length + 1 + t.length ≤ 512 := by omega
    clear hr0 hc1 HE HC e1 e2 e3 hrl HSN HBAD HPAT HCUT HST
    have HD := hide (cells_four (adm p))
    generalize itC (adm p) = C at *
    generalize str t = T at *
    obtain ⟨x0, x1, x2, x3, rfl⟩ := unhide HD
    clear HD
    go_wp2_with (first
     | (go_at_call 167; refine (unhide HC2).mono ?_; rintro e w1 ⟨rfl, hb1⟩; have HB1 := hide hb1; have HO1 := hide (owns_below (unhide HR) hb1); clear hb1)
     | (at_builtin; refine wpList_append_own _ rfl _ _ 239 rfl (w.heap.size + 1) 226 i0 (.agg #[.int .u64 0, .int .u64 0, .int .u64 0, .int .u64 0]) 4 32 Tryz.underlying239 hi hz0 hz1 hz2 rfl (by decide) _ _ _ rfl (((unhide HO1).alloc _).alloc _) ⟨w1.heap.size + 1, 0, none⟩ 1 1 [.int .u64 x0, .int .u64 x1, .int .u64 x2, .int .u64 x3] rfl rfl (new_cells2 _ _ #[.int .u64 x0, .int .u64 x1, .int .u64 x2, .int .u64 x3] _) (by simp [Value.oneCell']) (by unfold maxLen; omega) (by omega) (by have h1 := (unhide HB1).size; have h2 := (unhide HB).size; simp; omega) ?_; intro v' w2 hown' hgrow hnil; clear hnil; have HO2 := hide (unhide HSN2 _ _ hown'); have HB2 := hide (push_below (unhide HLT) (unhide HB1) (unhide HO1) hgrow); clear hown' hgrow))
    go_roundg (r.size - 1)
    case rel => exact ⟨T, P ++ [p], v', rfl, rfl, by omega, by simp; omega, HO2, HE2, (unhide HB).trans ((unhide HB2).mono (by omega)), ((unhide HB2).block w.heap.size (by omega)).trans (unhide HG)⟩
    case measure => omega

theorem read_any (s : ByteArray) (w : World) : Calls Tryz.prog 157 #[.string s] w fun e w' => e = .returned (rdV s.data.toList) ∧ Below w.heap.size w w' := by
 have hsl : s.data.toList.length = s.size := by simp
 by_cases h1 : s.data.toList = [] ∨ 512 < s.size
 ·have e : rdV s.data.toList = .tuple #[.agg (patC []), .int .i64 40] := by
   have : rd s.data.toList = ([], 40) := by unfold rd; rw [if_pos (by rw [hsl]; exact h1)]
   rw [rdV, this]; rfl
  rw [e]
  exact read_none s w h1
 ·by_cases h2 : s.data.toList = [46]
  ·have e : s = ⟨#[46]⟩ := by rw [← str_self s, h2]; rfl
   subst e
   exact read_dot w
  ·exact read_loop s w (fun e => h1 (.inl e)) (by have : ¬ 512 < s.size := fun e => h1 (.inr e); omega) h2
theorem flatC_get (fs : List (UInt8 → Bool)) {k : Nat} (hk : k < fs.length) {j : Nat} (hj : j < 4) : (flatC fs)[k * 4 + j]? = some (.int .u64 (wd fs[k] j)) := by
 induction fs generalizing k with
 | nil => simp at hk
 | cons f t ih =>
  have e : flatC (f :: t) = (itC f).toList ++ flatC t := by simp [flatC]
  have hl : (itC f).toList.length = 4 := rfl
  rw [e]
  cases k with
  | zero =>
   rw [List.getElem?_append_left (by rw [hl]; omega), Nat.zero_mul, Nat.zero_add]
   have := itC_get f hj
   simpa using this
  | succ k =>
   rw [List.getElem?_append_right (by rw [hl]; omega), hl, show (k + 1) * 4 + j - 4 = k * 4 + j by omega, ih (by simpa using hk)]
   rfl
theorem patC_get (fs : List (UInt8 → Bool)) {k : Nat} (hk : k < fs.length) {j : Nat} (hj : j < 4) : (patC fs)[1 + (k * 4 + j)]? = some (.int .u64 (wd fs[k] j)) := by
 have h := flatC_get fs hk hj
 have hlt := (List.getElem?_eq_some_iff.1 h).1
 unfold patC
 rw [List.getElem?_toArray, Nat.add_comm 1, List.getElem?_cons_succ, List.getElem?_append_left hlt, h]
theorem patC_four (fs : List (UInt8 → Bool)) {k : Nat} (hk : k < fs.length) : (patC fs)[1 + k * 4]? = some (.int .u64 (wd fs[k] 0)) ∧ (patC fs)[1 + k * 4 + 1]? = some (.int .u64 (wd fs[k] 1)) ∧ (patC fs)[1 + k * 4 + 2]? = some (.int .u64 (wd fs[k] 2)) ∧ (patC fs)[1 + k * 4 + 3]? = some (.int .u64 (wd fs[k] 3)) :=
 ⟨patC_get fs hk (j := 0) (by decide), patC_get fs hk (j := 1) (by decide), patC_get fs hk (j := 2) (by decide), patC_get fs hk (j := 3) (by decide)⟩
theorem patC_zero (fs : List (UInt8 → Bool)) : (patC fs)[0]? = some (.int .i64 fs.length) := by simp [patC]


def each : List (UInt8 → Bool) → List UInt8 → Bool
 | f :: fs, b :: bs => f b && each fs bs
 | _, _ => true

def Sz65 (X : Array Value) : Prop := X.size = 65
def ldP (v : Value) : Sem Value := Instr.loadAt 229 v
theorem load_as (v : Value) : Instr.loadAt 229 v = ldP v := rfl
theorem ldP_row {w : World} {g : Nat} {X : Array Value} (hg : w.heap[g]? = some (.cells X 229 (0, 0))) (h : Sz65 X) : (ldP (.pointer (some ⟨g, 0, none⟩))).run Tryz.prog w = .ok (.agg X) w := by
 have hl := run_loadVar_row (P := Tryz.prog) w g 229 229 X (0, 0) _ hg Tryz.underlying229 rfl (by rw [show X.size = 65 from h]; exact infoP)
 simp only [ldP, Instr.loadAt, Instr.sureAddr, Sem.run_bind, Sem.run_pure, Result.andThen_ok, hl]
theorem ldP_new (W : World) (X : Array Value) (h : Sz65 X) : (ldP (.pointer (some ⟨W.heap.size, 0, none⟩))).run Tryz.prog (W.alloc (.cells X 229)) = .ok (.agg X) (W.alloc (.cells X 229)) := ldP_row (heap_alloc_last W _) h
theorem ldP_drew (W : World) (X : Array Value) (h : Sz65 X) : (ldP (.pointer (some ⟨W.heap.size, 0, none⟩))).run Tryz.prog ((W.alloc (.cells X 229)).drew) = .ok (.agg X) ((W.alloc (.cells X 229)).drew) := ldP_row (heap_alloc_last W _) h
attribute [local go_sem ↓] load_as
attribute [local go_sem] ldP_new ldP_drew
end Pt
namespace Pt
open Cd
attribute [local go_sem ↓] load_as
attribute [local go_sem] ldP_new ldP_drew

end Pt
namespace Pt
open Cd

theorem drop_cons (s : ByteArray) (k : Nat) (h : k < s.size) : s.data.toList.drop k = s[k] :: s.data.toList.drop (k + 1) := by
 rw [List.drop_eq_getElem_cons (by simpa using h)]; rfl

def txt (P : List (List UInt8)) : List Value := P.map fun p => Value.string (str p)
theorem rd_bad {l : List UInt8} (h0 : l ≠ []) (h1 : l.length ≤ 512) (h2 : l ≠ [46]) (h : pcs l = none) : rd l = ([], 41) := by
 unfold rd; rw [if_neg (fun e => e.elim h0 (fun e => by omega)), if_neg h2, h]


def TextsAt (W : World) (v : Value) (P : List (List UInt8)) : Prop :=
 (v = .slice none 0 0 ∧ P = []) ∨ ∃ g cap, v = .slice (some ⟨g, 0, none⟩) P.length cap ∧ g < W.heap.size ∧ ∀ j p, P[j]? = some p → W.cell? ⟨g, j, none⟩ = some (.string (str p))
theorem TextsAt.below {W W' : World} {v : Value} {P : List (List UInt8)} (h : TextsAt W v P) (hb : Below W.heap.size W W') : TextsAt W' v P := by
 rcases h with h | ⟨g, cap, h1, h2, h3⟩
 ·exact .inl h
 ·exact .inr ⟨g, cap, h1, Nat.lt_of_lt_of_le h2 hb.size, fun j u hu => (hb.cell (p := ⟨g, j, none⟩) h2).trans (h3 j u hu)⟩

def rdP (l : List UInt8) : List (UInt8 → Bool) := (rd l).1.map adm
theorem rdP_len (l : List UInt8) : (rdP l).length ≤ 16 := by rw [rdP, List.length_map]; exact rd_len l
attribute [local go_sem ↓] load_as
attribute [local go_sem] ldP_new ldP_drew
theorem keep_pat {W W' : World} {g : Nat} {X : Array Value} {t : TypeId} (h : W.heap[g]? = some (.cells X t (0, 0))) (hb : Below W.heap.size W W') : W'.heap[g]? = some (.cells X t (0, 0)) := (hb.block g (Array.getElem?_eq_some_iff.1 h).1).trans h
theorem store_new (W : World) (X : Array Value) (hX : Sz65 X) (h1 : X.all (·.oneCell') = true) : (storeCells ⟨W.heap.size, 0, none⟩ X.toList 0).run Tryz.prog (W.alloc (.cells (patC []) 229)) = .ok () (W.alloc (.cells X 229)) := by
 have := store_pat _ _ _ _ _ (heap_alloc_last W (.cells (patC []) 229)) (patC_size [] (by decide)) hX h1
 rw [setRow_last] at this
 exact this
theorem sz_pat (l : List UInt8) : Sz65 (patC (rdP l)) := patC_size _ (rdP_len l)
end Pt
namespace Pt
open Cd

def byts (l : List UInt8) : List Value := l.map fun b => Value.int .u8 (b.toNat : Int)
theorem byts_snoc (l : List UInt8) (c : UInt8) : byts l ++ [.int .u8 (c.toNat : Int)] = byts (l ++ [c]) := by simp [byts]
theorem infoB : (Tryz.prog.info? 5).map (fun i => (i.zero, i.size, i.bytes)) = some (some (.int .u8 0), 1, 1) := by kernel_rfl
def Own (n : Nat) (W : World) (v : Value) (L : List UInt8) : Prop := W.ownsRow n 5 1 v L.length (byts L)
theorem own_push {W : World} {B : Nat} {v : Value} {L : List UInt8} {c : UInt8} {x : Int} (hx : (c.toNat : Int) = x) (h : W.ownsRow B 5 1 v (L.length + 1) (byts L ++ [.int .u8 x])) : Own B W v (L ++ [c]) := by
 rw [← hx, byts_snoc] at h
 unfold Own
 rw [List.length_append]
 exact h
theorem own_nil (n : Nat) (W : World) : Own n W (.slice none 0 0) [] := World.ownsRow_nil _ _ _ _
theorem own_cells {w : World} {B : Nat} {v : Value} {L : List UInt8} (h : Own B w v L) (h0 : 0 < L.length) :
  ∃ g cap, v = .slice (some ⟨g, 0, none⟩) L.length cap ∧ g < w.heap.size ∧ ∀ j x, L[j]? = some x → w.cell? ⟨g, j, none⟩ = some (.int .u8 (x.toNat : Int)) := by
 have hc : w.ownsRow B 5 1 v L.length (byts L) := h
 obtain ⟨hl, ⟨rfl, h1⟩ | ⟨g, cap, cur, rfl, hg, hh, hc1, hm, hsz, htk⟩⟩ := h
 ·omega
 ·refine ⟨g, cap, rfl, (Array.getElem?_eq_some_iff.1 hh).1, fun j x hj => ?_⟩
  have := hc.cells (g := g) rfl j (.int .u8 (x.toNat : Int)) (by simp [byts, hj])
  rwa [add_off] at this
theorem own_slice {w : World} {B : Nat} {v : Value} {L : List UInt8} (h : Own B w v L) : ∃ a cap, v = .slice a L.length cap := by
 obtain ⟨_, ⟨e, e2⟩ | ⟨g, cap, cur, e, _⟩⟩ := h
 ·exact ⟨none, 0, by rw [e, e2]⟩
 ·exact ⟨_, cap, e⟩
theorem conv_own {w : World} {B : Nat} {v : Value} {L : List UInt8} (h : Own B w v L) : (convert 104 9 v).run Tryz.prog w = .ok (.string (str L)) w := by
 by_cases h0 : 0 < L.length
 ·obtain ⟨g, cap, rfl, _, hcell⟩ := own_cells h h0
  exact run_convert_bytes_back w 104 9 5 ⟨g, 0, none⟩ cap L Tryz.underlying104 Tryz.underlying5 Tryz.underlying9 (fun j hj => by rw [add_off]; exact hcell j _ (List.getElem?_eq_getElem hj))
 ·have : L = [] := List.eq_nil_of_length_eq_zero (by omega)
  subst this
  obtain ⟨hl, ⟨rfl, h1⟩ | ⟨g, cap, cur, rfl, hg, hh, hc1, hm, hsz, htk⟩⟩ := h
  ·exact run_convert_bytes_nil w 104 5 Tryz.underlying104 Tryz.underlying5 0 0 9 Tryz.underlying9
  ·exact run_convert_bytes_back w 104 9 5 ⟨g, 0, none⟩ cap [] Tryz.underlying104 Tryz.underlying5 Tryz.underlying9 (fun j hj => absurd hj (by simp))
theorem Own.below {n : Nat} {W W' : World} {v : Value} {L : List UInt8} (h : Own n W v L) (hb : Below W.heap.size W W') : Own n W' v L := owns_below h hb
def lsoK (f : UInt8 → Bool) (k : Nat) : List UInt8 := ((List.range k).map bt).filter f
theorem lsoK_yes {f : UInt8 → Bool} {k : Nat} (h : f (bt k) = true) : lsoK f (k + 1) = lsoK f k ++ [bt k] := by
 simp [lsoK, List.range_succ, h]
theorem lsoK_no {f : UInt8 → Bool} {k : Nat} (h : f (bt k) = false) : lsoK f (k + 1) = lsoK f k := by
 simp [lsoK, List.range_succ, h]
theorem lsoK_len (f : UInt8 → Bool) (k : Nat) : (lsoK f k).length ≤ k := by
 have := List.length_filter_le f ((List.range k).map bt)
 simp at this
 exact this
theorem lsoK_full (f : UInt8 → Bool) {k : Nat} (h : k = 256) : lsoK f k = lso f := by rw [h]; rfl
theorem btz {k : Nat} (h : k < 256) : ((bt k).toNat : Int) = (k : Int) := by rw [bt_toNat]; omega
theorem u8wrap {k : Nat} (h : k < 256) : IntKind.u8.wrap (k : Int) = (k : Int) := by rw [IntKind.wrap_u8]; omega

theorem list_any (f : UInt8 → Bool) (w : World) :
  Calls Tryz.prog 190 #[.agg (itC f)] w fun e w' => e = .returned (.string (str (lso f))) ∧ Below w.heap.size w w' := by
 obtain ⟨i0, hi, hz0, hz1, hz2⟩ := info_parts infoB
 have HH : Hid (∀ k W, k < 256 → Calls Tryz.prog 191 #[.agg (itC f), .int .u8 (k : Nat)] W fun e w' => e = .returned (.bool (f (bt k))) ∧ w' = W.alloc (.cells (itC f) 226)) := fun k W hk => by
  have := has_any f (bt k) W
  rw [btz hk] at this
  exact this
 obtain ⟨x0, x1, x2, x3, hC⟩ := cells_four f
 rw [hC] at HH ⊢
 clear hC
 go_enter Tryz.func190, Tryz.ntmps190
 go_wp2
 go_loopw [3, 5] (fun s3 s5 wr => ∃ (k : Nat) (v : Value), v = s3 ∧ s5 = .int .i64 k ∧ k ≤ 256 ∧ Hid (Own (w.heap.size + 1) wr v (lsoK f k)) ∧ Hid (wr.heap[w.heap.size]? = some (.cells #[.int .u64 x0, .int .u64 x1, .int .u64 x2, .int .u64 x3] 226 (0, 0))) ∧ Hid (Below w.heap.size w wr)) (fun _ i _ => 256 - (intOf i).toNat)
 case atStart => exact ⟨0, _, rfl, rfl, by omega, own_nil _ _, heap_alloc_last w _, (Below.refl _ w).alloc (Nat.le_refl _) _⟩
 case round =>
  obtain ⟨k, v, rfl, rfl, hk, HO, HG, HB⟩ := hrel
  by_cases hlt : k < 256
  ·have hltz : (k : Int) < 256 := by omega
   have hwr := u8wrap hlt
   have hc0 := cell_of_row wr _ 0 _ _ _ (unhide HG)
   have hc1 := cell_of_row wr _ 1 _ _ _ (unhide HG)
   have hc2 := cell_of_row wr _ 2 _ _ _ (unhide HG)
   have hc3 := cell_of_row wr _ 3 _ _ _ (unhide HG)
   have HLT : Hid (w.heap.size + 1 ≤ wr.heap.size) := (Array.getElem?_eq_some_iff.1 (unhide HG)).1
   have HH2 := hide (fun W => unhide HH k W hlt)
   have hln := lsoK_len f k
   cases hf : f (bt k) with
   | true =>
    have HY := hide (lsoK_yes hf)
    rw [hf] at HH2
    clear hf
    generalize lsoK f k = acc at *
    go_wp2_with (first
     | (go_at_call 191; refine (unhide HH2 _).mono ?_; rintro e W1 ⟨rfl, rfl⟩)
     | (at_builtin; refine wpList_append_own _ rfl _ _ 104 rfl (w.heap.size + 1) 5 i0 (.int .u8 0) 1 1 Tryz.underlying104 hi hz0 hz1 hz2 rfl (by decide) _ _ _ rfl (((unhide HO).alloc _).alloc _) ⟨wr.heap.size + 1, 0, none⟩ 1 1 [.int .u8 (k : Int)] rfl rfl (new_cells2 _ _ #[.int .u8 (k : Int)] _) (by simp [Value.oneCell']) (by unfold maxLen; omega) (by omega) (by have h1 := unhide HLT; simp; omega) ?_; intro v' w2 hown' hgrow hnil; clear hnil; have HO2 := hide (own_push (btz hlt) hown'); have HB2 := hide (push_below (unhide HLT) (Below.refl _ _) (unhide HO) hgrow); clear hown' hgrow))
    go_roundw
    case rel => exact ⟨k + 1, v', rfl, by go_num, by omega, by rw [unhide HY]; exact HO2, hide (((unhide HB2).block w.heap.size (by omega)).trans (unhide HG)), (unhide HB).trans ((unhide HB2).mono (by omega))⟩
    case measure => simp [intOf]; omega
   | false =>
    have HY := hide (lsoK_no hf)
    rw [hf] at HH2
    clear hf
    generalize lsoK f k = acc at *
    go_wp2_with (go_at_call 191; refine (unhide HH2 _).mono ?_; rintro e W1 ⟨rfl, rfl⟩)
    go_roundw
    case rel => exact ⟨k + 1, v, rfl, by go_num, by omega, by rw [unhide HY]; exact (unhide HO).alloc _, hide (heap_two (unhide HG)), (unhide HB).alloc (unhide HB).size _⟩
    case measure => simp [intOf]; omega
  ·have hltz : ¬ (k : Int) < 256 := by omega
   have HF := hide (lsoK_full f (k := k) (by omega))
   generalize lsoK f k = acc at *
   have hcv := conv_own (unhide HO)
   go_wp2
   go_ret
   exact ⟨by rw [← unhide HF]; rfl, unhide HB⟩
end Pt
end Go.Proofs.YtidhbhdcoanfcaaGreatDoor
