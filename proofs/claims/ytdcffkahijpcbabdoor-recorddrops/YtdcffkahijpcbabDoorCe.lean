/- Layer 6: the number of a failure (hornbooklaw06.code). -/
import Derived.Test.YtdcffkahijpcbabDoorWd
namespace Go.Proofs.YtdcffkahijpcbabDoor
open Go.RowKit
namespace Rs
set_option maxRecDepth 100000 in
theorem code6_0 (w : World) : Calls Tryd.prog 22 #[.nilIface] w fun e w' => e = .returned (.int .i64 0) ∧ w' = w := by
  go_enter Tryd.func22, Tryd.ntmps22
  go_wp2
  go_ret
  exact ⟨rfl, rfl⟩
set_option maxRecDepth 100000 in
theorem code6_1 {w : World} {E : Nat → Addr} {B : Nat} (V : Env w E B) : Calls Tryd.prog 22 #[er E 1] w fun e w' => e = .returned (.int .i64 1) ∧ w' = w := by
  have g1 := V.g.nil
  have hs := eq_same (w := w) (E 1)
  clear V
  go_enter Tryd.func22, Tryd.ntmps22
  go_wp2
  go_ret
  exact ⟨rfl, rfl⟩
set_option maxRecDepth 100000 in
theorem code6_2 {w : World} {E : Nat → Addr} {B : Nat} (V : Env w E B) : Calls Tryd.prog 22 #[er E 2] w fun e w' => e = .returned (.int .i64 2) ∧ w' = w := by
  have g1 := V.g.nil
  have g2 := V.li
  have o1 := eq_other V.ap (i := 2) (j := 1) (by decide) (by decide) (by decide)
  have hs := eq_same (w := w) (E 2)
  clear V
  go_enter Tryd.func22, Tryd.ntmps22
  go_wp2
  go_ret
  exact ⟨rfl, rfl⟩
set_option maxRecDepth 100000 in
theorem code6_3 {w : World} {E : Nat → Addr} {B : Nat} (V : Env w E B) : Calls Tryd.prog 22 #[er E 3] w fun e w' => e = .returned (.int .i64 3) ∧ w' = w := by
  have g1 := V.g.nil
  have g2 := V.li
  have g3 := V.g.noRun
  have o1 := eq_other V.ap (i := 3) (j := 1) (by decide) (by decide) (by decide)
  have o2 := eq_other V.ap (i := 3) (j := 2) (by decide) (by decide) (by decide)
  have hs := eq_same (w := w) (E 3)
  clear V
  go_enter Tryd.func22, Tryd.ntmps22
  go_wp2
  go_ret
  exact ⟨rfl, rfl⟩
set_option maxRecDepth 100000 in
theorem code6_4 {w : World} {E : Nat → Addr} {B : Nat} (V : Env w E B) : Calls Tryd.prog 22 #[er E 4] w fun e w' => e = .returned (.int .i64 4) ∧ w' = w := by
  have g1 := V.g.nil
  have g2 := V.li
  have g3 := V.g.noRun
  have g4 := V.g.shut
  have o1 := eq_other V.ap (i := 4) (j := 1) (by decide) (by decide) (by decide)
  have o2 := eq_other V.ap (i := 4) (j := 2) (by decide) (by decide) (by decide)
  have o3 := eq_other V.ap (i := 4) (j := 3) (by decide) (by decide) (by decide)
  have hs := eq_same (w := w) (E 4)
  clear V
  go_enter Tryd.func22, Tryd.ntmps22
  go_wp2
  go_ret
  exact ⟨rfl, rfl⟩
set_option maxRecDepth 100000 in
theorem code6_5 {w : World} {E : Nat → Addr} {B : Nat} (V : Env w E B) : Calls Tryd.prog 22 #[er E 5] w fun e w' => e = .returned (.int .i64 5) ∧ w' = w := by
  have g1 := V.g.nil
  have g2 := V.li
  have g3 := V.g.noRun
  have g4 := V.g.shut
  have g5 := V.op
  have o1 := eq_other V.ap (i := 5) (j := 1) (by decide) (by decide) (by decide)
  have o2 := eq_other V.ap (i := 5) (j := 2) (by decide) (by decide) (by decide)
  have o3 := eq_other V.ap (i := 5) (j := 3) (by decide) (by decide) (by decide)
  have o4 := eq_other V.ap (i := 5) (j := 4) (by decide) (by decide) (by decide)
  have hs := eq_same (w := w) (E 5)
  clear V
  go_enter Tryd.func22, Tryd.ntmps22
  go_wp2
  go_ret
  exact ⟨rfl, rfl⟩
set_option maxRecDepth 100000 in
theorem code6_7 {w : World} {E : Nat → Addr} {B : Nat} (V : Env w E B) : Calls Tryd.prog 22 #[er E 7] w fun e w' => e = .returned (.int .i64 7) ∧ w' = w := by
  have g1 := V.g.nil
  have g2 := V.li
  have g3 := V.g.noRun
  have g4 := V.g.shut
  have g5 := V.op
  have g7 := V.g.full
  have o1 := eq_other V.ap (i := 7) (j := 1) (by decide) (by decide) (by decide)
  have o2 := eq_other V.ap (i := 7) (j := 2) (by decide) (by decide) (by decide)
  have o3 := eq_other V.ap (i := 7) (j := 3) (by decide) (by decide) (by decide)
  have o4 := eq_other V.ap (i := 7) (j := 4) (by decide) (by decide) (by decide)
  have o5 := eq_other V.ap (i := 7) (j := 5) (by decide) (by decide) (by decide)
  have hs := eq_same (w := w) (E 7)
  clear V
  go_enter Tryd.func22, Tryd.ntmps22
  go_wp2
  go_ret
  exact ⟨rfl, rfl⟩
set_option maxRecDepth 100000 in
theorem code6_8 {w : World} {E : Nat → Addr} {B : Nat} (V : Env w E B) : Calls Tryd.prog 22 #[er E 8] w fun e w' => e = .returned (.int .i64 8) ∧ w' = w := by
  have g1 := V.g.nil
  have g2 := V.li
  have g3 := V.g.noRun
  have g4 := V.g.shut
  have g5 := V.op
  have g7 := V.g.full
  have g8 := V.g.spent
  have o1 := eq_other V.ap (i := 8) (j := 1) (by decide) (by decide) (by decide)
  have o2 := eq_other V.ap (i := 8) (j := 2) (by decide) (by decide) (by decide)
  have o3 := eq_other V.ap (i := 8) (j := 3) (by decide) (by decide) (by decide)
  have o4 := eq_other V.ap (i := 8) (j := 4) (by decide) (by decide) (by decide)
  have o5 := eq_other V.ap (i := 8) (j := 5) (by decide) (by decide) (by decide)
  have o7 := eq_other V.ap (i := 8) (j := 7) (by decide) (by decide) (by decide)
  have hs := eq_same (w := w) (E 8)
  clear V
  go_enter Tryd.func22, Tryd.ntmps22
  go_wp2
  go_ret
  exact ⟨rfl, rfl⟩
set_option maxRecDepth 100000 in
theorem code6_9 {w : World} {E : Nat → Addr} {B : Nat} (V : Env w E B) : Calls Tryd.prog 22 #[er E 9] w fun e w' => e = .returned (.int .i64 9) ∧ w' = w := by
  have g1 := V.g.nil
  have g2 := V.li
  have g3 := V.g.noRun
  have g4 := V.g.shut
  have g5 := V.op
  have g7 := V.g.full
  have g8 := V.g.spent
  have g9 := V.g.broken
  have o1 := eq_other V.ap (i := 9) (j := 1) (by decide) (by decide) (by decide)
  have o2 := eq_other V.ap (i := 9) (j := 2) (by decide) (by decide) (by decide)
  have o3 := eq_other V.ap (i := 9) (j := 3) (by decide) (by decide) (by decide)
  have o4 := eq_other V.ap (i := 9) (j := 4) (by decide) (by decide) (by decide)
  have o5 := eq_other V.ap (i := 9) (j := 5) (by decide) (by decide) (by decide)
  have o7 := eq_other V.ap (i := 9) (j := 7) (by decide) (by decide) (by decide)
  have o8 := eq_other V.ap (i := 9) (j := 8) (by decide) (by decide) (by decide)
  have hs := eq_same (w := w) (E 9)
  clear V
  go_enter Tryd.func22, Tryd.ntmps22
  go_wp2
  go_ret
  exact ⟨rfl, rfl⟩
set_option maxRecDepth 100000 in
theorem code6_10 {w : World} {E : Nat → Addr} {B : Nat} (V : Env w E B) : Calls Tryd.prog 22 #[er E 10] w fun e w' => e = .returned (.int .i64 10) ∧ w' = w := by
  have g1 := V.g.nil
  have g2 := V.li
  have g3 := V.g.noRun
  have g4 := V.g.shut
  have g5 := V.op
  have g7 := V.g.full
  have g8 := V.g.spent
  have g9 := V.g.broken
  have g10 := V.rc
  have o1 := eq_other V.ap (i := 10) (j := 1) (by decide) (by decide) (by decide)
  have o2 := eq_other V.ap (i := 10) (j := 2) (by decide) (by decide) (by decide)
  have o3 := eq_other V.ap (i := 10) (j := 3) (by decide) (by decide) (by decide)
  have o4 := eq_other V.ap (i := 10) (j := 4) (by decide) (by decide) (by decide)
  have o5 := eq_other V.ap (i := 10) (j := 5) (by decide) (by decide) (by decide)
  have o7 := eq_other V.ap (i := 10) (j := 7) (by decide) (by decide) (by decide)
  have o8 := eq_other V.ap (i := 10) (j := 8) (by decide) (by decide) (by decide)
  have o9 := eq_other V.ap (i := 10) (j := 9) (by decide) (by decide) (by decide)
  have hs := eq_same (w := w) (E 10)
  clear V
  go_enter Tryd.func22, Tryd.ntmps22
  go_wp2
  go_ret
  exact ⟨rfl, rfl⟩
set_option maxRecDepth 100000 in
theorem code6_11 {w : World} {E : Nat → Addr} {B : Nat} (V : Env w E B) : Calls Tryd.prog 22 #[er E 11] w fun e w' => e = .returned (.int .i64 11) ∧ w' = w := by
  have g1 := V.g.nil
  have g2 := V.li
  have g3 := V.g.noRun
  have g4 := V.g.shut
  have g5 := V.op
  have g7 := V.g.full
  have g8 := V.g.spent
  have g9 := V.g.broken
  have g10 := V.rc
  have g11 := V.to
  have o1 := eq_other V.ap (i := 11) (j := 1) (by decide) (by decide) (by decide)
  have o2 := eq_other V.ap (i := 11) (j := 2) (by decide) (by decide) (by decide)
  have o3 := eq_other V.ap (i := 11) (j := 3) (by decide) (by decide) (by decide)
  have o4 := eq_other V.ap (i := 11) (j := 4) (by decide) (by decide) (by decide)
  have o5 := eq_other V.ap (i := 11) (j := 5) (by decide) (by decide) (by decide)
  have o7 := eq_other V.ap (i := 11) (j := 7) (by decide) (by decide) (by decide)
  have o8 := eq_other V.ap (i := 11) (j := 8) (by decide) (by decide) (by decide)
  have o9 := eq_other V.ap (i := 11) (j := 9) (by decide) (by decide) (by decide)
  have o10 := eq_other V.ap (i := 11) (j := 10) (by decide) (by decide) (by decide)
  have hs := eq_same (w := w) (E 11)
  clear V
  go_enter Tryd.func22, Tryd.ntmps22
  go_wp2
  go_ret
  exact ⟨rfl, rfl⟩
set_option maxRecDepth 100000 in
theorem code6_13 {w : World} {E : Nat → Addr} {B : Nat} (V : Env w E B) : Calls Tryd.prog 22 #[er E 13] w fun e w' => e = .returned (.int .i64 13) ∧ w' = w := by
  have g1 := V.g.nil
  have g2 := V.li
  have g3 := V.g.noRun
  have g4 := V.g.shut
  have g5 := V.op
  have g7 := V.g.full
  have g8 := V.g.spent
  have g9 := V.g.broken
  have g10 := V.rc
  have g11 := V.to
  have g13 := V.cl
  have o1 := eq_other V.ap (i := 13) (j := 1) (by decide) (by decide) (by decide)
  have o2 := eq_other V.ap (i := 13) (j := 2) (by decide) (by decide) (by decide)
  have o3 := eq_other V.ap (i := 13) (j := 3) (by decide) (by decide) (by decide)
  have o4 := eq_other V.ap (i := 13) (j := 4) (by decide) (by decide) (by decide)
  have o5 := eq_other V.ap (i := 13) (j := 5) (by decide) (by decide) (by decide)
  have o7 := eq_other V.ap (i := 13) (j := 7) (by decide) (by decide) (by decide)
  have o8 := eq_other V.ap (i := 13) (j := 8) (by decide) (by decide) (by decide)
  have o9 := eq_other V.ap (i := 13) (j := 9) (by decide) (by decide) (by decide)
  have o10 := eq_other V.ap (i := 13) (j := 10) (by decide) (by decide) (by decide)
  have o11 := eq_other V.ap (i := 13) (j := 11) (by decide) (by decide) (by decide)
  have hs := eq_same (w := w) (E 13)
  clear V
  go_enter Tryd.func22, Tryd.ntmps22
  go_wp2
  go_ret
  exact ⟨rfl, rfl⟩
/-- the failures that have a number -/
def Num6 (c : Nat) : Prop := c = 0 ∨ c = 1 ∨ c = 2 ∨ c = 3 ∨ c = 4 ∨ c = 5 ∨ c = 7 ∨ c = 8 ∨ c = 9 ∨ c = 10 ∨ c = 11 ∨ c = 13
theorem code6_any {w : World} {E : Nat → Addr} {B : Nat} (V : Env w E B) {c : Nat} (h : Num6 c) : Calls Tryd.prog 22 #[errV E c] w fun e w' => e = .returned (.int .i64 c) ∧ w' = w := by
  rcases h with rfl | rfl | rfl | rfl | rfl | rfl | rfl | rfl | rfl | rfl | rfl | rfl
  · exact code6_0 w
  · exact code6_1 V
  · exact code6_2 V
  · exact code6_3 V
  · exact code6_4 V
  · exact code6_5 V
  · exact code6_7 V
  · exact code6_8 V
  · exact code6_9 V
  · exact code6_10 V
  · exact code6_11 V
  · exact code6_13 V
end Rs
end Go.Proofs.YtdcffkahijpcbabDoor
