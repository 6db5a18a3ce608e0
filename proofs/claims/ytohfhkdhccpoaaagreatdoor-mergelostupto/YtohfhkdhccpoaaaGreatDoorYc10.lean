/- Layer 10: the failures' numbers. -/
import Derived.Test.YtohfhkdhccpoaaaGreatDoorGq
namespace Go.Proofs.YtohfhkdhccpoaaaGreatDoor
open Go.RowKit
namespace Rs
set_option maxRecDepth 100000 in
theorem code10_1 {w : World} {E : Nat → Addr} {B : Nat} (V : EnvZ w E B) : Calls Tryz.prog 27 #[er E 1] w fun e w' => e = .returned (.int .i64 1) ∧ w' = w := by
  have g1 := V.g.nil
  have hs := eq_same (w := w) (E 1)
  clear V
  go_enter Tryz.func27, Tryz.ntmps27
  go_wp2
  go_ret
  exact ⟨rfl, rfl⟩
set_option maxRecDepth 100000 in
theorem code10_2 {w : World} {E : Nat → Addr} {B : Nat} (V : EnvZ w E B) : Calls Tryz.prog 27 #[er E 2] w fun e w' => e = .returned (.int .i64 2) ∧ w' = w := by
  have g1 := V.g.nil
  have g2 := V.li
  have o1 := eq_other V.apz (i := 2) (j := 1) (by decide) (by decide) (by decide)
  have hs := eq_same (w := w) (E 2)
  clear V
  go_enter Tryz.func27, Tryz.ntmps27
  go_wp2
  go_ret
  exact ⟨rfl, rfl⟩
set_option maxRecDepth 100000 in
theorem code10_3 {w : World} {E : Nat → Addr} {B : Nat} (V : EnvZ w E B) : Calls Tryz.prog 27 #[er E 3] w fun e w' => e = .returned (.int .i64 3) ∧ w' = w := by
  have g1 := V.g.nil
  have g2 := V.li
  have g3 := V.g.noRun
  have o1 := eq_other V.apz (i := 3) (j := 1) (by decide) (by decide) (by decide)
  have o2 := eq_other V.apz (i := 3) (j := 2) (by decide) (by decide) (by decide)
  have hs := eq_same (w := w) (E 3)
  clear V
  go_enter Tryz.func27, Tryz.ntmps27
  go_wp2
  go_ret
  exact ⟨rfl, rfl⟩
set_option maxRecDepth 100000 in
theorem code10_5 {w : World} {E : Nat → Addr} {B : Nat} (V : EnvZ w E B) : Calls Tryz.prog 27 #[er E 5] w fun e w' => e = .returned (.int .i64 5) ∧ w' = w := by
  have g1 := V.g.nil
  have g2 := V.li
  have g3 := V.g.noRun
  have g5 := V.op
  have o1 := eq_other V.apz (i := 5) (j := 1) (by decide) (by decide) (by decide)
  have o2 := eq_other V.apz (i := 5) (j := 2) (by decide) (by decide) (by decide)
  have o3 := eq_other V.apz (i := 5) (j := 3) (by decide) (by decide) (by decide)
  have hs := eq_same (w := w) (E 5)
  clear V
  go_enter Tryz.func27, Tryz.ntmps27
  go_wp2
  go_ret
  exact ⟨rfl, rfl⟩
set_option maxRecDepth 100000 in
theorem code10_7 {w : World} {E : Nat → Addr} {B : Nat} (V : EnvZ w E B) : Calls Tryz.prog 27 #[er E 7] w fun e w' => e = .returned (.int .i64 7) ∧ w' = w := by
  have g1 := V.g.nil
  have g2 := V.li
  have g3 := V.g.noRun
  have g5 := V.op
  have g7 := V.g.full
  have o1 := eq_other V.apz (i := 7) (j := 1) (by decide) (by decide) (by decide)
  have o2 := eq_other V.apz (i := 7) (j := 2) (by decide) (by decide) (by decide)
  have o3 := eq_other V.apz (i := 7) (j := 3) (by decide) (by decide) (by decide)
  have o5 := eq_other V.apz (i := 7) (j := 5) (by decide) (by decide) (by decide)
  have hs := eq_same (w := w) (E 7)
  clear V
  go_enter Tryz.func27, Tryz.ntmps27
  go_wp2
  go_ret
  exact ⟨rfl, rfl⟩
set_option maxRecDepth 100000 in
theorem code10_8 {w : World} {E : Nat → Addr} {B : Nat} (V : EnvZ w E B) : Calls Tryz.prog 27 #[er E 8] w fun e w' => e = .returned (.int .i64 8) ∧ w' = w := by
  have g1 := V.g.nil
  have g2 := V.li
  have g3 := V.g.noRun
  have g5 := V.op
  have g7 := V.g.full
  have g8 := V.g.spent
  have o1 := eq_other V.apz (i := 8) (j := 1) (by decide) (by decide) (by decide)
  have o2 := eq_other V.apz (i := 8) (j := 2) (by decide) (by decide) (by decide)
  have o3 := eq_other V.apz (i := 8) (j := 3) (by decide) (by decide) (by decide)
  have o5 := eq_other V.apz (i := 8) (j := 5) (by decide) (by decide) (by decide)
  have o7 := eq_other V.apz (i := 8) (j := 7) (by decide) (by decide) (by decide)
  have hs := eq_same (w := w) (E 8)
  clear V
  go_enter Tryz.func27, Tryz.ntmps27
  go_wp2
  go_ret
  exact ⟨rfl, rfl⟩
set_option maxRecDepth 100000 in
theorem code10_9 {w : World} {E : Nat → Addr} {B : Nat} (V : EnvZ w E B) : Calls Tryz.prog 27 #[er E 9] w fun e w' => e = .returned (.int .i64 9) ∧ w' = w := by
  have g1 := V.g.nil
  have g2 := V.li
  have g3 := V.g.noRun
  have g5 := V.op
  have g7 := V.g.full
  have g8 := V.g.spent
  have g9 := V.g.broken
  have o1 := eq_other V.apz (i := 9) (j := 1) (by decide) (by decide) (by decide)
  have o2 := eq_other V.apz (i := 9) (j := 2) (by decide) (by decide) (by decide)
  have o3 := eq_other V.apz (i := 9) (j := 3) (by decide) (by decide) (by decide)
  have o5 := eq_other V.apz (i := 9) (j := 5) (by decide) (by decide) (by decide)
  have o7 := eq_other V.apz (i := 9) (j := 7) (by decide) (by decide) (by decide)
  have o8 := eq_other V.apz (i := 9) (j := 8) (by decide) (by decide) (by decide)
  have hs := eq_same (w := w) (E 9)
  clear V
  go_enter Tryz.func27, Tryz.ntmps27
  go_wp2
  go_ret
  exact ⟨rfl, rfl⟩
set_option maxRecDepth 100000 in
theorem code10_10 {w : World} {E : Nat → Addr} {B : Nat} (V : EnvZ w E B) : Calls Tryz.prog 27 #[er E 10] w fun e w' => e = .returned (.int .i64 10) ∧ w' = w := by
  have g1 := V.g.nil
  have g2 := V.li
  have g3 := V.g.noRun
  have g5 := V.op
  have g7 := V.g.full
  have g8 := V.g.spent
  have g9 := V.g.broken
  have g10 := V.rc
  have o1 := eq_other V.apz (i := 10) (j := 1) (by decide) (by decide) (by decide)
  have o2 := eq_other V.apz (i := 10) (j := 2) (by decide) (by decide) (by decide)
  have o3 := eq_other V.apz (i := 10) (j := 3) (by decide) (by decide) (by decide)
  have o5 := eq_other V.apz (i := 10) (j := 5) (by decide) (by decide) (by decide)
  have o7 := eq_other V.apz (i := 10) (j := 7) (by decide) (by decide) (by decide)
  have o8 := eq_other V.apz (i := 10) (j := 8) (by decide) (by decide) (by decide)
  have o9 := eq_other V.apz (i := 10) (j := 9) (by decide) (by decide) (by decide)
  have hs := eq_same (w := w) (E 10)
  clear V
  go_enter Tryz.func27, Tryz.ntmps27
  go_wp2
  go_ret
  exact ⟨rfl, rfl⟩
set_option maxRecDepth 100000 in
theorem code10_12 {w : World} {E : Nat → Addr} {B : Nat} (V : EnvZ w E B) : Calls Tryz.prog 27 #[er E 12] w fun e w' => e = .returned (.int .i64 12) ∧ w' = w := by
  have g1 := V.g.nil
  have g2 := V.li
  have g3 := V.g.noRun
  have g5 := V.op
  have g7 := V.g.full
  have g8 := V.g.spent
  have g9 := V.g.broken
  have g10 := V.rc
  have g12 := V.sa
  have o1 := eq_other V.apz (i := 12) (j := 1) (by decide) (by decide) (by decide)
  have o2 := eq_other V.apz (i := 12) (j := 2) (by decide) (by decide) (by decide)
  have o3 := eq_other V.apz (i := 12) (j := 3) (by decide) (by decide) (by decide)
  have o5 := eq_other V.apz (i := 12) (j := 5) (by decide) (by decide) (by decide)
  have o7 := eq_other V.apz (i := 12) (j := 7) (by decide) (by decide) (by decide)
  have o8 := eq_other V.apz (i := 12) (j := 8) (by decide) (by decide) (by decide)
  have o9 := eq_other V.apz (i := 12) (j := 9) (by decide) (by decide) (by decide)
  have o10 := eq_other V.apz (i := 12) (j := 10) (by decide) (by decide) (by decide)
  have hs := eq_same (w := w) (E 12)
  clear V
  go_enter Tryz.func27, Tryz.ntmps27
  go_wp2
  go_ret
  exact ⟨rfl, rfl⟩
set_option maxRecDepth 100000 in
theorem code10_13 {w : World} {E : Nat → Addr} {B : Nat} (V : EnvZ w E B) : Calls Tryz.prog 27 #[er E 13] w fun e w' => e = .returned (.int .i64 13) ∧ w' = w := by
  have g1 := V.g.nil
  have g2 := V.li
  have g3 := V.g.noRun
  have g5 := V.op
  have g7 := V.g.full
  have g8 := V.g.spent
  have g9 := V.g.broken
  have g10 := V.rc
  have g12 := V.sa
  have g13 := V.cl
  have o1 := eq_other V.apz (i := 13) (j := 1) (by decide) (by decide) (by decide)
  have o2 := eq_other V.apz (i := 13) (j := 2) (by decide) (by decide) (by decide)
  have o3 := eq_other V.apz (i := 13) (j := 3) (by decide) (by decide) (by decide)
  have o5 := eq_other V.apz (i := 13) (j := 5) (by decide) (by decide) (by decide)
  have o7 := eq_other V.apz (i := 13) (j := 7) (by decide) (by decide) (by decide)
  have o8 := eq_other V.apz (i := 13) (j := 8) (by decide) (by decide) (by decide)
  have o9 := eq_other V.apz (i := 13) (j := 9) (by decide) (by decide) (by decide)
  have o10 := eq_other V.apz (i := 13) (j := 10) (by decide) (by decide) (by decide)
  have o12 := eq_other V.apz (i := 13) (j := 12) (by decide) (by decide) (by decide)
  have hs := eq_same (w := w) (E 13)
  clear V
  go_enter Tryz.func27, Tryz.ntmps27
  go_wp2
  go_ret
  exact ⟨rfl, rfl⟩
set_option maxRecDepth 100000 in
theorem code10_0 (w : World) : Calls Tryz.prog 27 #[.nilIface] w fun e w' => e = .returned (.int .i64 0) ∧ w' = w := by
  go_enter Tryz.func27, Tryz.ntmps27
  go_wp2
  go_ret
  exact ⟨rfl, rfl⟩
theorem code10 {w : World} {E : Nat → Addr} {B : Nat} (V : EnvZ w E B) {c : Nat} (hc : c = 0 ∨ c = 1 ∨ c = 2 ∨ c = 3 ∨ c = 5 ∨ c = 7 ∨ c = 8 ∨ c = 9 ∨ c = 10 ∨ c = 12 ∨ c = 13) : Calls Tryz.prog 27 #[errV E c] w fun e w' => e = .returned (.int .i64 c) ∧ w' = w := by
  rcases hc with rfl | rfl | rfl | rfl | rfl | rfl | rfl | rfl | rfl | rfl | rfl
  · exact code10_0 w
  · exact code10_1 V
  · exact code10_2 V
  · exact code10_3 V
  · exact code10_5 V
  · exact code10_7 V
  · exact code10_8 V
  · exact code10_9 V
  · exact code10_10 V
  · exact code10_12 V
  · exact code10_13 V
end Rs
end Go.Proofs.YtohfhkdhccpoaaaGreatDoor
