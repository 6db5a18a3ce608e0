/- Layer 9: the laws' own wakes. -/
import Derived.Test.YtbapnoafjcipjaaGreatDoorFo
namespace Go.Proofs.YtbapnoafjcipjaaGreatDoor
open Go.RowKit
namespace Rs
open Sm (Tx ofS)
theorem look_run {b q k : Nat} {W : List Tx} {m : Sto} (ok : m.Ok) (hr : m.runs = runsAt b W q) (hk : k < q) : look m.runs ((k + 1 : Nat) : Int) = some ⟨k + 1, Um.frs (Um.rl (ofS (prt b W k))), true⟩ := by
  have hm : runAt b W k ∈ m.runs := by rw [hr]; exact List.mem_map.2 ⟨k, List.mem_range.2 hk, rfl⟩
  exact look_of ok.sorted hm
theorem tx_b : (⟨#[98]⟩ : Tx) ≠ ⟨#[97]⟩ := by decide
theorem ofS_ba : ofS [(⟨#[98]⟩ : Tx), ⟨#[97]⟩] = [⟨#[97]⟩, ⟨#[98]⟩] := by
  refine Sm.rs_ext (Sm.ofS_rs _) ?_ fun x => by rw [Sm.ofS_mem]; simp [or_comm]
  rw [Sm.rs_cons]
  exact ⟨fun x hx => by rw [List.mem_singleton.1 hx]; exact Sm.lt_iff.2 (by decide), by simp [Sm.Rs]⟩
theorem ofS_c : ofS [(⟨#[99]⟩ : Tx)] = [⟨#[99]⟩] := Sm.rs_ext (Sm.ofS_rs _) (by simp [Sm.Rs]) fun z => by rw [Sm.ofS_mem]
theorem frs_ab : Um.frs (Um.rl [(⟨#[97]⟩ : Tx), ⟨#[98]⟩]) = [1, 97, 1, 98] := by
  simp only [Um.frs, Um.rl, List.map_cons, List.map_nil, List.flatMap_cons, List.flatMap_nil, Um.fr, Um.lst]
  rw [Um.uL_small (by decide), Um.uL_small (by decide)]
  rfl
theorem frs_c : Um.frs (Um.rl [(⟨#[99]⟩ : Tx)]) = [1, 99] := by
  simp only [Um.frs, Um.rl, List.map_cons, List.map_nil, List.flatMap_cons, List.flatMap_nil, Um.fr, Um.lst]
  rw [Um.uL_small (by decide)]
  rfl
abbrev bac : List Tx := [⟨#[98]⟩, ⟨#[97]⟩, ⟨#[99]⟩]
theorem txs_bac (W : World) : Um.Txs (W.alloc (.cells #[.string ⟨#[98]⟩, .string ⟨#[97]⟩, .string ⟨#[99]⟩] 9)) (.slice (some ⟨W.heap.size, 0, none⟩) 3 3) bac := by
  refine ⟨_, 3, rfl, by simp, (fun h => by cases h), fun _ => ⟨W.heap.size, 0, rfl, by simp, fun j z hz => ?_⟩⟩
  rw [Nat.zero_add, World.cell?_alloc_at _ _ _ _ rfl]
  have hj := (List.getElem?_eq_some_iff.1 hz).1
  simp at hj
  match j, hj with
  | 0, _ => simp at hz; subst hz; rfl
  | 1, _ => simp at hz; subst hz; rfl
  | 2, _ => simp at hz; subst hz; rfl
theorem nat_12 (W : World) : NAt (W.alloc (.cells #[.int .i64 1, .int .i64 2] 3)) (.slice (some ⟨W.heap.size, 0, none⟩) 2 2) [1, 2] := by
  refine ⟨_, 2, rfl, fun _ => ⟨W.heap.size, 0, rfl, by simp, fun j n hn => ?_⟩⟩
  rw [Nat.zero_add, World.cell?_alloc_at _ _ _ _ rfl]
  have hj := (List.getElem?_eq_some_iff.1 hn).1
  simp at hj
  match j, hj with
  | 0, _ => simp at hn; subst hn; rfl
  | 1, _ => simp at hn; subst hn; rfl
section
variable {w wr : World} {E : Nat → Addr} {L : List Thing} {D : Nat → Nat} {i sb : Nat} {m : Sto} {v : Value} {l : List Nat}
theorem sep_text (V : EnvR w E w.heap.size) (h : Sep w L D wr) (hi : L[i]? = some (scT sb m v l)) {n : Nat} {T : List UInt8} (hn : n ≤ 16777216) (hl : look m.runs n = some ⟨n, T, true⟩) :
    Calls Tryz.prog 25 #[.pointer (some ⟨sb, 0, none⟩), .int .i64 n] wr fun e w' => e = .returned (.string (strB T)) ∧ Sep w L (fun _ => w'.heap.size) w' ∧ Below wr.heap.size wr w' := by
  obtain ⟨F, h1, h2, h3, h4⟩ := sep_sc h hi
  refine (text_any (V.below h4) h3 h4.size h1 hn hl).mono ?_
  rintro e w' ⟨rfl, hb⟩
  exact ⟨rfl, (h.below hb).reset, hb⟩
end
set_option maxRecDepth 100000 in
set_option maxHeartbeats 2000000 in
theorem wakes_any {w : World} {E : Nat → Addr} (V : EnvR w E w.heap.size) : Calls Tryz.prog 7 #[] w fun e w' => e = .returned (.bool true) ∧ Below w.heap.size w w' := by
  have c0 := chk_new 2 (by decide) 100 (by decide)
  obtain ⟨a1, c1⟩ := Chk.adds (b := 2) (cap := 100) bac [] _ _ c0 (by decide) (by decide) (by decide)
  obtain ⟨mA, fA, hA⟩ : ∃ mA fA, adds (newS ((100 : Nat) : Int)) ⟨2, [], [], 0⟩ bac = (0, mA, fA) := ⟨_, _, Prod.ext a1 rfl⟩
  rw [hA] at c1
  dsimp only at c1
  obtain ⟨b1, b2, b3⟩ := c1.fins (by decide)
  obtain ⟨mF, fF, hF⟩ : ∃ mF fF, fins mA fA = (0, mF, fF) := ⟨_, _, Prod.ext b1 rfl⟩
  rw [hF] at b3
  dsimp only at b3
  have hmade : mF.made = 2 := by rw [b3.num]; decide
  have hmd : fF.made = [1, 2] := by rw [b3.made, hmade]; rfl
  have hruns := b3.runs
  rw [hmade] at hruns
  have k1 := look_run (k := 0) b3.ok hruns (by decide)
  have k2 := look_run (k := 1) b3.ok hruns (by decide)
  rw [show prt 2 ([] ++ bac) 0 = [⟨#[98]⟩, ⟨#[97]⟩] from rfl, ofS_ba, frs_ab] at k1
  rw [show prt 2 ([] ++ bac) 1 = [⟨#[99]⟩] from rfl, ofS_c, frs_c] at k2
  have HN : Hid (Calls Tryz.prog 5 #[.int .i64 100] w fun e w' => e = .returned (.pointer (some ⟨w.heap.size, 0, none⟩)) ∧ Sep w [stoT w.heap.size (newS ((100 : Nat) : Int))] (fun _ => w'.heap.size) w') := sep_new (Sep.nil w fun _ => 0) 100 (by decide) (by decide)
  obtain ⟨sb, hsb⟩ : ∃ sb, w.heap.size = sb := ⟨_, rfl⟩
  have HF : Hid (∀ W, Sep w [stoT sb (newS ((100 : Nat) : Int))] (fun _ => W.heap.size) W → Calls Tryz.prog 11 #[.pointer (some ⟨sb, 0, none⟩), .int .i64 2] W fun e w' => ∃ fb, e = .returned (.tuple #[.pointer (some ⟨fb, 0, none⟩), .nilIface]) ∧ Sep w [sfT E sb fb (newS ((100 : Nat) : Int)) ⟨2, [], [], 0⟩] (fun _ => w'.heap.size) w') := fun W h => sep_fnew (E := E) h (i := 0) rfl 2 (by decide) (by decide)
  have HA : Hid (∀ W fb, Sep w [sfT E sb fb (newS ((100 : Nat) : Int)) ⟨2, [], [], 0⟩] (fun _ => W.heap.size) W → Calls Tryz.prog 15 #[.pointer (some ⟨fb, 0, none⟩), .slice (some ⟨W.heap.size, 0, none⟩) 3 3] (W.alloc (.cells #[.string ⟨#[98]⟩, .string ⟨#[97]⟩, .string ⟨#[99]⟩] 9)) fun e w' => e = .returned .nilIface ∧ Sep w [sfT E sb fb mA fA] (fun _ => w'.heap.size) w') := fun W fb h => by
    have q := sep_add V.toEnv (h.below ((Below.refl _ W).alloc (Nat.le_refl _) _)) (i := 0) rfl (c0.for (by decide)) (by decide) (txs_bac W) (fun a n c e => .inr (by injection e with e _ _; injection e with e; rw [← e]; exact Nat.le_refl _)) (by decide) (by decide)
    rw [hA] at q
    exact q
  have HFI : Hid (∀ W fb, Sep w [sfT E sb fb mA fA] (fun _ => W.heap.size) W → Calls Tryz.prog 19 #[.pointer (some ⟨fb, 0, none⟩)] W fun e w' => ∃ a c, e = .returned (.tuple #[.slice a 2 c, .nilIface]) ∧ Sep w [scT sb mF (.slice a 2 c) [1, 2]] (fun _ => w'.heap.size) w') := fun W fb h => by
    have q := sep_finish V.toEnv h (i := 0) rfl (c1.for (by decide)) (by rw [c1.size]; exact c1.full) hF
    rw [hmd] at q
    exact q
  have HI : Hid (∀ W a c, Sep w [scT sb mF (.slice a 2 c) [1, 2]] (fun _ => W.heap.size) W → Calls Tryz.prog 24 #[.slice a 2 c, .slice (some ⟨W.heap.size, 0, none⟩) 2 2] (W.alloc (.cells #[.int .i64 1, .int .i64 2] 3)) fun e w' => e = .returned (.bool true) ∧ Sep w [scT sb mF (.slice a 2 c) [1, 2]] (fun _ => w'.heap.size) w') := fun W a c h => by
    have hb : Below W.heap.size W (W.alloc (.cells #[.int .i64 1, .int .i64 2] 3)) := (Below.refl _ W).alloc (Nat.le_refl _) _
    obtain ⟨F, h1, h2, h3, h4⟩ := sep_sc h (i := 0) rfl
    refine (ints_any ((nat_of h2).below hb) (nat_12 W) (by decide)).mono ?_
    rintro e w' ⟨rfl, hb2⟩
    exact ⟨rfl, ((h.below hb).below hb2).reset⟩
  have HT1 : Hid (∀ W a c, Sep w [scT sb mF (.slice a 2 c) [1, 2]] (fun _ => W.heap.size) W → Calls Tryz.prog 25 #[.pointer (some ⟨sb, 0, none⟩), .int .i64 1] W fun e w' => e = .returned (.string ⟨#[1, 97, 1, 98]⟩) ∧ Sep w [scT sb mF (.slice a 2 c) [1, 2]] (fun _ => w'.heap.size) w') := fun W a c h =>
    (sep_text V h (i := 0) rfl (n := 1) (by decide) k1).mono fun e w' hh => ⟨hh.1, hh.2.1⟩
  have HT2 : Hid (∀ W a c, Sep w [scT sb mF (.slice a 2 c) [1, 2]] (fun _ => W.heap.size) W → Calls Tryz.prog 25 #[.pointer (some ⟨sb, 0, none⟩), .int .i64 2] W fun e w' => e = .returned (.string ⟨#[1, 99]⟩) ∧ Sep w [scT sb mF (.slice a 2 c) [1, 2]] (fun _ => w'.heap.size) w') := fun W a c h =>
    (sep_text V h (i := 0) rfl (n := 2) (by decide) k2).mono fun e w' hh => ⟨hh.1, hh.2.1⟩
  rw [hsb] at HN
  have HSB := hide hsb
  clear V c0 a1 c1 hA b1 b2 b3 hF hmade hmd hruns k1 k2 hsb
  go_enter Tryz.func7, Tryz.ntmps7
  go_wp2_with (first
    | (go_at_call 5; refine (unhide HN).mono ?_; rintro e w1 ⟨rfl, h1⟩; have HS1 := hide h1; clear h1)
    | (go_at_call 11; refine (unhide HF _ (unhide HS1)).mono ?_; rintro e w2 ⟨fb, rfl, h2⟩; have HS2 := hide h2; clear h2)
    | (go_at_call 15; refine (unhide HA _ fb (unhide HS2)).mono ?_; rintro e w3 ⟨rfl, h3⟩; have HS3 := hide h3; clear h3)
    | (go_at_call 19; refine (unhide HFI _ fb (unhide HS3)).mono ?_; rintro e w4 ⟨a, c, rfl, h4⟩; have HS4 := hide h4; clear h4)
    | (go_at_call 24; refine (unhide HI _ a c (unhide HS4)).mono ?_; rintro e w5 ⟨rfl, h5⟩; have HS5 := hide h5; clear h5)
    | (go_at_call 25; refine (unhide HT1 _ a c (unhide HS5)).mono ?_; clear HT1; rintro e w6 ⟨rfl, h6⟩; have HS6 := hide h6; clear h6)
    | (go_at_call 25; refine (unhide HT2 _ a c (unhide HS6)).mono ?_; rintro e w7 ⟨rfl, h7⟩; have HS7 := hide h7; clear h7))
  go_ret
  exact ⟨rfl, (unhide HS7).old⟩
end Rs
end Go.Proofs.YtbapnoafjcipjaaGreatDoor
