/- Layer 10: Sort of any outcome. -/
import Derived.Test.YtohfhkdhccpoaaaGreatDoorNb
namespace Go.Proofs.YtohfhkdhccpoaaaGreatDoor
open Go.RowKit Go.Shelf
namespace Rs
open Sm (Tx ofS)
set_option maxRecDepth 100000 in
theorem add_long {w : World} {E : Nat → Addr} {B sb fb : Nat} {f : For} {G : Nat → Prop} {bv mv v : Value} {X : List Tx} (V : Env w E B) (h : FIn w sb fb f G bv mv) (hT : Um.Txs w v X) (hm : X.length ≤ 9223372036854775807) (hl : X.any long = true) :
    Calls Tryz.prog 37 #[.pointer (some ⟨fb, 0, none⟩), v] w fun e w' => e = .returned (er E 10) ∧ Below w.heap.size w w' := by
  have HCK := hide (fcheck_live h)
  have hcl := contains_long hT hm
  rw [hl] at hcl
  have HCL := hide hcl
  have hc := V.rc
  have hz : 8 < w.heap.size := by have := V.g.sz; omega
  unfold er at hc ⊢
  obtain ⟨ao, cap, rfl, -⟩ := hT
  clear V h hl hcl
  go_enter Tryz.func37, Tryz.ntmps37
  go_wp2_with (first
    | (go_at_call 63; refine (unhide HCK).mono ?_; rintro e w1 ⟨rfl, hw⟩; have hw' := hw.symm; subst hw'; clear hw)
    | (go_at_call 64; refine (unhide HCL).mono ?_; rintro e w1 ⟨rfl, hw⟩; have hw' := hw.symm; subst hw'; clear hw))
  go_ret
  exact ⟨rfl, Below.refl _ _⟩
set_option maxRecDepth 100000 in
theorem sort_long {w : World} {E : Nat → Addr} {Be sb fan b : Nat} {m : Sto} {F : Nat → Prop} {v : Value} {X : List Tx} (V : EnvZ w E Be) (hB : Be ≤ w.heap.size) (h : At w sb m F) (hT : Um.Txs w v X) (hm : X.length ≤ 9223372036854775806) (hb1 : 1 ≤ b) (hb2 : b ≤ 65536) (h2 : 2 ≤ fan) (h64 : fan ≤ 64) (hl : X.any long = true) :
    Calls Tryz.prog 15 #[.pointer (some ⟨sb, 0, none⟩), .int .i64 b, .int .i64 fan, v] w fun e w' => e = .returned (.tuple #[.int .i64 0, errV E 10]) ∧ Res F w sb m w' := by
  have hFl := h.lt
  have HNW := hide (fnew_go w sb b hb1 hb2)
  have HIS : Hid (∀ W, Calls Tryz.prog 36 #[.int .i64 fan] W fun e w' => e = .returned (.bool true) ∧ w' = W) := fun W => isfan_yes W fan (by omega) (by omega)
  have HAD : Hid (∀ w1, FIn w1 sb w.heap.size ⟨b, [], [], 0⟩ (fun y => y = w.heap.size) (.slice none 0 0) (.slice none 0 0) → Below w.heap.size w w1 → Calls Tryz.prog 37 #[.pointer (some ⟨w.heap.size, 0, none⟩), v] w1 fun e w' => e = .returned (er E 10) ∧ Res F w sb m w') := fun w1 hf b1 => by
    refine (add_long (V.toEnv.below (b1.mono hB)) hf (hT.below b1) (by omega) hl).mono ?_
    rintro e w' ⟨rfl, b2⟩
    have b3 := b1.trans (b2.mono b1.size)
    exact ⟨rfl, (h.kept (fun b q => b3.block b (hFl b q)) (fun _ x => x) (fun b q => Nat.lt_of_lt_of_le (hFl b q) b3.size)).res (Chg.of_below b3)⟩
  rw [errV_pos E (by decide)]
  unfold er at HAD ⊢
  obtain ⟨ao, cap, rfl, -⟩ := hT
  clear V h hl hFl hm
  go_enter Tryz.func15, Tryz.ntmps15
  go_wp2_with fail
  refine (unhide HNW).mono ?_
  rintro e w1 ⟨rfl, hf1, b1⟩
  have HA := hide (unhide HAD w1 hf1 b1)
  have HB1 := hide b1
  clear hf1 b1 HNW HAD
  go_wp2_with fail
  refine (unhide HIS w1).mono ?_
  rintro e w1' ⟨rfl, hw⟩
  have hw' := hw.symm
  subst hw'
  clear hw
  go_wp2_with fail
  refine (unhide HA).mono ?_
  rintro e w2 ⟨rfl, r2⟩
  have HR := hide r2
  clear r2 HA
  go_wp2
  go_ret2
  exact ⟨rfl, unhide HR⟩
set_option maxRecDepth 100000 in
theorem sort_addf {w : World} {E : Nat → Addr} {Be sb fan b c : Nat} {m m1 : Sto} {f1 : For} {F : Nat → Prop} {v : Value} {X : List Tx} (V : EnvZ w E Be) (hF : ∀ b, F b → Be ≤ b) (hB : Be ≤ w.heap.size) (h : At w sb m F) (hT : Um.Txs w v X) (hv : ∀ a n c, v = .slice (some a) n c → ¬ F a.block ∧ a.block < w.heap.size) (hx : ∀ x ∈ X, x.size ≤ 255) (hm : X.length ≤ 9223372036854775806) (hb1 : 1 ≤ b) (hb2 : b ≤ 65536) (h2 : 2 ≤ fan) (h64 : fan ≤ 64)
    (hA : adds m ⟨b, [], [], 0⟩ X = (c, m1, f1)) (hc : c ≠ 0) :
    Calls Tryz.prog 15 #[.pointer (some ⟨sb, 0, none⟩), .int .i64 b, .int .i64 fan, v] w fun e w' => e = .returned (.tuple #[.int .i64 0, errV E c]) ∧ Res F w sb m1 w' := by
  have hFl := h.lt
  have HNW := hide (fnew_go w sb b hb1 hb2)
  have HIS : Hid (∀ W, Calls Tryz.prog 36 #[.int .i64 fan] W fun e w' => e = .returned (.bool true) ∧ w' = W) := fun W => isfan_yes W fan (by omega) (by omega)
  have HAD : Hid (∀ w1, FIn w1 sb w.heap.size ⟨b, [], [], 0⟩ (fun y => y = w.heap.size) (.slice none 0 0) (.slice none 0 0) → Below w.heap.size w w1 → Calls Tryz.prog 37 #[.pointer (some ⟨w.heap.size, 0, none⟩), v] w1 fun e w' => e = .returned (er E c) ∧ Res F w sb m1 w') := fun w1 hf b1 => by
    have q := add_go (B := Be) (F := F) ⟨V.toEnv.below (b1.mono hB), hF, (fun b e => by omega), Nat.le_trans hB b1.size⟩ (h.kept (fun b q => b1.block b (h.lt b q)) (fun _ x => x) (fun b q => Nat.lt_of_lt_of_le (h.lt b q) b1.size)) hf (fun b q e => by have := hFl b q; omega) ⟨hb1, hb2, (fun _ q => by cases q), Nat.zero_le _, (fun _ q => by cases q), rfl⟩ hb1 (Wds.of (hT.below b1) (fun y hy a n c e => ?_)) hm (no_long hx)
    · rw [hA] at q
      refine q.mono ?_
      rintro e w2 ⟨rfl, F2, G2, a1, a2, a3, a4, a5, a6⟩
      exact ⟨by rw [errV_pos E hc], sort_fin hFl b1 a6 a4 a5 (Chg.refl (fun b => F2 b ∨ G2 b) w2) (fun b q => .inl q) (a1.res (Chg.refl _ _))⟩
    · obtain ⟨v1, v2⟩ := hv a n c e
      rcases hy with hy | hy
      · exact fun z => v1 (z ▸ hy)
      · omega
  rw [errV_pos E hc]
  unfold er at HAD ⊢
  obtain ⟨ao, cap, rfl, -⟩ := hT
  clear V hF h hv hx hA hFl hm
  go_enter Tryz.func15, Tryz.ntmps15
  go_wp2_with fail
  refine (unhide HNW).mono ?_
  rintro e w1 ⟨rfl, hf1, b1⟩
  have HA := hide (unhide HAD w1 hf1 b1)
  have HB1 := hide b1
  clear hf1 b1 HNW HAD
  go_wp2_with fail
  refine (unhide HIS w1).mono ?_
  rintro e w1' ⟨rfl, hw⟩
  have hw' := hw.symm
  subst hw'
  clear hw
  go_wp2_with fail
  refine (unhide HA).mono ?_
  rintro e w2 ⟨rfl, r2⟩
  have HR := hide r2
  clear r2 HA
  go_wp2
  go_ret2
  exact ⟨rfl, unhide HR⟩
set_option maxRecDepth 100000 in
theorem sort_finf {w : World} {E : Nat → Addr} {Be sb fan b c : Nat} {m m1 m2 : Sto} {f1 f2 : For} {F : Nat → Prop} {v : Value} {X : List Tx} (V : EnvZ w E Be) (hF : ∀ b, F b → Be ≤ b) (hB : Be ≤ w.heap.size) (h : At w sb m F) (hT : Um.Txs w v X) (hv : ∀ a n c, v = .slice (some a) n c → ¬ F a.block ∧ a.block < w.heap.size) (hx : ∀ x ∈ X, x.size ≤ 255) (hm : X.length ≤ 9223372036854775806) (hb1 : 1 ≤ b) (hb2 : b ≤ 65536) (h2 : 2 ≤ fan) (h64 : fan ≤ 64)
    (hA : adds m ⟨b, [], [], 0⟩ X = (0, m1, f1)) (hR : fins m1 f1 = (c, m2, f2)) (hc : c ≠ 0) :
    Calls Tryz.prog 15 #[.pointer (some ⟨sb, 0, none⟩), .int .i64 b, .int .i64 fan, v] w fun e w' => e = .returned (.tuple #[.int .i64 0, errV E c]) ∧ Res F w sb m2 w' := by
  have hFl := h.lt
  have HNW := hide (fnew_go w sb b hb1 hb2)
  have HIS : Hid (∀ W, Calls Tryz.prog 36 #[.int .i64 fan] W fun e w' => e = .returned (.bool true) ∧ w' = W) := fun W => isfan_yes W fan (by omega) (by omega)
  have hok0 : For.Ok ⟨b, [], [], 0⟩ m := ⟨hb1, hb2, (fun _ q => by cases q), Nat.zero_le _, (fun _ q => by cases q), rfl⟩
  have hok1 := addsx_ok X m ⟨b, [], [], 0⟩ hok0 hb1 hx (by rw [hA])
  rw [hA] at hok1
  have HAD : Hid (∀ w1, FIn w1 sb w.heap.size ⟨b, [], [], 0⟩ (fun y => y = w.heap.size) (.slice none 0 0) (.slice none 0 0) → Below w.heap.size w w1 → Calls Tryz.prog 37 #[.pointer (some ⟨w.heap.size, 0, none⟩), v] w1 fun e w' => e = .returned .nilIface ∧ FRes F (fun y => y = w.heap.size) w1 E sb w.heap.size m1 f1 w') := fun w1 hf b1 => by
    have q := add_go (B := Be) (F := F) ⟨V.toEnv.below (b1.mono hB), hF, (fun b e => by omega), Nat.le_trans hB b1.size⟩ (h.kept (fun b q => b1.block b (h.lt b q)) (fun _ x => x) (fun b q => Nat.lt_of_lt_of_le (h.lt b q) b1.size)) hf (fun b q e => by have := hFl b q; omega) ⟨hb1, hb2, (fun _ q => by cases q), Nat.zero_le _, (fun _ q => by cases q), rfl⟩ hb1 (Wds.of (hT.below b1) (fun y hy a n c e => ?_)) hm (no_long hx)
    · rw [hA] at q
      exact q
    · obtain ⟨v1, v2⟩ := hv a n c e
      rcases hy with hy | hy
      · exact fun z => v1 (z ▸ hy)
      · omega
  have HFN : Hid (∀ w1 w2, Below w.heap.size w w1 → FRes F (fun y => y = w.heap.size) w1 E sb w.heap.size m1 f1 w2 → Calls Tryz.prog 38 #[.pointer (some ⟨w.heap.size, 0, none⟩)] w2 fun e w3 => e = .returned (.tuple #[.slice none 0 0, er E c]) ∧ Res F w sb m2 w3) := fun w1 w2 b1 r => by
    obtain ⟨F2, G2, a1, a2, a3, a4, a5, a6⟩ := r
    have s1 := b1.size
    have s2 := a6.size
    have f2b : ∀ b, F2 b → Be ≤ b := fun b q => by
      rcases a4 b q with z | z
      · exact hF b z
      · omega
    have g2b : ∀ b, G2 b → Be ≤ b := fun b q => by
      rcases a5 b q with z | z
      · omega
      · omega
    have bw2 : Below Be w w2 := (b1.mono hB).trans (a6.below (by omega) fun b q => by
      rcases q with q | q
      · exact hF b q
      · omega)
    obtain ⟨bv, mv, hf⟩ := a2.live hok1.1.live
    refine (finish_fail (B := Be) ⟨V.toEnv.below bw2, f2b, g2b, by omega⟩ a1 hf a3 hok1.1 hok1.2.1 hR hc).mono ?_
    rintro e w3 ⟨rfl, F3, G3, q1, q2, q3, q4, q5, q6⟩
    exact ⟨rfl, sort_fin hFl b1 a6 a4 a5 q6 q4 (q1.res (Chg.refl _ _))⟩
  rw [errV_pos E hc]
  unfold er at HFN ⊢
  obtain ⟨ao, cap, rfl, -⟩ := hT
  clear V hF h hv hx hA hR hok0 hok1 hFl hm
  go_enter Tryz.func15, Tryz.ntmps15
  go_wp2_with fail
  refine (unhide HNW).mono ?_
  rintro e w1 ⟨rfl, hf1, b1⟩
  have HA := hide (unhide HAD w1 hf1 b1)
  have HB1 := hide b1
  clear hf1 b1 HNW HAD
  go_wp2_with fail
  refine (unhide HIS w1).mono ?_
  rintro e w1' ⟨rfl, hw⟩
  have hw' := hw.symm
  subst hw'
  clear hw
  go_wp2_with fail
  refine (unhide HA).mono ?_
  rintro e w2 ⟨rfl, r2⟩
  have HF := hide (unhide HFN w1 w2 (unhide HB1) r2)
  clear r2 HA HFN
  go_wp2_with fail
  refine (unhide HF).mono ?_
  rintro e w3 ⟨rfl, r3⟩
  have HR3 := hide r3
  clear r3 HF
  go_wp2
  go_ret2
  exact ⟨rfl, unhide HR3⟩
/-- any outcome -/
theorem sort_any {w : World} {E : Nat → Addr} {Be sb fan b c n : Nat} {m m' : Sto} {F : Nat → Prop} {v : Value} {X : List Tx} (V : EnvZ w E Be) (hF : ∀ b, F b → Be ≤ b) (hB : Be ≤ w.heap.size) (h : At w sb m F) (hT : Um.Txs w v X) (hv : ∀ a n c, v = .slice (some a) n c → ¬ F a.block ∧ a.block < w.heap.size) (hm : X.length ≤ 16777215) (hb1 : 1 ≤ b) (hb2 : b ≤ 65536) (h2 : 2 ≤ fan) (h64 : fan ≤ 64) (hS : Srt m b fan X c m' n) :
    Calls Tryz.prog 15 #[.pointer (some ⟨sb, 0, none⟩), .int .i64 b, .int .i64 fan, v] w fun e w' => e = .returned (.tuple #[.int .i64 (n : Nat), errV E c]) ∧ Res F w sb m' w' := by
  cases hS with
  | long hl => exact sort_long V hB h hT (by omega) hb1 hb2 h2 h64 hl
  | add hl hA hc => exact sort_addf V hF hB h hT hv (long_no hl) (by omega) hb1 hb2 h2 h64 hA hc
  | fin hl hA hR hc => exact sort_finf V hF hB h hT hv (long_no hl) (by omega) hb1 hb2 h2 h64 hA hR hc
  | mrg hl hA hR hq hz _ => exact sort_go V hF hB h hT hv (long_no hl) (by omega) hb1 hb2 h2 h64 hA hR hq (by omega)
end Rs
end Go.Proofs.YtohfhkdhccpoaaaGreatDoor
