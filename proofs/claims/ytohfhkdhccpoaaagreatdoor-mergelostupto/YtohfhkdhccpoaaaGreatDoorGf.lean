/- Layer 6: the laws' twin and list; unframeOne and Unframe, the program's. -/
import Derived.Test.YtohfhkdhccpoaaaGreatDoorGd
import Derived.Laws.AppendOwn
import Derived.Laws.AppendOwnNone
import Derived.BigQuiet
import Derived.WalkSmall
import Derived.Deep.Quiet
import Derived.Test.YtohfhkdhccpoaaaGreatDoorGe
import Derived.Test.YtohfhkdhccpoaaaGreatDoorShCl
namespace Go.Proofs.YtohfhkdhccpoaaaGreatDoor
open Go.RowKit
namespace Um

theorem below_none {W w' : World} (hg : W.grownBy w' none) : Below W.heap.size W w' := (Below.refl _ W).grown hg (Nat.le_refl _) (fun k e => by cases e)
set_option maxRecDepth 100000 in
set_option maxHeartbeats 1000000 in
theorem twin_any (v : Value) (L : List ByteArray) (w : World) (hA : Txs w v L) (hn : L.length ≤ 1073741824) :
    Calls Tryz.prog 16 #[v] w fun e w' => ∃ u, e = .returned u ∧ OwnT w.heap.size w' u L ∧ Below w.heap.size w w' := by
  obtain ⟨i0, hi, hz0, hz1, hz2⟩ := info_parts infoT
  obtain ⟨ao, cap, rfl, h1, h2, h3⟩ := hA
  cases ao with
  | none =>
    obtain rfl : cap = 0 := h2 rfl
    have : L = [] := List.eq_nil_of_length_eq_zero (by omega)
    subst this
    simp only [List.length_nil]
    go_enter Tryz.func16, Tryz.ntmps16
    go_wp2_with (at_builtin; refine wpList_append_own_none rfl _ _ 29 rfl w.heap.size 9 i0 1 Tryz.underlying29 hi _ _ _ rfl (ownT_nil _ _) rfl ?_)
    go_ret
    exact ⟨_, rfl, ownT_nil w.heap.size w, Below.refl _ _⟩
  | some ad =>
    have HC : Hid (∀ j u, (texts L)[j]? = some u → w.cell? (ad.add j) = some u) := fun j u hu => by
      unfold texts at hu
      rw [List.getElem?_map] at hu
      cases hx : L[j]? with
      | none => rw [hx] at hu; cases hu
      | some x =>
        rw [hx] at hu
        obtain ⟨g, off, e, hg, hc⟩ := h3 (by have := (List.getElem?_eq_some_iff.1 hx).1; omega)
        injection e with e
        subst e
        have := hc j x hx
        rw [Go.WideShapes.add_plain]
        injection hu with hu
        rw [← hu]
        exact this
    have HL : Hid ((texts L).length = L.length * 1) := by show _ = _; unfold texts; rw [List.length_map, Nat.mul_one]
    have HO := hide (texts_one L)
    have HF : Hid (∀ W u, W.ownsRow w.heap.size 9 1 u (0 + L.length) ([] ++ texts L) → OwnT w.heap.size W u L) := fun W u h => by
      rw [Nat.zero_add, List.nil_append] at h
      exact h
    clear h3 h2
    generalize texts L = news at *
    obtain ⟨n, hnn⟩ : ∃ n, L.length = n := ⟨_, rfl⟩
    rw [hnn] at hn h1 HL HF ⊢
    clear hnn
    go_enter Tryz.func16, Tryz.ntmps16
    go_wp2_with (at_builtin; refine wpList_append_own _ rfl _ _ 29 rfl w.heap.size 9 i0 (.string ByteArray.empty) 1 16 Tryz.underlying29 hi hz0 hz1 hz2 rfl (by decide) _ _ _ rfl (ownT_nil _ _) ad n cap news rfl (unhide HL) (unhide HC) (unhide HO) (by unfold maxLen; simp; omega) (by simp; omega) (Nat.le_refl _) ?_; intro v1 w1 hown1 hgrow1 hnil1; clear hnil1; have HOW := hide hown1; have HGR := hide (below_none hgrow1); clear hown1 hgrow1)
    go_ret
    exact ⟨_, rfl, unhide HF _ _ (unhide HOW), unhide HGR⟩
end Um
end Go.Proofs.YtohfhkdhccpoaaaGreatDoor
/- A region that draws its order, whose callees make memory and turn nothing old: one walk, in the text's order. -/
namespace Go.Proofs.YtohfhkdhccpoaaaGreatDoor
open Go.RowKit
namespace Um

theorem wp_region_below {P : Program} {id : Nat} {Q : Exit → Act → World → Prop} {a : Act} {w : World} {l : List Oper} (hm : P.follows .mixedOrders = true) (hB : Region.lexB .any l.toArray = true)
    (h : wpQuiet P l.toArray (fun W' => Below w.heap.size w W') (fun a' => ∀ w', Below w.heap.size w w' → Q .normal a' w') l a) : (Code.region id l.toArray true).wp P Q a w :=
  wp_region_quiet (C := fun W' => Below w.heap.size w W') hm hB ((Below.refl _ w).drew) (by simpa using h)
theorem calls_keep {f : FuncId} {args : Array Value} {w0 W : World} {v : Value} (h : Calls Tryz.prog f args W fun e w' => e = .returned v ∧ Below W.heap.size W w') (hW : Below w0.heap.size w0 W) : Calls Tryz.prog f args W fun e w'' => e = .returned v ∧ Below w0.heap.size w0 w'' :=
  h.mono fun _ _ ⟨he, hb⟩ => ⟨he, hW.trans (hb.mono hW.size)⟩
end Um
end Go.Proofs.YtohfhkdhccpoaaaGreatDoor
/- Layer 6: unframeOne and Unframe, the program's. -/
namespace Go.Proofs.YtohfhkdhccpoaaaGreatDoor
open Go.RowKit
namespace Um

theorem read_zero (s : ByteArray) (w : World) (hs : s.size ≤ maxLen) :
    Calls Tryz.prog 67 #[.string s, .int .i64 0] w fun e w' => e = .returned (.tuple #[.int .u64 (rdN (lst s)).1, .int .i64 (rdN (lst s)).2.1, .int .i64 (rdN (lst s)).2.2]) ∧ w' = w := by
  by_cases h : s.size = 0
  · have e : lst s = [] := List.eq_nil_of_length_eq_zero (by rw [lst_len]; exact h)
    rw [e]
    exact read_off s 0 w (by omega)
  · have h1 := read_uint s 0 w hs (by omega)
    unfold ruT at h1
    rw [List.drop_zero] at h1
    by_cases he : (rdN (lst s)).2.2 = 0
    · rw [if_pos he] at h1
      simpa using h1
    · rw [if_neg he] at h1
      have : (rdN (lst s)).2.1 = 0 := (rdN_err he).2
      rw [this]
      exact h1
theorem rest_size {s : ByteArray} {q : Nat} : (lst (s.extract q s.size)) = (lst s).drop q := lst_drop s q
set_option maxRecDepth 100000 in
set_option maxHeartbeats 1000000 in
theorem unframe_one (s : ByteArray) (w : World) (hs : s.size ≤ 140737488355328) :
    Calls Tryz.prog 39 #[.string s] w fun e w' => e = .returned (.tuple #[.string (str (un1 (lst s)).2.1), .string (str (un1 (lst s)).2.2), .int .i64 (un1 (lst s)).1]) ∧ Below w.heap.size w w' := by
  have HR := hide (read_zero s w (by unfold maxLen; omega))
  have HNIL : str [] = ⟨#[]⟩ := rfl
  unfold un1
  by_cases h1 : (rdN (lst s)).2.2 ≠ 0
  · rw [if_pos h1]
    simp only [HNIL]
    obtain ⟨E, hE⟩ : ∃ E, (rdN (lst s)).2.2 = E := ⟨_, rfl⟩
    rw [hE] at h1 HR ⊢
    have hEb : ((E : Int) == 0) = false := by simp; omega
    generalize (rdN (lst s)).1 = N at *
    generalize (rdN (lst s)).2.1 = X at *
    clear hE
    go_enter Tryz.func39, Tryz.ntmps39
    go_wp2_with (go_at_call 67; refine (unhide HR).mono ?_; rintro e w3 ⟨rfl, hw3⟩; subst hw3)
    go_ret3
    exact ⟨rfl, Below.refl _ _⟩
  · have h0 : (rdN (lst s)).2.2 = 0 := by simpa using h1
    obtain ⟨k1, k2, k3, k4, k5, k6⟩ := rdN_ok h0
    rw [if_neg h1]
    rw [h0] at HR
    have hXs : (rdN (lst s)).2.1 ≤ s.size := by rw [← lst_len]; omega
    obtain ⟨N, hN⟩ : ∃ N, (rdN (lst s)).1 = N := ⟨_, rfl⟩
    obtain ⟨X, hX⟩ : ∃ X, (rdN (lst s)).2.1 = X := ⟨_, rfl⟩
    rw [hN] at k6 HR ⊢
    rw [hX] at hXs HR ⊢
    clear h0 h1 k1 k2 k3 k4 k5 hN hX
    have hXz : (X : Int) ≤ s.size := by omega
    have hNz : (N : Int) ≤ 18446744073709551615 := by omega
    by_cases h2 : 255 < N
    · rw [if_pos h2]
      simp only [HNIL]
      have h2z : 255 < (N : Int) := by omega
      go_enter Tryz.func39, Tryz.ntmps39
      go_wp2_with (go_at_call 67; refine (unhide HR).mono ?_; rintro e w3 ⟨rfl, hw3⟩; subst hw3)
      go_ret3
      exact ⟨rfl, Below.refl _ _⟩
    · rw [if_neg h2]
      have h2z : ¬ 255 < (N : Int) := by omega
      obtain ⟨t, ht⟩ : ∃ t, s.extract X s.size = t := ⟨_, rfl⟩
      have htl : (lst s).drop X = lst t := by rw [← lst_drop, ht]
      have hts : s.size - X = t.size := by rw [← ht, ByteArray.size_extract]; omega
      rw [htl, lst_len]
      by_cases h3 : t.size < N
      · rw [if_pos h3]
        simp only [HNIL]
        have h3z : ((s.size - X : Nat) : Int) < (N : Int) := by omega
        have h3y : (t.size : Int) < (N : Int) := by omega
        go_enter Tryz.func39, Tryz.ntmps39
        go_wp2_with (go_at_call 67; refine (unhide HR).mono ?_; rintro e w3 ⟨rfl, hw3⟩; subst hw3)
        go_ret3
        exact ⟨rfl, Below.refl _ _⟩
      · rw [if_neg h3]
        have h3z : ¬ ((s.size - X : Nat) : Int) < (N : Int) := by omega
        have h3y : ¬ (t.size : Int) < (N : Int) := by omega
        have h3x : (N : Int) ≤ (t.size : Int) := by omega
        have e1 : t.extract 0 N = str ((lst t).take N) := by rw [extract_str]; simp [lst]
        have e2 : t.extract N t.size = str ((lst t).drop N) := by rw [← lst_drop]; rfl
        simp only
        generalize str ((lst t).take N) = P at *
        generalize str ((lst t).drop N) = Q at *
        clear htl
        go_enter Tryz.func39, Tryz.ntmps39
        go_wp2_with (go_at_call 67; refine (unhide HR).mono ?_; rintro e w3 ⟨rfl, hw3⟩; subst hw3)
        go_quiet (fail)
        go_wp2
        go_ret3
        exact ⟨rfl, below_drewN (Below.refl _ _) _⟩
end Um
end Go.Proofs.YtohfhkdhccpoaaaGreatDoor
/- Layer 6: readers: From, take, Next over a sealed run of frames. -/
namespace Go.Proofs.YtohfhkdhccpoaaaGreatDoor
open Go.RowKit
namespace Rs
structure Rea where
  run : Nat
  blk : Nat
  taken : Nat
  size : Nat
  held : ByteArray
def reaC (sb : Nat) (y : Rea) : Array Value := #[.pointer (some ⟨sb, 0, none⟩), .int .i64 y.run, .int .i64 y.blk, .int .i64 y.taken, .int .i64 y.size, .string y.held]
def RIn (w : World) (sb rb : Nat) (y : Rea) : Prop := w.heap[rb]? = some (.cells (reaC sb y) 211 (0, 0))
theorem rcells {w : World} {sb rb : Nat} {y : Rea} (h : RIn w sb rb y) :
    w.cell? ⟨rb, 0, none⟩ = some (.pointer (some ⟨sb, 0, none⟩)) ∧ w.cell? ⟨rb, 1, none⟩ = some (.int .i64 y.run) ∧ w.cell? ⟨rb, 2, none⟩ = some (.int .i64 y.blk) ∧ w.cell? ⟨rb, 3, none⟩ = some (.int .i64 y.taken) ∧ w.cell? ⟨rb, 4, none⟩ = some (.int .i64 y.size) ∧ w.cell? ⟨rb, 5, none⟩ = some (.string y.held) ∧ (∀ k, w.frozen? ⟨rb, k, none⟩ = false) ∧ rb < w.heap.size := by
  unfold RIn at h
  refine ⟨?_, ?_, ?_, ?_, ?_, ?_, fun k => ?_, (Array.getElem?_eq_some_iff.1 h).1⟩ <;> simp [World.cell?, World.frozen?, h, reaC]
theorem RIn.below {w W : World} {sb rb : Nat} {y : Rea} (h : RIn w sb rb y) (hb : Below w.heap.size w W) : RIn W sb rb y := (hb.block rb (Array.getElem?_eq_some_iff.1 h).1).trans h
theorem rea_ok {m : Sto} {k a n : Nat} {r : Run} (hl : look m.runs k = some r) (hs : r.shut = true) (h : a + n ≤ r.txt.length) : rea m k a n = ((r.txt.drop a).take n, 0) := by
  unfold rea
  rw [hl]
  simp only [hs, if_true]
  rw [if_neg (by omega)]
  simp
theorem siz_ok {m : Sto} {k : Nat} {r : Run} (hl : look m.runs k = some r) : siz m k = ((r.txt.length : Int), 0) := by unfold siz; rw [hl]
set_option maxRecDepth 100000 in
set_option maxHeartbeats 1000000 in
theorem from_go {w : World} {E : Nat → Addr} {B sb b k : Nat} {m : Sto} {F : Nat → Prop} {r : Run} (V : EnvR w E B) (hF : ∀ b, F b → B ≤ b) (hB : B ≤ w.heap.size) (h : At w sb m F) (h1 : 1 ≤ b) (h2 : b ≤ 4096) (hk : k ≤ 16777216) (hl : look m.runs k = some r) (hs : r.shut = true) :
    Calls Tryz.prog 127 #[.pointer (some ⟨sb, 0, none⟩), .int .i64 k, .int .i64 b] w fun e w' => ∃ rb, e = .returned (.tuple #[.pointer (some ⟨rb, 0, none⟩), .nilIface]) ∧ RIn w' sb rb ⟨k, b, 0, r.txt.length, ⟨#[]⟩⟩ ∧ w.heap.size ≤ rb ∧ Below w.heap.size w w' := by
  have HCP := hide (place_ok (w := w) sb b h1 h2)
  have HSZ := hide (size_any (k := (k : Int)) h (V.gs hF) (by omega) (by omega))
  rw [siz_ok hl] at HSZ
  have HRD : Hid (∀ W, Below w.heap.size w W → Calls Tryz.prog 41 #[.pointer (some ⟨sb, 0, none⟩), .int .i64 k, .int .i64 0, .int .i64 0] W fun e w' => e = .returned (.tuple #[.string (strB []), .nilIface]) ∧ Below W.heap.size W w') := fun W hW => by
    have q := read_any (k := (k : Int)) (a := 0) (n := 0) (h.kept (w' := W) (fun b hF => hW.block b (h.lt b hF)) (fun _ x => x) (fun b hF => Nat.lt_of_lt_of_le (h.lt b hF) hW.size)) (V.below (hW.mono hB)) hF (by omega) (by omega) (by omega) (by omega)
    have e := rea_ok (a := 0) (n := 0) hl hs (by omega)
    rw [show rea m (k : Int) 0 0 = ((r.txt.drop 0).take 0, 0) from e] at q
    exact q
  rw [show errV E ((r.txt.length : Int), 0).2 = .nilIface from rfl] at HSZ
  dsimp only at HSZ
  obtain ⟨n, hn⟩ : ∃ n, r.txt.length = n := ⟨_, rfl⟩
  rw [hn] at HSZ ⊢
  clear V h hl hs hn
  go_enter Tryz.func127, Tryz.ntmps127
  go_wp2_with (first | (go_at_call 113; refine (unhide HCP).mono ?_; rintro e w1 ⟨rfl, hw1⟩; have hw2 := hw1.symm; subst hw2; clear hw1) | (go_at_call 40; refine (unhide HSZ).mono ?_; rintro e w2 ⟨rfl, hb2⟩; have HB2 := hide hb2; clear hb2) | (go_at_call 41; refine (unhide HRD _ (unhide HB2)).mono ?_; rintro e w3 ⟨rfl, hb3⟩; have HB3 := hide ((unhide HB2).trans (hb3.mono (unhide HB2).size)); clear hb3))
  go_ret2
  exact ⟨_, rfl, (MapKept.heap_alloc w3 _).1, (unhide HB3).size, (unhide HB3).alloc (unhide HB3).size _⟩
set_option maxRecDepth 100000 in
set_option maxHeartbeats 2000000 in
theorem take_go {w : World} {E : Nat → Addr} {B sb rb : Nat} {m : Sto} {F : Nat → Prop} {r : Run} {y : Rea} (V : EnvR w E B) (hF : ∀ b, F b → B ≤ b) (hB : B ≤ w.heap.size) (h : At w sb m F) (hr : RIn w sb rb y) (hrun : y.run ≤ 16777216) (hl : look m.runs y.run = some r) (hs : r.shut = true) (hz : y.size = r.txt.length) (hzl : y.size ≤ 67108864) (ht : y.taken ≤ y.size) (hb2 : y.blk ≤ 4096) (hh : y.held.size ≤ 67108864)
    (n : Nat) (hn : n = min y.blk (y.size - y.taken)) (X : ByteArray) (hX : X = y.held ++ strB ((r.txt.drop y.taken).take n)) :
    Calls Tryz.prog 149 #[.pointer (some ⟨rb, 0, none⟩)] w fun e w' => e = .returned .nilIface ∧ RIn w' sb rb { y with taken := y.taken + n, held := X } ∧ Chg (fun b => b = rb) w w' := by
  have HRD : Hid (∀ W, Below w.heap.size w W → Calls Tryz.prog 41 #[.pointer (some ⟨sb, 0, none⟩), .int .i64 y.run, .int .i64 y.taken, .int .i64 n] W fun e w' => e = .returned (.tuple #[.string (strB ((r.txt.drop y.taken).take n)), .nilIface]) ∧ Below w.heap.size w w') := fun W hW => by
    have q := read_any (k := (y.run : Int)) (a := (y.taken : Int)) (n := (n : Int)) (h.kept (w' := W) (fun b hF => hW.block b (h.lt b hF)) (fun _ x => x) (fun b hF => Nat.lt_of_lt_of_le (h.lt b hF) hW.size)) (V.below (hW.mono hB)) hF (by omega) (by omega) (by omega) (by omega)
    rw [rea_ok hl hs (by omega)] at q
    exact q.mono fun e w' hh => ⟨hh.1, hW.trans (hh.2.mono hW.size)⟩
  obtain ⟨c0, c1, c2, c3, c4, c5, cf, hrb⟩ := rcells hr
  have hadd : ∀ W : World, (Op.stringOp .add y.held (strB ((r.txt.drop y.taken).take n))).run Tryz.prog W = .ok (.string X) W := fun W => by
    rw [hX]
    refine run_string_add_sum _ _ _ ?_
    have : (strB ((r.txt.drop y.taken).take n)).size ≤ r.txt.length := by simp [strB, ByteArray.size]; omega
    omega
  have HFI : Hid (∀ W, Below w.heap.size w W → RIn ((W.setCell ⟨rb, 5, none⟩ (.string X)).setCell ⟨rb, 3, none⟩ (.int .i64 ((y.taken + n : Nat) : Int))) sb rb { y with taken := y.taken + n, held := X } ∧ Chg (fun b => b = rb) w ((W.setCell ⟨rb, 5, none⟩ (.string X)).setCell ⟨rb, 3, none⟩ (.int .i64 ((y.taken + n : Nat) : Int)))) := fun W hW => by
    have h1 := hr.below hW
    refine ⟨?_, ?_⟩
    · unfold RIn at h1 ⊢
      rw [set_heap1 (set_heap1 h1 _)]
      simp [reaC]
    · have c : Chg (fun b => b = rb) w W := Chg.of_below hW
      exact (c.setCell (.inl rfl) _).setCell (.inl rfl) _
  have HCW : Hid (∀ W, Below w.heap.size w W → RIn W sb rb y) := fun W hW => hr.below hW
  generalize strB ((r.txt.drop y.taken).take n) = Z at *
  have ets : ((y.taken + n : Nat) : Int) = (y.taken : Int) + (n : Int) := by omega
  rw [ets] at HFI
  have hsub : (y.size : Int) - (y.taken : Int) = ((y.size - y.taken : Nat) : Int) := by omega
  have hmin : min (y.blk : Int) ((y.size - y.taken : Nat) : Int) = (n : Int) := by omega
  have hnl : y.taken + n ≤ 67108864 := by omega
  clear V h hr hl hs hX ets hz hn hF
  go_enter Tryz.func149, Tryz.ntmps149
  go_wp2
  go_quiet (fail)
  have HQ : Hid (Below w.heap.size w (w.drewN nq)) := ⟨rfl, rfl, rfl, Nat.le_refl _, fun _ _ => rfl⟩
  obtain ⟨d0, d1, d2, d3, d4, d5, df, hdb⟩ := rcells (unhide HCW _ (unhide HQ))
  generalize w.drewN nq = W1 at *
  go_wp2
  go_region_held3 (fun w' => w'.cell? ⟨rb, 0, none⟩ = some (.pointer (some ⟨sb, 0, none⟩)) ∧ w'.cell? ⟨rb, 1, none⟩ = some (.int .i64 y.run) ∧ w'.cell? ⟨rb, 3, none⟩ = some (.int .i64 y.taken))
    (first | exact ⟨d0, d1, d3⟩ | exact s3)
    (first | (go_at_call 41; refine (unhide HRD _ (by first | exact unhide HQ | exact (unhide HQ).drew)).mono ?_; rintro e w3 ⟨rfl, hb3⟩; obtain ⟨z0, z1, z2, z3, z4, z5, zf, hz3⟩ := rcells (unhide HCW _ hb3); have s3 := (⟨z0, z1, z3⟩ : _ ∧ _ ∧ _); have HF3 := hide (unhide HFI _ hb3); clear hb3))
  clear s3
  go_wp2
  go_ret
  exact ⟨rfl, unhide HF3⟩
end Rs
end Go.Proofs.YtohfhkdhccpoaaaGreatDoor
/- Layer 6: Next of a reader whose run holds frames. -/
namespace Go.Proofs.YtohfhkdhccpoaaaGreatDoor
open Go.RowKit
namespace Rs
theorem un1_whole {H Z c R : List UInt8} (hc : c.length ≤ 255) (h : H ++ Z = Um.fr c ++ R) (hl : (Um.fr c).length ≤ H.length) : ∃ H', Um.un1 H = (0, c, H') ∧ H' ++ Z = R := by
  obtain ⟨H', rfl⟩ : ∃ H', H = Um.fr c ++ H' := by
    refine ⟨H.drop (Um.fr c).length, ?_⟩
    have h1 := congrArg (List.take (Um.fr c).length) h
    rw [List.take_append_of_le_length hl, List.take_left] at h1
    conv => lhs; rw [← List.take_append_drop (Um.fr c).length H, h1]
  refine ⟨H', Um.un1_fr hc H', ?_⟩
  rw [List.append_assoc] at h
  exact List.append_cancel_left h
theorem un1_part {H Z c R : List UInt8} (hc : c.length ≤ 255) (h : H ++ Z = Um.fr c ++ R) (hl : ¬ (Um.fr c).length ≤ H.length) : (Um.un1 H).1 = 60 := by
  have hH : H = (Um.fr c).take H.length := by
    have h1 := congrArg (List.take H.length) h
    rw [List.take_left, List.take_append_of_le_length (by omega)] at h1
    exact h1
  obtain ⟨k, hk⟩ : ∃ k, H.length = k := ⟨_, rfl⟩
  rw [hk] at hH hl
  unfold Um.fr at hH
  rw [Um.fr_len] at hl
  by_cases hu : k < (Um.uL c.length).length
  · rw [List.take_append_of_le_length (by omega)] at hH
    have h3 : Um.rdN H = (0, 0, 60) := by
      by_cases h0 : k = 0
      · have : H = [] := List.eq_nil_of_length_eq_zero (by omega)
        rw [this]; rfl
      · have ha := Um.ahd_uL c.length []
        rw [List.append_nil] at ha
        have h5 := Um.uL_len 1 c.length (by omega)
        have hge : H.length ≤ Um.ahd H := by
          refine Um.ahd_ge (Nat.le_refl _) fun j b hj hb => ?_
          rw [hH, List.getElem?_take, if_pos (by omega)] at hb
          exact Um.ahd_hi hb (by omega)
        have hle := Um.ahd_le H
        exact Um.rdN_short (by omega) (by omega) (by omega)
    unfold Um.un1
    rw [h3]
    rfl
  · rw [List.take_append, List.take_of_length_le (by omega)] at hH
    have h3 := Um.rdN_uL (n := c.length) (by omega) (c.take (k - (Um.uL c.length).length))
    rw [← hH] at h3
    unfold Um.un1
    rw [h3]
    simp only
    rw [if_neg (by simp), if_neg (by omega), if_pos ?_]
    rw [List.length_drop, hk]
    omega
def takenOf (rb size : Nat) (w : World) : Nat := size - (match w.cell? ⟨rb, 3, none⟩ with | some (.int _ t) => t.toNat | _ => 0)
theorem clone_str (s : ByteArray) (w : World) (hs : s.size ≤ 67108864) : Calls Tryz.prog 148 #[.string s] w fun e w' => e = .returned (.string s) ∧ Below w.heap.size w w' := by
  have HC := hide (fun W => Tryz.stringslite_Clone s W (by omega))
  go_enter Tryz.func148, Tryz.ntmps148
  go_wp2_with (go_at_call 161; refine (unhide HC _).mono ?_; rintro e w1 ⟨rfl, hb⟩; have HB := hide hb; clear hb)
  go_ret
  exact ⟨rfl, unhide HB⟩
/-- a reader at rest: what is left of the run's text -/
structure RAt (w : World) (sb rb : Nat) (t : List UInt8) (run blk : Nat) (R : List UInt8) (y : Rea) : Prop where
  cell : RIn w sb rb y
  run : y.run = run
  blk : y.blk = blk
  size : y.size = t.length
  taken : y.taken ≤ t.length
  left : Um.lst y.held ++ t.drop y.taken = R
theorem RAt.below {w W : World} {sb rb : Nat} {t : List UInt8} {run blk : Nat} {R : List UInt8} {y : Rea} (h : RAt w sb rb t run blk R y) (hb : Below w.heap.size w W) : RAt W sb rb t run blk R y := ⟨h.cell.below hb, h.run, h.blk, h.size, h.taken, h.left⟩
set_option maxRecDepth 100000 in
set_option maxHeartbeats 2000000 in
theorem next_go {w : World} {E : Nat → Addr} {B sb rb run blk : Nat} {m : Sto} {F : Nat → Prop} {r : Run} {y : Rea} {c R : List UInt8} (V : EnvR w E B) (hF : ∀ b, F b → B ≤ b) (hB : B ≤ w.heap.size) (h : At w sb m F) (hrF : ¬ F rb) (hrB : B ≤ rb) (hr : RAt w sb rb r.txt run blk (Um.fr c ++ R) y) (hrun : run ≤ 16777216) (hl : look m.runs run = some r) (hs : r.shut = true) (hzl : r.txt.length ≤ 67108864) (hb1 : 1 ≤ blk) (hb2 : blk ≤ 4096) (hRl : (Um.fr c ++ R).length ≤ 67108864) (hc : c.length ≤ 255) :
    Calls Tryz.prog 129 #[.pointer (some ⟨rb, 0, none⟩)] w fun e w' => e = .returned (.tuple #[.string (Um.str c), .bool true, .nilIface]) ∧ (∃ y', RAt w' sb rb r.txt run blk R y') ∧ Chg (fun b => b = rb) w w' := by
  have HV := hide V
  have HH := hide h
  have HAT : Hid (∀ W, Chg (fun b => b = rb) w W → At W sb m F ∧ EnvR W E B) := fun W cg =>
    ⟨h.kept (fun b hb => cg.block b (h.lt b hb) (fun e => hrF (e ▸ hb))) (fun _ x => x) (fun b hb => Nat.lt_of_lt_of_le (h.lt b hb) cg.size), V.below (cg.below hB (fun k hk => by rw [hk]; exact hrB))⟩
  have HR := hide hr
  have HFF := hide hF
  have HFR : Hid (Um.fr c ++ R ≠ []) := fun e => Um.fr_ne c (List.append_eq_nil_iff.1 e).1
  obtain ⟨RR, hRR⟩ : ∃ RR, Um.fr c ++ R = RR := ⟨_, rfl⟩
  rw [hRR] at HR HFR hRl
  have HRR := hide hRR
  clear V h hF hr hRR
  go_enter Tryz.func129, Tryz.ntmps129
  go_wp2
  go_loopw [8] (fun s8 wr => ∃ y, Hid (RAt wr sb rb r.txt run blk RR y) ∧ Hid (Chg (fun b => b = rb) w wr)) (fun _ wr => takenOf rb r.txt.length wr)
  case atStart => exact ⟨y, HR, Chg.refl _ _⟩
  case round =>
    obtain ⟨y1, HR1, HC1⟩ := hrel
    obtain ⟨hy, hyr, hyb, hys, hyt, hyl⟩ := unhide HR1
    obtain ⟨c0, c1, c2, c3, c4, c5, cf, hrb⟩ := rcells hy
    rw [hyr] at c1
    rw [hyb] at c2
    rw [hys] at c4
    have hlen : (Um.lst y1.held).length + (r.txt.length - y1.taken) = RR.length := by
      rw [← hyl, List.length_append, List.length_drop]
    rw [Um.lst_len] at hlen
    have hRp : 0 < RR.length := List.length_pos_iff.2 (unhide HFR)
    have HUF := hide (fun W => Um.unframe_one y1.held W (by omega))
    have HCW : Hid (∀ W, Below wr.heap.size wr W → RIn W sb rb y1) := fun W hW => hy.below hW
    by_cases hw : (Um.fr c).length ≤ (Um.lst y1.held).length
    · obtain ⟨H', hu, hH'⟩ := un1_whole hc (hyl.trans (unhide HRR).symm) hw
      rw [hu] at HUF
      dsimp only at HUF
      have hem : y1.held.toList.isEmpty = false := by
        rw [ByteArray.toList_eq]
        have h1 : 0 < (Um.lst y1.held).length := Nat.lt_of_lt_of_le (List.length_pos_iff.2 (Um.fr_ne c)) hw
        cases he : y1.held.data.toList with
        | nil => rw [show Um.lst y1.held = y1.held.data.toList from rfl, he] at h1; simp at h1
        | cons a b => rfl
      have HFI : Hid (∀ W, Below wr.heap.size wr W → RAt (W.setCell ⟨rb, 5, none⟩ (.string (Um.str H'))) sb rb r.txt run blk R { y1 with held := Um.str H' } ∧ Chg (fun b => b = rb) w (W.setCell ⟨rb, 5, none⟩ (.string (Um.str H')))) := fun W hW => by
        have h1 := hy.below hW
        refine ⟨⟨?_, hyr, hyb, hys, hyt, ?_⟩, ?_⟩
        · unfold RIn at h1 ⊢
          rw [set_heap1 h1 _]
          simp [reaC]
        · show Um.lst (Um.str H') ++ _ = R
          rw [show Um.lst (Um.str H') = H' from Um.str_list H']
          exact hH'
        · have cc : Chg (Up (fun b => b = rb) w wr) wr W := Chg.of_below hW
          exact ((unhide HC1).trans cc).setCell (p := ⟨rb, 5, none⟩) (.inl rfl) _
      have HCL := hide (fun W => clone_str (Um.str c) W (by rw [Um.str_size]; omega))
      generalize Um.str H' = SH at *
      obtain ⟨SC, hSC⟩ : ∃ SC, Um.str c = SC := ⟨_, rfl⟩
      rw [hSC] at HCL HUF
      have HSC := hide hSC
      clear hSC
      clear hu hH' hyl hlen hw
      go_wp2
      go_quiet (fail)
      have HQ : Hid (Below wr.heap.size wr (wr.drewN nq)) := ⟨rfl, rfl, rfl, Nat.le_refl _, fun _ _ => rfl⟩
      obtain ⟨d0, d1, d2, d3, d4, d5, df, hdb⟩ := rcells (unhide HCW _ (unhide HQ))
      generalize wr.drewN nq = W1 at *
      go_wp2_with (first
        | (go_at_call 39; refine (unhide HUF _).mono ?_; rintro e w2 ⟨rfl, hb2'⟩; have HB2 := hide ((unhide HQ).trans (hb2'.mono (unhide HQ).size)); clear hb2'; obtain ⟨z0, z1, z2, z3, z4, z5, zf, hz3⟩ := rcells (unhide HCW _ (unhide HB2)); have HF2 := hide (unhide HFI _ (unhide HB2)))
        | (go_at_call 148; refine (unhide HCL _).mono ?_; rintro e w4 ⟨rfl, hb4⟩; have HB4 := hide hb4; clear hb4))
      go_ret3
      have h5 := unhide HF2
      refine ⟨?_, ⟨_, h5.1.below (unhide HB4)⟩, h5.2.trans (Chg.of_below (unhide HB4))⟩
      simp
      exact (unhide HSC).symm
    · have hu := un1_part hc (hyl.trans (unhide HRR).symm) hw
      have htl : y1.taken < r.txt.length := by
        have e1 := congrArg List.length (unhide HRR)
        rw [List.length_append] at e1
        rw [Um.lst_len] at hw
        omega
      have htz : (y1.taken : Int) < (r.txt.length : Int) := by omega
      have htn : ((y1.taken : Int) == (r.txt.length : Int)) = false := by simp; omega
      have htn2 : ¬ (y1.taken : Int) = (r.txt.length : Int) := by omega
      rw [hu] at HUF
      obtain ⟨n, hn⟩ : ∃ n, n = min blk (r.txt.length - y1.taken) := ⟨_, rfl⟩
      obtain ⟨X, hX⟩ : ∃ X, X = y1.held ++ strB ((r.txt.drop y1.taken).take n) := ⟨_, rfl⟩
      have HTK : Hid (∀ W, Below wr.heap.size wr W → Calls Tryz.prog 149 #[.pointer (some ⟨rb, 0, none⟩)] W fun e w' => e = .returned .nilIface ∧ RIn w' sb rb { y1 with taken := y1.taken + n, held := X } ∧ Chg (fun b => b = rb) w w') := fun W hW => by
        have cg : Chg (fun b => b = rb) w W := (unhide HC1).trans (Chg.of_below hW)
        obtain ⟨hA, hE⟩ := unhide HAT W cg
        exact (take_go hE (unhide HFF) (Nat.le_trans hB cg.size) hA (hy.below hW) (by omega) (by rw [hyr]; exact hl) hs hys (by omega) (by omega) (by omega) (by omega) n (by rw [hyb, hys]; exact hn) X hX).mono fun e w' hh => ⟨hh.1, hh.2.1, cg.trans (hh.2.2.mono fun k hk => .inl hk)⟩
      have HRA : Hid (∀ W, RIn W sb rb { y1 with taken := y1.taken + n, held := X } → RAt W sb rb r.txt run blk RR { y1 with taken := y1.taken + n, held := X }) := fun W hW => by
        refine ⟨hW, hyr, hyb, hys, by show y1.taken + n ≤ _; omega, ?_⟩
        show Um.lst X ++ r.txt.drop (y1.taken + n) = RR
        have e1 : Um.lst X = Um.lst y1.held ++ (r.txt.drop y1.taken).take n := by
          rw [hX]
          show (y1.held ++ strB _).data.toList = y1.held.data.toList ++ _
          rw [ByteArray.data_append, Array.toList_append]
          rfl
        rw [e1, List.append_assoc, ← List.drop_drop, List.take_append_drop]
        exact hyl
      generalize Um.str (Um.un1 (Um.lst y1.held)).2.1 = s1 at *
      generalize Um.str (Um.un1 (Um.lst y1.held)).2.2 = s2 at *
      have hn1 : 1 ≤ n := by omega
      have hnt : y1.taken + n ≤ r.txt.length := by omega
      clear hu hyl hlen hw hX hn
      cases hem : y1.held.toList.isEmpty <;>
      · go_wp2
        go_quiet (fail)
        have HQ : Hid (Below wr.heap.size wr (wr.drewN nq)) := ⟨rfl, rfl, rfl, Nat.le_refl _, fun _ _ => rfl⟩
        obtain ⟨d0, d1, d2, d3, d4, d5, df, hdb⟩ := rcells (unhide HCW _ (unhide HQ))
        rw [hys] at d4
        generalize wr.drewN nq = W1 at *
        go_wp2_with (go_at_call 39; refine (unhide HUF _).mono ?_; rintro e w2 ⟨rfl, hb2'⟩; have HB2 := hide ((unhide HQ).trans (hb2'.mono (unhide HQ).size)); clear hb2'; obtain ⟨z0, z1, z2, z3, z4, z5, zf, hz3⟩ := rcells (unhide HCW _ (unhide HB2)); rw [hys] at z4)
        go_quiet (fail)
        have HQ2 : Hid (Below wr.heap.size wr (w2.drewN nq)) := (unhide HB2).trans ⟨rfl, rfl, rfl, Nat.le_refl _, fun _ _ => rfl⟩
        generalize w2.drewN nq = W3 at *
        go_wp2_with (go_at_call 149; refine (unhide HTK _ (unhide HQ2)).mono ?_; rintro e w4 ⟨rfl, hr4, hc4⟩; have HR4 := hide (unhide HRA _ hr4); have HC4 := hide hc4; clear hr4 hc4)
        go_roundw
        case rel => exact ⟨_, HR4, HC4⟩
        case measure =>
          have h9 := (rcells (unhide HR4).cell).2.2.2.1
          unfold takenOf
          rw [h9, c3]
          simp
          omega
set_option maxRecDepth 100000 in
set_option maxHeartbeats 1000000 in
theorem next_end {w : World} {sb rb run blk : Nat} {t : List UInt8} {y : Rea} (hr : RAt w sb rb t run blk [] y) :
    Calls Tryz.prog 129 #[.pointer (some ⟨rb, 0, none⟩)] w fun e w' => e = .returned (.tuple #[.string ⟨#[]⟩, .bool false, .nilIface]) ∧ Below w.heap.size w w' := by
  obtain ⟨hy, hyr, hyb, hys, hyt, hyl⟩ := hr
  obtain ⟨c0, c1, c2, c3, c4, c5, cf, hrb⟩ := rcells hy
  rw [hys] at c4
  obtain ⟨e1, e2⟩ := List.append_eq_nil_iff.1 hyl
  have htl : y.taken = t.length := by have := congrArg List.length e2; simp at this; omega
  rw [htl] at c3
  have hem : y.held.toList.isEmpty = true := by
    rw [ByteArray.toList_eq]
    rw [show y.held.data.toList = [] from e1]
    rfl
  clear hyl e1 e2 hyt htl hys hyb hyr
  go_enter Tryz.func129, Tryz.ntmps129
  go_wp2
  go_loopw [8] (fun s8 wr => wr = w) (fun _ wr => 0)
  case atStart => rfl
  case round =>
    subst hrel
    go_wp2
    go_quiet (fail)
    go_wp2
    go_ret3
    refine ⟨?_, ⟨rfl, rfl, rfl, Nat.le_refl _, fun _ _ => rfl⟩⟩
    simp
end Rs
end Go.Proofs.YtohfhkdhccpoaaaGreatDoor
/- Layer 6: what Close does to a store. No walk. -/
namespace Go.Proofs.YtohfhkdhccpoaaaGreatDoor
open Go.RowKit
namespace Rs
/-- what Close does to the store: the failure, and the store -/
def wclo (k : Int) (m : Sto) (buf : List UInt8) : Nat × Sto :=
  if buf = [] then sel m k else if (app m k [strB buf]).1 = 0 then sel (app m k [strB buf]).2 k else app m k [strB buf]
end Rs
end Go.Proofs.YtohfhkdhccpoaaaGreatDoor
