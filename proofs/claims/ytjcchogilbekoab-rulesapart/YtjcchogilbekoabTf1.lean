/- Layer 15: RulesApart: it makes no difference which rule goes first. -/
import Derived.Test.YtjcchogilbekoabTe5
import Derived.Test.YtjcchogilbekoabTd1
namespace Go.Proofs.Ytjcchogilbekoab
open Go.RowKit Go.Shelf
namespace Rv

/-- two boxed rules, and all that was below them as it was -/
structure At14 (w W : World) (a b : RuB) : Prop where
  A : ∀ j u, a.cs[j]? = some u → W.cell? ⟨w.heap.size, j, none⟩ = some u
  B : ∀ j u, b.cs[j]? = some u → W.cell? ⟨w.heap.size + 1, j, none⟩ = some u
  fA : W.frozen? ⟨w.heap.size, 0, none⟩ = false
  fB : W.frozen? ⟨w.heap.size + 1, 0, none⟩ = false
  lt : w.heap.size + 1 < W.heap.size
  bel : Below w.heap.size w W
theorem At14.step {w W W' : World} {a b : RuB} (h : At14 w W a b) (hb : Below W.heap.size W W') : At14 w W' a b :=
  ⟨fun j u hu => (hb.cell (p := ⟨w.heap.size, j, none⟩) (by have := h.lt; show w.heap.size < _; omega)).trans (h.A j u hu), fun j u hu => (hb.cell (p := ⟨w.heap.size + 1, j, none⟩) h.lt).trans (h.B j u hu),
    by have := hb.block w.heap.size (by have := h.lt; omega); simp only [World.frozen?, this]; exact h.fA, by have := hb.block (w.heap.size + 1) h.lt; simp only [World.frozen?, this]; exact h.fB, Nat.lt_of_lt_of_le h.lt hb.size, h.bel.trans (hb.mono (by have := h.lt; omega))⟩
theorem At14.new (w : World) (a b : RuB) : At14 w ((w.alloc (.cells a.cs.toArray 26)).alloc (.cells b.cs.toArray 26)) a b := by
  have e1 : ((w.alloc (.cells a.cs.toArray 26)).alloc (.cells b.cs.toArray 26)).heap[w.heap.size]? = some (.cells a.cs.toArray 26 (0, 0)) := (Below.heap_alloc _ _ _ (by simp)).trans (World.alloc_heap_new w _)
  have e2 : ((w.alloc (.cells a.cs.toArray 26)).alloc (.cells b.cs.toArray 26)).heap[w.heap.size + 1]? = some (.cells b.cs.toArray 26 (0, 0)) := by
    have := World.alloc_heap_new (w.alloc (.cells a.cs.toArray 26)) (.cells b.cs.toArray 26)
    rwa [World.size_alloc] at this
  refine ⟨fun j u hu => ?_, fun j u hu => ?_, by simp only [World.frozen?, e1]; rfl, by simp only [World.frozen?, e2]; rfl, by simp, ((Below.refl _ w).alloc (Nat.le_refl _) _).alloc (by simp) _⟩
  · simp only [World.cell?, e1]
    simpa using hu
  · simp only [World.cell?, e2]
    simpa using hu
/-- both kinds are set -/
theorem At14.set {w W : World} {a b : RuB} (h : At14 w W a b) (k l : Int) : At14 w ((W.setCell ⟨w.heap.size, 0, none⟩ (.int .i64 k)).setCell ⟨w.heap.size + 1, 0, none⟩ (.int .i64 l)) { a with k := k } { b with k := l } := by
  refine ⟨fun j u hu => ?_, fun j u hu => ?_, ?_, ?_, by simp [World.setCell]; exact h.lt, (h.bel.setCell (by simp) _).setCell (by simp) _⟩
  · rw [World.cell?_setCell_other _ _ _ _ (by simp)]
    cases j with
    | zero =>
      obtain rfl : Value.int .i64 k = u := by simpa [RuB.cs] using hu
      exact World.cell?_setCell_same _ _ _ (h.A 0 _ rfl)
    | succ j => rw [World.cell?_setCell_other _ _ _ _ (by simp)]; exact h.A (j + 1) u hu
  · cases j with
    | zero =>
      obtain rfl : Value.int .i64 l = u := by simpa [RuB.cs] using hu
      refine World.cell?_setCell_same _ _ _ (u := .int .i64 b.k) ?_
      rw [World.cell?_setCell_other _ _ _ _ (by simp)]
      exact h.B 0 _ rfl
    | succ j =>
      rw [World.cell?_setCell_other _ _ _ _ (by simp), World.cell?_setCell_other _ _ _ _ (by simp)]; exact h.B (j + 1) u hu
  · rw [World.frozen?_setCell, World.frozen?_setCell]; exact h.fA
  · rw [World.frozen?_setCell, World.frozen?_setCell]; exact h.fB
/-- both rules, cell by cell -/
theorem At14.cells {w W : World} {k1 fl1 k2 fl2 : Int} {cr1 cr2 : Bool} {st1 ad1 cd1 st2 ad2 cd2 : ByteArray} {ao1 ao2 : Option Addr} {nl1 nc1 nl2 nc2 : Nat} (h : At14 w W ⟨k1, fl1, cr1, st1, ad1, cd1, ao1, nl1, nc1⟩ ⟨k2, fl2, cr2, st2, ad2, cd2, ao2, nl2, nc2⟩) : W.cell? ⟨w.heap.size, 0, none⟩ = some (.int .i64 k1) ∧ W.cell? ⟨w.heap.size, 1, none⟩ = some (.int .u16 fl1) ∧ W.cell? ⟨w.heap.size, 2, none⟩ = some (.bool cr1) ∧ W.cell? ⟨w.heap.size, 3, none⟩ = some (.string st1) ∧ W.cell? ⟨w.heap.size, 4, none⟩ = some (.string ad1) ∧ W.cell? ⟨w.heap.size, 5, none⟩ = some (.string cd1) ∧ W.cell? ⟨w.heap.size, 6, none⟩ = some (.slice ao1 nl1 nc1) ∧ W.cell? ⟨w.heap.size + 1, 0, none⟩ = some (.int .i64 k2) ∧ W.cell? ⟨w.heap.size + 1, 1, none⟩ = some (.int .u16 fl2) ∧ W.cell? ⟨w.heap.size + 1, 2, none⟩ = some (.bool cr2) ∧ W.cell? ⟨w.heap.size + 1, 3, none⟩ = some (.string st2) ∧ W.cell? ⟨w.heap.size + 1, 4, none⟩ = some (.string ad2) ∧ W.cell? ⟨w.heap.size + 1, 5, none⟩ = some (.string cd2) ∧ W.cell? ⟨w.heap.size + 1, 6, none⟩ = some (.slice ao2 nl2 nc2) :=
  ⟨h.A 0 _ rfl, h.A 1 _ rfl, h.A 2 _ rfl, h.A 3 _ rfl, h.A 4 _ rfl, h.A 5 _ rfl, h.A 6 _ rfl, h.B 0 _ rfl, h.B 1 _ rfl, h.B 2 _ rfl, h.B 3 _ rfl, h.B 4 _ rfl, h.B 5 _ rfl, h.B 6 _ rfl⟩
theorem At14.setk {w W : World} {k1 fl1 k2 fl2 : Int} {cr1 cr2 : Bool} {st1 ad1 cd1 st2 ad2 cd2 : ByteArray} {ao1 ao2 : Option Addr} {nl1 nc1 nl2 nc2 : Nat} (h : At14 w W ⟨k1, fl1, cr1, st1, ad1, cd1, ao1, nl1, nc1⟩ ⟨k2, fl2, cr2, st2, ad2, cd2, ao2, nl2, nc2⟩) (k l : Int) : At14 w ((W.setCell ⟨w.heap.size, 0, none⟩ (.int .i64 k)).setCell ⟨w.heap.size + 1, 0, none⟩ (.int .i64 l)) ⟨k, fl1, cr1, st1, ad1, cd1, ao1, nl1, nc1⟩ ⟨l, fl2, cr2, st2, ad2, cd2, ao2, nl2, nc2⟩ := h.set k l
/-- a list of two rules, made new -/
theorem pair_at (W : World) (a b : RuB) : RulesAt (W.alloc (.cells (a.cs ++ b.cs).toArray 26)) (.slice (some ⟨W.heap.size, 0, none⟩) 2 2) [a, b] (W.alloc (.cells (a.cs ++ b.cs).toArray 26)).heap.size := by
  refine ⟨_, 2, rfl, fun _ => ⟨W.heap.size, 0, rfl, by simp, fun j x hj i u hu => ?_⟩⟩
  have hi : i < 7 := (List.getElem?_eq_some_iff.1 hu).1
  simp only [World.cell?, World.alloc_heap_new W _]
  have e : (a.cs ++ b.cs)[j * 7 + i]? = some u := by
    match j, hj with
    | 0, hj =>
      obtain rfl : a = x := by simpa using hj
      rw [Nat.zero_mul, Nat.zero_add, List.getElem?_append_left hi]; exact hu
    | 1, hj =>
      obtain rfl : b = x := by simpa using hj
      rw [List.getElem?_append_right (by show 7 ≤ _; omega), show 1 * 7 + i - a.cs.length = i by show 1 * 7 + i - 7 = i; omega]; exact hu
    | j + 2, hj => simp at hj
  simpa using e
theorem chain_two (a b : RuB) (t : List UInt8) : Ta.chain t ([a, b].map RuB.r) = (Ta.app a.r t).bind (Ta.app b.r) := by
  show (Ta.app a.r t).bind (fun m => (Ta.app b.r m).bind fun y => some y) = _
  congr 1
  funext m
  cases Ta.app b.r m <;> rfl
set_option maxRecDepth 100000 in
set_option maxHeartbeats 8000000 in
theorem apart_law (t : ByteArray) (k1 : Int) (fl1 : Int) (cr1 : Bool) (st1 : ByteArray) (ad1 : ByteArray) (cd1 : ByteArray) (ao1 : Option Addr) (nl1 : Nat) (nc1 : Nat) (k2 : Int) (fl2 : Int) (cr2 : Bool) (st2 : ByteArray) (ad2 : ByteArray) (cd2 : ByteArray) (ao2 : Option Addr) (nl2 : Nat) (nc2 : Nat) (w : World) (hs : t.size + st1.size + ad1.size + st2.size + ad2.size ≤ 4611686018427387903) :
    Calls Try.prog 3 #[.string t, .agg #[.int .i64 k1, .int .u16 fl1, .bool cr1, .string st1, .string ad1, .string cd1, .slice ao1 nl1 nc1], .agg #[.int .i64 k2, .int .u16 fl2, .bool cr2, .string st2, .string ad2, .string cd2, .slice ao2 nl2 nc2]] w fun e w' => e = .returned (.bool true) ∧ Below w.heap.size w w' := by
  have HF1 := hide (fun W => Pt.fits_any 2 fl1 cr1 st1 ad1 cd1 ao1 nl1 nc1 t W (by omega))
  have HF2 := hide (fun W => Pt.fits_any 1 fl2 cr2 st2 ad2 cd2 ao2 nl2 nc2 t W (by omega))
  have HCA : ∀ (a b : RuB) (M : Option (List UInt8)), t.size + tw [a, b] ≤ 4611686018427387903 → (Ta.app a.r t.data.toList).bind (Ta.app b.r) = M → Hid (∀ (W : World) {v : Value}, RulesAt W v [a, b] W.heap.size → Calls Try.prog 6 #[.string t, v] W fun e w' => e = .returned (Pt.ansV M) ∧ Below W.heap.size W w') := fun a b M hz hM => hide (fun W v h => by
    rw [← hM, ← chain_two]; exact chain_any t W h (by simp) hz)
  have e1 : tw [(⟨2, fl1, cr1, st1, ad1, cd1, ao1, nl1, nc1⟩ : RuB), ⟨1, fl2, cr2, st2, ad2, cd2, ao2, nl2, nc2⟩] = st1.size + ad1.size + (st2.size + ad2.size) := by simp [tw]
  have e2 : tw [(⟨1, fl2, cr2, st2, ad2, cd2, ao2, nl2, nc2⟩ : RuB), ⟨2, fl1, cr1, st1, ad1, cd1, ao1, nl1, nc1⟩] = st2.size + ad2.size + (st1.size + ad1.size) := by simp [tw]
  cases h1 : Ta.fits (Pt.ruR 2 st1 ad1 cd1) t.data.toList with
  | false =>
    rw [h1] at HF1
    clear HCA e1 e2 h1 hs
    go_enter Try.func3, Try.ntmps3
    go_wp2_with fail
    refine (Pt.wakes15_any _).mono ?_
    rintro e w1 ⟨rfl, hb1⟩
    have A0 := (At14.new w ⟨k1, fl1, cr1, st1, ad1, cd1, ao1, nl1, nc1⟩ ⟨k2, fl2, cr2, st2, ad2, cd2, ao2, nl2, nc2⟩).step hb1
    have z1 := A0.A 0 _ rfl
    have z2 := A0.fA
    have z3 := A0.B 0 _ rfl
    have z4 := A0.fB
    have A1 := hide (A0.setk 2 1)
    obtain ⟨c0, c1, c2, c3, c4, c5, c6, d0, d1, d2, d3, d4, d5, d6⟩ := (unhide A1).cells
    have hlt := (unhide A1).lt
    clear hb1 A0
    go_wp2_with fail
    refine (unhide HF1 _).mono ?_
    rintro e w2 ⟨rfl, hb2⟩
    clear c0 c1 c2 c3 c4 c5 c6 d0 d1 d2 d3 d4 d5 d6 hlt
    have A2 := hide ((unhide A1).step hb2)
    obtain ⟨c0, c1, c2, c3, c4, c5, c6, d0, d1, d2, d3, d4, d5, d6⟩ := (unhide A2).cells
    have hlt := (unhide A2).lt
    clear hb2 A1
    go_wp2
    go_ret
    exact ⟨by simp, (unhide A2).bel⟩
  | true =>
    rw [h1] at HF1
    cases h2 : Ta.fits (Pt.ruR 1 st2 ad2 cd2) t.data.toList with
    | false =>
      rw [h2] at HF2
      clear HCA e1 e2 h1 h2 hs
      go_enter Try.func3, Try.ntmps3
      go_wp2_with fail
      refine (Pt.wakes15_any _).mono ?_
      rintro e w1 ⟨rfl, hb1⟩
      have A0 := (At14.new w ⟨k1, fl1, cr1, st1, ad1, cd1, ao1, nl1, nc1⟩ ⟨k2, fl2, cr2, st2, ad2, cd2, ao2, nl2, nc2⟩).step hb1
      have z1 := A0.A 0 _ rfl
      have z2 := A0.fA
      have z3 := A0.B 0 _ rfl
      have z4 := A0.fB
      have A1 := hide (A0.setk 2 1)
      obtain ⟨c0, c1, c2, c3, c4, c5, c6, d0, d1, d2, d3, d4, d5, d6⟩ := (unhide A1).cells
      have hlt := (unhide A1).lt
      clear hb1 A0
      go_wp2_with fail
      refine (unhide HF1 _).mono ?_
      rintro e w2 ⟨rfl, hb2⟩
      clear c0 c1 c2 c3 c4 c5 c6 d0 d1 d2 d3 d4 d5 d6 hlt
      have A2 := hide ((unhide A1).step hb2)
      obtain ⟨c0, c1, c2, c3, c4, c5, c6, d0, d1, d2, d3, d4, d5, d6⟩ := (unhide A2).cells
      have hlt := (unhide A2).lt
      clear hb2 A1
      go_wp2_with fail
      refine (unhide HF2 _).mono ?_
      rintro e w3 ⟨rfl, hb3⟩
      clear c0 c1 c2 c3 c4 c5 c6 d0 d1 d2 d3 d4 d5 d6 hlt
      have A3 := hide ((unhide A2).step hb3)
      obtain ⟨c0, c1, c2, c3, c4, c5, c6, d0, d1, d2, d3, d4, d5, d6⟩ := (unhide A3).cells
      have hlt := (unhide A3).lt
      clear hb3 A2
      go_wp2
      go_ret
      exact ⟨by simp, (unhide A3).bel⟩
    | true =>
      rw [h2] at HF2
      have hw : IntKind.i64.wrap ((st1.size : Int) + (st2.size : Int)) = (st1.size : Int) + (st2.size : Int) := by simp [IntKind.wrap, IntKind.signed, IntKind.bits]; omega
      by_cases hl : t.size < st1.size + st2.size
      · have hlz : (t.size : Int) < (st1.size : Int) + (st2.size : Int) := by omega
        clear HCA e1 e2 h1 h2 hs hl
        go_enter Try.func3, Try.ntmps3
        go_wp2_with fail
        refine (Pt.wakes15_any _).mono ?_
        rintro e w1 ⟨rfl, hb1⟩
        have A0 := (At14.new w ⟨k1, fl1, cr1, st1, ad1, cd1, ao1, nl1, nc1⟩ ⟨k2, fl2, cr2, st2, ad2, cd2, ao2, nl2, nc2⟩).step hb1
        have z1 := A0.A 0 _ rfl
        have z2 := A0.fA
        have z3 := A0.B 0 _ rfl
        have z4 := A0.fB
        have A1 := hide (A0.setk 2 1)
        obtain ⟨c0, c1, c2, c3, c4, c5, c6, d0, d1, d2, d3, d4, d5, d6⟩ := (unhide A1).cells
        have hlt := (unhide A1).lt
        clear hb1 A0
        go_wp2_with fail
        refine (unhide HF1 _).mono ?_
        rintro e w2 ⟨rfl, hb2⟩
        clear c0 c1 c2 c3 c4 c5 c6 d0 d1 d2 d3 d4 d5 d6 hlt
        have A2 := hide ((unhide A1).step hb2)
        obtain ⟨c0, c1, c2, c3, c4, c5, c6, d0, d1, d2, d3, d4, d5, d6⟩ := (unhide A2).cells
        have hlt := (unhide A2).lt
        clear hb2 A1
        go_wp2_with fail
        refine (unhide HF2 _).mono ?_
        rintro e w3 ⟨rfl, hb3⟩
        clear c0 c1 c2 c3 c4 c5 c6 d0 d1 d2 d3 d4 d5 d6 hlt
        have A3 := hide ((unhide A2).step hb3)
        obtain ⟨c0, c1, c2, c3, c4, c5, c6, d0, d1, d2, d3, d4, d5, d6⟩ := (unhide A3).cells
        have hlt := (unhide A3).lt
        clear hb3 A2
        go_wp2
        go_ret
        exact ⟨by simp, (unhide A3).bel⟩
      · have hlz : ¬ (t.size : Int) < (st1.size : Int) + (st2.size : Int) := by omega
        have s1 : st1.data.toList.length = st1.size := by simp
        have s2 : st2.data.toList.length = st2.size := by simp
        have s3 : t.data.toList.length = t.size := by simp
        obtain ⟨x1, hx⟩ : ∃ x, Ta.app (Pt.ruR 2 st1 ad1 cd1) t.data.toList = some x := Option.isSome_iff_exists.1 (by rw [Ta.app_fits]; exact h1)
        obtain ⟨y1, hy⟩ : ∃ y, Ta.app (Pt.ruR 1 st2 ad2 cd2) t.data.toList = some y := Option.isSome_iff_exists.1 (by rw [Ta.app_fits]; exact h2)
        have HA := HCA ⟨2, fl1, cr1, st1, ad1, cd1, ao1, nl1, nc1⟩ ⟨1, fl2, cr2, st2, ad2, cd2, ao2, nl2, nc2⟩ (Ta.app (Pt.ruR 1 st2 ad2 cd2) x1) (by rw [e1]; omega) (by show (Ta.app (Pt.ruR 2 st1 ad1 cd1) t.data.toList).bind _ = _; rw [hx]; rfl)
        have HB := HCA ⟨1, fl2, cr2, st2, ad2, cd2, ao2, nl2, nc2⟩ ⟨2, fl1, cr1, st1, ad1, cd1, ao1, nl1, nc1⟩ (Ta.app (Pt.ruR 2 st1 ad1 cd1) y1) (by rw [e2]; omega) (by show (Ta.app (Pt.ruR 1 st2 ad2 cd2) t.data.toList).bind _ = _; rw [hy]; rfl)
        have hap : ∀ p q, Ta.app (Pt.ruR 1 st2 ad2 cd2) x1 = some p → Ta.app (Pt.ruR 2 st1 ad1 cd1) y1 = some q → p = q := fun p q hp hq =>
          Ta.apart (s := Pt.ruR 2 st1 ad1 cd1) (p := Pt.ruR 1 st2 ad2 cd2) rfl rfl (by show st1.data.toList.length + st2.data.toList.length ≤ _; rw [s1, s2, s3]; omega) hx hp hy hq
        generalize Ta.app (Pt.ruR 1 st2 ad2 cd2) x1 = M at *
        generalize Ta.app (Pt.ruR 2 st1 ad1 cd1) y1 = N at *
        clear HCA e1 e2 h1 h2 hs hl s1 s2 s3 hx hy
        cases M with
        | none =>
          clear hap
          cases N with
          | none =>
            simp only [Pt.ansV] at HA HB
            go_enter Try.func3, Try.ntmps3
            go_wp2_with fail
            refine (Pt.wakes15_any _).mono ?_
            rintro e w1 ⟨rfl, hb1⟩
            have A0 := (At14.new w ⟨k1, fl1, cr1, st1, ad1, cd1, ao1, nl1, nc1⟩ ⟨k2, fl2, cr2, st2, ad2, cd2, ao2, nl2, nc2⟩).step hb1
            have z1 := A0.A 0 _ rfl
            have z2 := A0.fA
            have z3 := A0.B 0 _ rfl
            have z4 := A0.fB
            have A1 := hide (A0.setk 2 1)
            obtain ⟨c0, c1, c2, c3, c4, c5, c6, d0, d1, d2, d3, d4, d5, d6⟩ := (unhide A1).cells
            have hlt := (unhide A1).lt
            clear hb1 A0
            go_wp2_with fail
            refine (unhide HF1 _).mono ?_
            rintro e w2 ⟨rfl, hb2⟩
            clear c0 c1 c2 c3 c4 c5 c6 d0 d1 d2 d3 d4 d5 d6 hlt
            have A2 := hide ((unhide A1).step hb2)
            obtain ⟨c0, c1, c2, c3, c4, c5, c6, d0, d1, d2, d3, d4, d5, d6⟩ := (unhide A2).cells
            have hlt := (unhide A2).lt
            clear hb2 A1
            go_wp2_with fail
            refine (unhide HF2 _).mono ?_
            rintro e w3 ⟨rfl, hb3⟩
            clear c0 c1 c2 c3 c4 c5 c6 d0 d1 d2 d3 d4 d5 d6 hlt
            have A3 := hide ((unhide A2).step hb3)
            obtain ⟨c0, c1, c2, c3, c4, c5, c6, d0, d1, d2, d3, d4, d5, d6⟩ := (unhide A3).cells
            have hlt := (unhide A3).lt
            clear hb3 A2
            go_wp2_with fail
            refine (unhide HA _ (pair_at _ ⟨2, fl1, cr1, st1, ad1, cd1, ao1, nl1, nc1⟩ ⟨1, fl2, cr2, st2, ad2, cd2, ao2, nl2, nc2⟩)).mono ?_
            rintro e w4 ⟨rfl, hb4⟩
            clear c0 c1 c2 c3 c4 c5 c6 d0 d1 d2 d3 d4 d5 d6 hlt
            have A4 := hide ((unhide A3).step (((Below.refl _ _).alloc (Nat.le_refl _) _).trans (hb4.mono (by simp))))
            obtain ⟨c0, c1, c2, c3, c4, c5, c6, d0, d1, d2, d3, d4, d5, d6⟩ := (unhide A4).cells
            have hlt := (unhide A4).lt
            clear hb4 A3
            go_wp2_with fail
            refine (unhide HB _ (pair_at _ ⟨1, fl2, cr2, st2, ad2, cd2, ao2, nl2, nc2⟩ ⟨2, fl1, cr1, st1, ad1, cd1, ao1, nl1, nc1⟩)).mono ?_
            rintro e w5 ⟨rfl, hb5⟩
            clear c0 c1 c2 c3 c4 c5 c6 d0 d1 d2 d3 d4 d5 d6 hlt
            have A5 := hide ((unhide A4).step (((Below.refl _ _).alloc (Nat.le_refl _) _).trans (hb5.mono (by simp))))
            obtain ⟨c0, c1, c2, c3, c4, c5, c6, d0, d1, d2, d3, d4, d5, d6⟩ := (unhide A5).cells
            have hlt := (unhide A5).lt
            clear hb5 A4
            go_wp2
            go_ret
            exact ⟨by simp, (unhide A5).bel⟩
          | some q =>
            simp only [Pt.ansV] at HA HB
            go_enter Try.func3, Try.ntmps3
            go_wp2_with fail
            refine (Pt.wakes15_any _).mono ?_
            rintro e w1 ⟨rfl, hb1⟩
            have A0 := (At14.new w ⟨k1, fl1, cr1, st1, ad1, cd1, ao1, nl1, nc1⟩ ⟨k2, fl2, cr2, st2, ad2, cd2, ao2, nl2, nc2⟩).step hb1
            have z1 := A0.A 0 _ rfl
            have z2 := A0.fA
            have z3 := A0.B 0 _ rfl
            have z4 := A0.fB
            have A1 := hide (A0.setk 2 1)
            obtain ⟨c0, c1, c2, c3, c4, c5, c6, d0, d1, d2, d3, d4, d5, d6⟩ := (unhide A1).cells
            have hlt := (unhide A1).lt
            clear hb1 A0
            go_wp2_with fail
            refine (unhide HF1 _).mono ?_
            rintro e w2 ⟨rfl, hb2⟩
            clear c0 c1 c2 c3 c4 c5 c6 d0 d1 d2 d3 d4 d5 d6 hlt
            have A2 := hide ((unhide A1).step hb2)
            obtain ⟨c0, c1, c2, c3, c4, c5, c6, d0, d1, d2, d3, d4, d5, d6⟩ := (unhide A2).cells
            have hlt := (unhide A2).lt
            clear hb2 A1
            go_wp2_with fail
            refine (unhide HF2 _).mono ?_
            rintro e w3 ⟨rfl, hb3⟩
            clear c0 c1 c2 c3 c4 c5 c6 d0 d1 d2 d3 d4 d5 d6 hlt
            have A3 := hide ((unhide A2).step hb3)
            obtain ⟨c0, c1, c2, c3, c4, c5, c6, d0, d1, d2, d3, d4, d5, d6⟩ := (unhide A3).cells
            have hlt := (unhide A3).lt
            clear hb3 A2
            go_wp2_with fail
            refine (unhide HA _ (pair_at _ ⟨2, fl1, cr1, st1, ad1, cd1, ao1, nl1, nc1⟩ ⟨1, fl2, cr2, st2, ad2, cd2, ao2, nl2, nc2⟩)).mono ?_
            rintro e w4 ⟨rfl, hb4⟩
            clear c0 c1 c2 c3 c4 c5 c6 d0 d1 d2 d3 d4 d5 d6 hlt
            have A4 := hide ((unhide A3).step (((Below.refl _ _).alloc (Nat.le_refl _) _).trans (hb4.mono (by simp))))
            obtain ⟨c0, c1, c2, c3, c4, c5, c6, d0, d1, d2, d3, d4, d5, d6⟩ := (unhide A4).cells
            have hlt := (unhide A4).lt
            clear hb4 A3
            go_wp2_with fail
            refine (unhide HB _ (pair_at _ ⟨1, fl2, cr2, st2, ad2, cd2, ao2, nl2, nc2⟩ ⟨2, fl1, cr1, st1, ad1, cd1, ao1, nl1, nc1⟩)).mono ?_
            rintro e w5 ⟨rfl, hb5⟩
            clear c0 c1 c2 c3 c4 c5 c6 d0 d1 d2 d3 d4 d5 d6 hlt
            have A5 := hide ((unhide A4).step (((Below.refl _ _).alloc (Nat.le_refl _) _).trans (hb5.mono (by simp))))
            obtain ⟨c0, c1, c2, c3, c4, c5, c6, d0, d1, d2, d3, d4, d5, d6⟩ := (unhide A5).cells
            have hlt := (unhide A5).lt
            clear hb5 A4
            go_wp2
            go_ret
            exact ⟨by simp, (unhide A5).bel⟩
        | some p =>
          cases N with
          | none =>
            clear hap
            simp only [Pt.ansV] at HA HB
            go_enter Try.func3, Try.ntmps3
            go_wp2_with fail
            refine (Pt.wakes15_any _).mono ?_
            rintro e w1 ⟨rfl, hb1⟩
            have A0 := (At14.new w ⟨k1, fl1, cr1, st1, ad1, cd1, ao1, nl1, nc1⟩ ⟨k2, fl2, cr2, st2, ad2, cd2, ao2, nl2, nc2⟩).step hb1
            have z1 := A0.A 0 _ rfl
            have z2 := A0.fA
            have z3 := A0.B 0 _ rfl
            have z4 := A0.fB
            have A1 := hide (A0.setk 2 1)
            obtain ⟨c0, c1, c2, c3, c4, c5, c6, d0, d1, d2, d3, d4, d5, d6⟩ := (unhide A1).cells
            have hlt := (unhide A1).lt
            clear hb1 A0
            go_wp2_with fail
            refine (unhide HF1 _).mono ?_
            rintro e w2 ⟨rfl, hb2⟩
            clear c0 c1 c2 c3 c4 c5 c6 d0 d1 d2 d3 d4 d5 d6 hlt
            have A2 := hide ((unhide A1).step hb2)
            obtain ⟨c0, c1, c2, c3, c4, c5, c6, d0, d1, d2, d3, d4, d5, d6⟩ := (unhide A2).cells
            have hlt := (unhide A2).lt
            clear hb2 A1
            go_wp2_with fail
            refine (unhide HF2 _).mono ?_
            rintro e w3 ⟨rfl, hb3⟩
            clear c0 c1 c2 c3 c4 c5 c6 d0 d1 d2 d3 d4 d5 d6 hlt
            have A3 := hide ((unhide A2).step hb3)
            obtain ⟨c0, c1, c2, c3, c4, c5, c6, d0, d1, d2, d3, d4, d5, d6⟩ := (unhide A3).cells
            have hlt := (unhide A3).lt
            clear hb3 A2
            go_wp2_with fail
            refine (unhide HA _ (pair_at _ ⟨2, fl1, cr1, st1, ad1, cd1, ao1, nl1, nc1⟩ ⟨1, fl2, cr2, st2, ad2, cd2, ao2, nl2, nc2⟩)).mono ?_
            rintro e w4 ⟨rfl, hb4⟩
            clear c0 c1 c2 c3 c4 c5 c6 d0 d1 d2 d3 d4 d5 d6 hlt
            have A4 := hide ((unhide A3).step (((Below.refl _ _).alloc (Nat.le_refl _) _).trans (hb4.mono (by simp))))
            obtain ⟨c0, c1, c2, c3, c4, c5, c6, d0, d1, d2, d3, d4, d5, d6⟩ := (unhide A4).cells
            have hlt := (unhide A4).lt
            clear hb4 A3
            go_wp2_with fail
            refine (unhide HB _ (pair_at _ ⟨1, fl2, cr2, st2, ad2, cd2, ao2, nl2, nc2⟩ ⟨2, fl1, cr1, st1, ad1, cd1, ao1, nl1, nc1⟩)).mono ?_
            rintro e w5 ⟨rfl, hb5⟩
            clear c0 c1 c2 c3 c4 c5 c6 d0 d1 d2 d3 d4 d5 d6 hlt
            have A5 := hide ((unhide A4).step (((Below.refl _ _).alloc (Nat.le_refl _) _).trans (hb5.mono (by simp))))
            obtain ⟨c0, c1, c2, c3, c4, c5, c6, d0, d1, d2, d3, d4, d5, d6⟩ := (unhide A5).cells
            have hlt := (unhide A5).lt
            clear hb5 A4
            go_wp2
            go_ret
            exact ⟨by simp, (unhide A5).bel⟩
          | some q =>
            obtain rfl := hap p q rfl rfl
            clear hap
            simp only [Pt.ansV] at HA HB
            go_enter Try.func3, Try.ntmps3
            go_wp2_with fail
            refine (Pt.wakes15_any _).mono ?_
            rintro e w1 ⟨rfl, hb1⟩
            have A0 := (At14.new w ⟨k1, fl1, cr1, st1, ad1, cd1, ao1, nl1, nc1⟩ ⟨k2, fl2, cr2, st2, ad2, cd2, ao2, nl2, nc2⟩).step hb1
            have z1 := A0.A 0 _ rfl
            have z2 := A0.fA
            have z3 := A0.B 0 _ rfl
            have z4 := A0.fB
            have A1 := hide (A0.setk 2 1)
            obtain ⟨c0, c1, c2, c3, c4, c5, c6, d0, d1, d2, d3, d4, d5, d6⟩ := (unhide A1).cells
            have hlt := (unhide A1).lt
            clear hb1 A0
            go_wp2_with fail
            refine (unhide HF1 _).mono ?_
            rintro e w2 ⟨rfl, hb2⟩
            clear c0 c1 c2 c3 c4 c5 c6 d0 d1 d2 d3 d4 d5 d6 hlt
            have A2 := hide ((unhide A1).step hb2)
            obtain ⟨c0, c1, c2, c3, c4, c5, c6, d0, d1, d2, d3, d4, d5, d6⟩ := (unhide A2).cells
            have hlt := (unhide A2).lt
            clear hb2 A1
            go_wp2_with fail
            refine (unhide HF2 _).mono ?_
            rintro e w3 ⟨rfl, hb3⟩
            clear c0 c1 c2 c3 c4 c5 c6 d0 d1 d2 d3 d4 d5 d6 hlt
            have A3 := hide ((unhide A2).step hb3)
            obtain ⟨c0, c1, c2, c3, c4, c5, c6, d0, d1, d2, d3, d4, d5, d6⟩ := (unhide A3).cells
            have hlt := (unhide A3).lt
            clear hb3 A2
            go_wp2_with fail
            refine (unhide HA _ (pair_at _ ⟨2, fl1, cr1, st1, ad1, cd1, ao1, nl1, nc1⟩ ⟨1, fl2, cr2, st2, ad2, cd2, ao2, nl2, nc2⟩)).mono ?_
            rintro e w4 ⟨rfl, hb4⟩
            clear c0 c1 c2 c3 c4 c5 c6 d0 d1 d2 d3 d4 d5 d6 hlt
            have A4 := hide ((unhide A3).step (((Below.refl _ _).alloc (Nat.le_refl _) _).trans (hb4.mono (by simp))))
            obtain ⟨c0, c1, c2, c3, c4, c5, c6, d0, d1, d2, d3, d4, d5, d6⟩ := (unhide A4).cells
            have hlt := (unhide A4).lt
            clear hb4 A3
            go_wp2_with fail
            refine (unhide HB _ (pair_at _ ⟨1, fl2, cr2, st2, ad2, cd2, ao2, nl2, nc2⟩ ⟨2, fl1, cr1, st1, ad1, cd1, ao1, nl1, nc1⟩)).mono ?_
            rintro e w5 ⟨rfl, hb5⟩
            clear c0 c1 c2 c3 c4 c5 c6 d0 d1 d2 d3 d4 d5 d6 hlt
            have A5 := hide ((unhide A4).step (((Below.refl _ _).alloc (Nat.le_refl _) _).trans (hb5.mono (by simp))))
            obtain ⟨c0, c1, c2, c3, c4, c5, c6, d0, d1, d2, d3, d4, d5, d6⟩ := (unhide A5).cells
            have hlt := (unhide A5).lt
            clear hb5 A4
            go_wp2
            go_ret
            exact ⟨by simp, (unhide A5).bel⟩
end Rv
end Go.Proofs.Ytjcchogilbekoab
