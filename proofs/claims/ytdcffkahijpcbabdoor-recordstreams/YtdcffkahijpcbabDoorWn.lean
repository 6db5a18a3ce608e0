/- Layer 6: readers: From, take, Next over a sealed run of frames. -/
import Derived.Test.YtdcffkahijpcbabDoorWr
import Derived.Test.YtdcffkahijpcbabDoorShCl
import Derived.Test.YtdcffkahijpcbabDoorUu6
namespace Go.Proofs.YtdcffkahijpcbabDoor
open Go.RowKit
namespace Rs
structure Rea where
  run : Nat
  blk : Nat
  taken : Nat
  size : Nat
  held : ByteArray
def reaC (sb : Nat) (y : Rea) : Array Value := #[.pointer (some ⟨sb, 0, none⟩), .int .i64 y.run, .int .i64 y.blk, .int .i64 y.taken, .int .i64 y.size, .string y.held]
def RIn (w : World) (sb rb : Nat) (y : Rea) : Prop := w.heap[rb]? = some (.cells (reaC sb y) 108 (0, 0))
theorem rcells {w : World} {sb rb : Nat} {y : Rea} (h : RIn w sb rb y) :
    w.cell? ⟨rb, 0, none⟩ = some (.pointer (some ⟨sb, 0, none⟩)) ∧ w.cell? ⟨rb, 1, none⟩ = some (.int .i64 y.run) ∧ w.cell? ⟨rb, 2, none⟩ = some (.int .i64 y.blk) ∧ w.cell? ⟨rb, 3, none⟩ = some (.int .i64 y.taken) ∧ w.cell? ⟨rb, 4, none⟩ = some (.int .i64 y.size) ∧ w.cell? ⟨rb, 5, none⟩ = some (.string y.held) ∧ (∀ k, w.frozen? ⟨rb, k, none⟩ = false) ∧ rb < w.heap.size := by
  unfold RIn at h
  refine ⟨?_, ?_, ?_, ?_, ?_, ?_, fun k => ?_, (Array.getElem?_eq_some_iff.1 h).1⟩ <;> simp [World.cell?, World.frozen?, h, reaC]
theorem RIn.below {w W : World} {sb rb : Nat} {y : Rea} (h : RIn w sb rb y) (hb : Below w.heap.size w W) : RIn W sb rb y := (hb.block rb (Array.getElem?_eq_some_iff.1 h).1).trans h
theorem rea_ok {m : Sto} {k a n : Nat} {r : Run} (hl : look m.runs k = some r) (hs : r.shut = true) (h : a + n ≤ r.txt.length) : rea m k a n = ((r.txt.drop a).take n, 0) := by
  unfold rea
  rw [hl]
  simp only [hs, if_true]
  rw [if_neg (by omega)]
  simp
theorem siz_ok {m : Sto} {k : Nat} {r : Run} (hl : look m.runs k = some r) : siz m k = ((r.txt.length : Int), 0) := by unfold siz; rw [hl]
set_option maxRecDepth 100000 in
set_option maxHeartbeats 1000000 in
theorem from_go {w : World} {E : Nat → Addr} {B sb b k : Nat} {m : Sto} {F : Nat → Prop} {r : Run} (V : Env w E B) (hF : ∀ b, F b → B ≤ b) (hB : B ≤ w.heap.size) (h : At w sb m F) (h1 : 1 ≤ b) (h2 : b ≤ 4096) (hk : k ≤ 16777216) (hl : look m.runs k = some r) (hs : r.shut = true) :
    Calls Tryd.prog 14 #[.pointer (some ⟨sb, 0, none⟩), .int .i64 k, .int .i64 b] w fun e w' => ∃ rb, e = .returned (.tuple #[.pointer (some ⟨rb, 0, none⟩), .nilIface]) ∧ RIn w' sb rb ⟨k, b, 0, r.txt.length, ⟨#[]⟩⟩ ∧ w.heap.size ≤ rb ∧ Below w.heap.size w w' := by
  have HCP := hide (place_ok (w := w) sb b h1 h2)
  have HSZ := hide (size_any (k := (k : Int)) h (V.gs hF) (by omega) (by omega))
  rw [siz_ok hl] at HSZ
  have HRD : Hid (∀ W, Below w.heap.size w W → Calls Tryd.prog 18 #[.pointer (some ⟨sb, 0, none⟩), .int .i64 k, .int .i64 0, .int .i64 0] W fun e w' => e = .returned (.tuple #[.string (strB []), .nilIface]) ∧ Below W.heap.size W w') := fun W hW => by
    have q := read_any (k := (k : Int)) (a := 0) (n := 0) (h.kept (w' := W) (fun b hF => hW.block b (h.lt b hF)) (fun _ x => x) (fun b hF => Nat.lt_of_lt_of_le (h.lt b hF) hW.size)) (V.below (hW.mono hB)) hF (by omega) (by omega) (by omega) (by omega)
    have e := rea_ok (a := 0) (n := 0) hl hs (by omega)
    rw [show rea m (k : Int) 0 0 = ((r.txt.drop 0).take 0, 0) from e] at q
    exact q
  rw [show errV E ((r.txt.length : Int), 0).2 = .nilIface from rfl] at HSZ
  dsimp only at HSZ
  obtain ⟨n, hn⟩ : ∃ n, r.txt.length = n := ⟨_, rfl⟩
  rw [hn] at HSZ ⊢
  clear V h hl hs hn
  go_enter Tryd.func14, Tryd.ntmps14
  go_wp2_with (first | (go_at_call 38; refine (unhide HCP).mono ?_; rintro e w1 ⟨rfl, hw1⟩; have hw2 := hw1.symm; subst hw2; clear hw1) | (go_at_call 17; refine (unhide HSZ).mono ?_; rintro e w2 ⟨rfl, hb2⟩; have HB2 := hide hb2; clear hb2) | (go_at_call 18; refine (unhide HRD _ (unhide HB2)).mono ?_; rintro e w3 ⟨rfl, hb3⟩; have HB3 := hide ((unhide HB2).trans (hb3.mono (unhide HB2).size)); clear hb3))
  go_ret2
  exact ⟨_, rfl, (MapKept.heap_alloc w3 _).1, (unhide HB3).size, (unhide HB3).alloc (unhide HB3).size _⟩
set_option maxRecDepth 100000 in
set_option maxHeartbeats 2000000 in
theorem take_go {w : World} {E : Nat → Addr} {B sb rb : Nat} {m : Sto} {F : Nat → Prop} {r : Run} {y : Rea} (V : Env w E B) (hF : ∀ b, F b → B ≤ b) (hB : B ≤ w.heap.size) (h : At w sb m F) (hr : RIn w sb rb y) (hrun : y.run ≤ 16777216) (hl : look m.runs y.run = some r) (hs : r.shut = true) (hz : y.size = r.txt.length) (hzl : y.size ≤ 67108864) (ht : y.taken ≤ y.size) (hb2 : y.blk ≤ 4096) (hh : y.held.size ≤ 67108864)
    (n : Nat) (hn : n = min y.blk (y.size - y.taken)) (X : ByteArray) (hX : X = y.held ++ strB ((r.txt.drop y.taken).take n)) :
    Calls Tryd.prog 47 #[.pointer (some ⟨rb, 0, none⟩)] w fun e w' => e = .returned .nilIface ∧ RIn w' sb rb { y with taken := y.taken + n, held := X } ∧ Chg (fun b => b = rb) w w' := by
  have HRD : Hid (∀ W, Below w.heap.size w W → Calls Tryd.prog 18 #[.pointer (some ⟨sb, 0, none⟩), .int .i64 y.run, .int .i64 y.taken, .int .i64 n] W fun e w' => e = .returned (.tuple #[.string (strB ((r.txt.drop y.taken).take n)), .nilIface]) ∧ Below w.heap.size w w') := fun W hW => by
    have q := read_any (k := (y.run : Int)) (a := (y.taken : Int)) (n := (n : Int)) (h.kept (w' := W) (fun b hF => hW.block b (h.lt b hF)) (fun _ x => x) (fun b hF => Nat.lt_of_lt_of_le (h.lt b hF) hW.size)) (V.below (hW.mono hB)) hF (by omega) (by omega) (by omega) (by omega)
    rw [rea_ok hl hs (by omega)] at q
    exact q.mono fun e w' hh => ⟨hh.1, hW.trans (hh.2.mono hW.size)⟩
  obtain ⟨c0, c1, c2, c3, c4, c5, cf, hrb⟩ := rcells hr
  have hadd : ∀ W : World, (Op.stringOp .add y.held (strB ((r.txt.drop y.taken).take n))).run Tryd.prog W = .ok (.string X) W := fun W => by
    rw [hX]
    refine run_string_add_sum _ _ _ ?_
    have : (strB ((r.txt.drop y.taken).take n)).size ≤ r.txt.length := by simp [strB, ByteArray.size]; omega
    omega
  have HFI : Hid (∀ W, Below w.heap.size w W → RIn ((W.setCell ⟨rb, 5, none⟩ (.string X)).setCell ⟨rb, 3, none⟩ (.int .i64 ((y.taken + n : Nat) : Int))) sb rb { y with taken := y.taken + n, held := X } ∧ Chg (fun b => b = rb) w ((W.setCell ⟨rb, 5, none⟩ (.string X)).setCell ⟨rb, 3, none⟩ (.int .i64 ((y.taken + n : Nat) : Int)))) := fun W hW => by
    have h1 := hr.below hW
    refine ⟨?_, ?_⟩
    · unfold RIn at h1 ⊢
      rw [set_heap1 (set_heap1 h1 _)]
      simp [reaC]
    · have c : Chg (fun b => b = rb) w W := Chg.of_below hW
      exact (c.setCell (.inl rfl) _).setCell (.inl rfl) _
  have HCW : Hid (∀ W, Below w.heap.size w W → RIn W sb rb y) := fun W hW => hr.below hW
  generalize strB ((r.txt.drop y.taken).take n) = Z at *
  have ets : ((y.taken + n : Nat) : Int) = (y.taken : Int) + (n : Int) := by omega
  rw [ets] at HFI
  have hsub : (y.size : Int) - (y.taken : Int) = ((y.size - y.taken : Nat) : Int) := by omega
  have hmin : min (y.blk : Int) ((y.size - y.taken : Nat) : Int) = (n : Int) := by omega
  have hnl : y.taken + n ≤ 67108864 := by omega
  clear V h hr hl hs hX ets hz hn hF
  go_enter Tryd.func47, Tryd.ntmps47
  go_wp2
  go_quiet (fail)
  have HQ : Hid (Below w.heap.size w (w.drewN nq)) := ⟨rfl, rfl, rfl, Nat.le_refl _, fun _ _ => rfl⟩
  obtain ⟨d0, d1, d2, d3, d4, d5, df, hdb⟩ := rcells (unhide HCW _ (unhide HQ))
  generalize w.drewN nq = W1 at *
  go_wp2
  go_region_held3 (fun w' => w'.cell? ⟨rb, 0, none⟩ = some (.pointer (some ⟨sb, 0, none⟩)) ∧ w'.cell? ⟨rb, 1, none⟩ = some (.int .i64 y.run) ∧ w'.cell? ⟨rb, 3, none⟩ = some (.int .i64 y.taken))
    (first | exact ⟨d0, d1, d3⟩ | exact s3)
    (first | (go_at_call 18; refine (unhide HRD _ (by first | exact unhide HQ | exact (unhide HQ).drew)).mono ?_; rintro e w3 ⟨rfl, hb3⟩; obtain ⟨z0, z1, z2, z3, z4, z5, zf, hz3⟩ := rcells (unhide HCW _ hb3); have s3 := (⟨z0, z1, z3⟩ : _ ∧ _ ∧ _); have HF3 := hide (unhide HFI _ hb3); clear hb3))
  clear s3
  go_wp2
  go_ret
  exact ⟨rfl, unhide HF3⟩
end Rs
end Go.Proofs.YtdcffkahijpcbabDoor
