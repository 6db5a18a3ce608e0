/- Layer 6: the document's writer: Open, Put, Close. -/
import Derived.Test.YtbapnoafjcipjaaGreatDoorGf
import Derived.Test.YtbapnoafjcipjaaGreatDoorUs6
namespace Go.Proofs.YtbapnoafjcipjaaGreatDoor
open Go.RowKit
namespace Rs
structure Doc where
  run : Nat
  blk : Nat
  dead : Nat
  held : ByteArray
def docC (d : Doc) : Array Value := #[.int .i64 d.run, .int .i64 d.blk, .int .i64 d.dead, .string d.held]
def VIn (w : World) (vb : Nat) (d : Doc) : Prop := w.heap[vb]? = some (.cells (docC d) 150 (0, 0))
theorem vcells {w : World} {vb : Nat} {d : Doc} (h : VIn w vb d) : w.cell? ⟨vb, 0, none⟩ = some (.int .i64 d.run) ∧ w.cell? ⟨vb, 1, none⟩ = some (.int .i64 d.blk) ∧ w.cell? ⟨vb, 2, none⟩ = some (.int .i64 d.dead) ∧ w.cell? ⟨vb, 3, none⟩ = some (.string d.held) ∧ (∀ k, w.frozen? ⟨vb, k, none⟩ = false) ∧ vb < w.heap.size := by
  unfold VIn at h
  refine ⟨?_, ?_, ?_, ?_, fun k => ?_, (Array.getElem?_eq_some_iff.1 h).1⟩ <;> simp [World.cell?, World.frozen?, h, docC]
theorem VIn.below {w W : World} {vb : Nat} {d : Doc} (h : VIn w vb d) (hb : Below w.heap.size w W) : VIn W vb d := (hb.block vb (Array.getElem?_eq_some_iff.1 h).1).trans h
/-- the document's store and a writer of it -/
structure DocW (w wr : World) (F : Nat → Prop) (sb vb : Nat) (m : Sto) (d : Doc) : Prop where
  sto : ∃ F' rv sl, DIn wr sb m F' rv sl ∧ (∀ b, F' b → Up F w wr b) ∧ ¬ F' vb
  wri : VIn wr vb d
  chg : Chg (fun b => F b ∨ b = vb) w wr
set_option maxRecDepth 100000 in
set_option maxHeartbeats 1000000 in
theorem dopen_go {w : World} {sb b n : Nat} {m m2 : Sto} {F : Nat → Prop} {rv : Value} {sl : Nat → Value} (h : DIn w sb m F rv sl) (h1 : 1 ≤ b) (h2 : b ≤ 4096) (hc : crt m = (((n : Int), 0), m2)) :
    Calls Tryz.prog 67 #[.pointer (some ⟨sb, 0, none⟩), .int .i64 b] w fun e w' => ∃ vb, e = .returned (.tuple #[.pointer (some ⟨vb, 0, none⟩), .int .i64 0]) ∧ VIn w' vb ⟨n, b, 0, ByteArray.empty⟩ ∧ w.heap.size ≤ vb ∧ (∃ F' rv sl, DIn w' sb m2 F' rv sl ∧ (∀ b, F' b → Up F w w' b) ∧ ¬ F' vb) ∧ Chg F w w' := by
  have HCR := hide (create_doc h)
  rw [hc] at HCR
  dsimp only at HCR
  have q1 : ¬ (b : Int) < 1 := by omega
  have q2 : ¬ 4096 < (b : Int) := by omega
  clear h hc
  go_enter Tryz.func67, Tryz.ntmps67
  go_wp2_with (go_at_call 96; refine (unhide HCR).mono ?_; rintro e w2 ⟨rfl, hd2, hc2⟩; have HD2 := hide hd2; have HC2 := hide hc2; clear hd2 hc2)
  go_ret2
  refine ⟨_, rfl, (MapKept.heap_alloc w2 _).1, (unhide HC2).size, ?_, (unhide HC2).alloc _⟩
  obtain ⟨rv', sl', hd⟩ := unhide HD2
  refine ⟨Up F w w2, rv', sl', hd.below ((Below.refl _ _).alloc (Nat.le_refl _) _), fun b hb => hb.imp id fun x => ⟨x.1, by simp; omega⟩, fun hb => ?_⟩
  have := hd.lt _ hb
  omega
set_option maxRecDepth 100000 in
set_option maxHeartbeats 1000000 in
theorem dopen_fail {w : World} {sb b c : Nat} {m m2 : Sto} {F : Nat → Prop} {rv : Value} {sl : Nat → Value} (h : DIn w sb m F rv sl) (h1 : 1 ≤ b) (h2 : b ≤ 4096) (hc : crt m = ((0, c), m2)) (hc0 : c ≠ 0) :
    Calls Tryz.prog 67 #[.pointer (some ⟨sb, 0, none⟩), .int .i64 b] w fun e w' => e = .returned (.tuple #[.pointer none, .int .i64 c]) ∧ DRes F w sb m2 w' := by
  have HCR := hide (create_doc h)
  rw [hc] at HCR
  dsimp only at HCR
  have q1 : ¬ (b : Int) < 1 := by omega
  have q2 : ¬ 4096 < (b : Int) := by omega
  have q3 : ((c : Int) == 0) = false := by simp; omega
  clear h hc
  go_enter Tryz.func67, Tryz.ntmps67
  go_wp2_with (go_at_call 96; refine (unhide HCR).mono ?_; rintro e w2 ⟨rfl, hd2, hc2⟩; have HD2 := hide hd2; have HC2 := hide hc2; clear hd2 hc2)
  go_ret2
  exact ⟨rfl, unhide HD2, unhide HC2⟩
set_option maxRecDepth 100000 in
theorem dput_dead {w : World} {vb : Nat} {d : Doc} {s v : Value} (h : VIn w vb d) (hd : d.dead ≠ 0) :
    Calls Tryz.prog 68 #[s, .pointer (some ⟨vb, 0, none⟩), v] w fun e w' => e = .returned (.int .i64 d.dead) ∧ w' = w := by
  obtain ⟨c0, c1, c2, c3, cf, hv⟩ := vcells h
  have q3 : ((d.dead : Int) == 0) = false := by simp; omega
  clear h
  go_enter Tryz.func68, Tryz.ntmps68
  go_wp2
  go_ret
  exact ⟨rfl, rfl⟩
set_option maxRecDepth 100000 in
theorem dclose_dead {w : World} {vb : Nat} {d : Doc} {s : Value} (h : VIn w vb d) (hd : d.dead ≠ 0) :
    Calls Tryz.prog 70 #[s, .pointer (some ⟨vb, 0, none⟩)] w fun e w' => e = .returned (.tuple #[.int .i64 0, .int .i64 d.dead]) ∧ Below w.heap.size w w' := by
  obtain ⟨c0, c1, c2, c3, cf, hv⟩ := vcells h
  have q3 : ((d.dead : Int) == 0) = false := by simp; omega
  clear h
  go_enter Tryz.func70, Tryz.ntmps70
  go_wp2
  go_quiet (fail)
  go_wp2
  go_ret2
  exact ⟨rfl, rfl, rfl, rfl, Nat.le_refl _, fun _ _ => rfl⟩
set_option maxRecDepth 100000 in
set_option maxHeartbeats 1000000 in
theorem dput_unfit {w : World} {vb : Nat} {d : Doc} {s v : Value} {L : List ByteArray} (h : VIn w vb d) (hd : d.dead = 0) (hT : Um.Txs w v L) (hn : L.length ≤ 1048576) (hfit : Um.fit (Um.rl L) = false) :
    Calls Tryz.prog 68 #[s, .pointer (some ⟨vb, 0, none⟩), v] w fun e w' => e = .returned (.int .i64 10) ∧ Below w.heap.size w w' := by
  have HFR := hide (Um.ref_frame v L w hT (by omega) ByteArray.empty 62 (by show Um.frA L = _; unfold Um.frA; rw [if_neg (by simp [hfit])]) (by show Um.frE L = 62; unfold Um.frE; rw [if_neg (by simp [hfit])]))
  obtain ⟨c0, c1, c2, c3, cf, hv⟩ := vcells h
  rw [hd] at c2
  clear h hT hfit hd
  go_enter Tryz.func68, Tryz.ntmps68
  go_wp2_with (go_at_call 97; refine (unhide HFR).mono ?_; rintro e w3 ⟨rfl, hb3⟩; have HB3 := hide hb3; clear hb3)
  go_ret
  exact ⟨rfl, unhide HB3⟩
end Rs
end Go.Proofs.YtbapnoafjcipjaaGreatDoor
