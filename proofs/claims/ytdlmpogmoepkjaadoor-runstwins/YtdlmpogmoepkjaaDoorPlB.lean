/- Layer 5: what a call of a script answers. -/
import Derived.Test.YtdlmpogmoepkjaaDoorRz
import Derived.Test.YtdlmpogmoepkjaaDoorRb
import Derived.Test.YtdlmpogmoepkjaaDoorRs5
import Derived.Deep.RegionLaw
namespace Go.Proofs.YtdlmpogmoepkjaaDoor
open Go.RowKit
namespace Rs
structure Ans where
  n : Int
  c : Nat
  t : List UInt8
  l : List Int
structure Op5 where
  kd : Int
  run : Int
  at_ : Int
  n : Int
  L : List ByteArray
structure Op5.Ok (o : Op5) : Prop where
  k1 : -9223372036854775808 ≤ o.kd
  k2 : o.kd ≤ 9223372036854775807
  r1 : -9223372036854775808 ≤ o.run
  r2 : o.run ≤ 9223372036854775807
  a1 : -9223372036854775808 ≤ o.at_
  a2 : o.at_ ≤ 9223372036854775807
  n1 : -9223372036854775808 ≤ o.n
  n2 : o.n ≤ 9223372036854775807
  len : o.L.length ≤ 8796093022208
def opV (o : Op5) (pv : Value) : Value := .agg #[.int .i64 o.kd, .int .i64 o.run, .int .i64 o.at_, .int .i64 o.n, pv]
def ansV (a : Ans) (lv : Value) : Value := .agg #[.int .i64 a.n, .int .i64 a.c, .string (strB a.t), lv]
def ply (m : Sto) (o : Op5) : Ans × Sto :=
  if o.kd = 1 then (⟨(crt m).1.1, (crt m).1.2, [], []⟩, (crt m).2)
  else if o.kd = 2 then (⟨0, (app m o.run o.L).1, [], []⟩, (app m o.run o.L).2)
  else if o.kd = 3 then (⟨0, (sel m o.run).1, [], []⟩, (sel m o.run).2)
  else if o.kd = 4 then (⟨0, (rea m o.run o.at_ o.n).2, (rea m o.run o.at_ o.n).1, []⟩, m)
  else if o.kd = 5 then (⟨(siz m o.run).1, (siz m o.run).2, [], []⟩, m)
  else if o.kd = 6 then (⟨0, (rem m o.run).1, [], []⟩, (rem m o.run).2)
  else if o.kd = 7 then (⟨0, 0, [], nums m.runs⟩, m)
  else if o.kd = 8 then (⟨tot m.runs, 0, [], []⟩, m)
  else if o.kd = 9 then (⟨m.peak, 0, [], []⟩, m)
  else if o.kd = 10 then (⟨m.made, 0, [], []⟩, m)
  else if o.kd = 11 then (⟨0, 0, [], []⟩, m.brk o.n)
  else (⟨0, 0, [], []⟩, m)
theorem crt_code (m : Sto) : (crt m).1.2 = 0 ∨ (crt m).1.2 ∈ codes := by
  unfold crt; split
  · right; show 9 ∈ codes; decide
  · split
    · right; show 8 ∈ codes; decide
    · left; rfl
theorem app_code (m : Sto) (k : Int) (L : List ByteArray) : (app m k L).1 = 0 ∨ (app m k L).1 ∈ codes := by
  unfold app; split
  · right; show 9 ∈ codes; decide
  · split
    · right; show 3 ∈ codes; decide
    · split
      · right; show 4 ∈ codes; decide
      · split
        · left; rfl
        · right; show 7 ∈ codes; decide
theorem sel_code (m : Sto) (k : Int) : (sel m k).1 = 0 ∨ (sel m k).1 ∈ codes := by
  unfold sel; split
  · right; show 9 ∈ codes; decide
  · split
    · right; show 3 ∈ codes; decide
    · split
      · right; show 4 ∈ codes; decide
      · left; rfl
theorem rem_code (m : Sto) (k : Int) : (rem m k).1 = 0 ∨ (rem m k).1 ∈ codes := by
  unfold rem; split
  · right; show 3 ∈ codes; decide
  · left; rfl
theorem siz_code (m : Sto) (k : Int) : (siz m k).2 = 0 ∨ (siz m k).2 ∈ codes := by
  unfold siz; split
  · right; show 3 ∈ codes; decide
  · left; rfl
theorem rea_code (m : Sto) (k a n : Int) : (rea m k a n).2 = 0 ∨ (rea m k a n).2 ∈ codes := by
  unfold rea; split
  · right; show 3 ∈ codes; decide
  · split
    · split
      · right; show 6 ∈ codes; decide
      · left; rfl
    · right; show 5 ∈ codes; decide
/-- blocks outside F stand as they were -/
theorem chg_cells {F : Nat → Prop} {W w4 : World} (c : Chg F W w4) {B : Nat} (hF : ∀ b, F b → b < B) : (∀ b j, B ≤ b → b < W.heap.size → w4.cell? ⟨b, j, none⟩ = W.cell? ⟨b, j, none⟩) ∧ (∀ b j, B ≤ b → b < W.heap.size → w4.frozen? ⟨b, j, none⟩ = W.frozen? ⟨b, j, none⟩) :=
  ⟨fun b j h1 h2 => World.cell?_of_block (a := ⟨b, j, none⟩) (c.block b h2 fun e => by have := hF b e; omega), fun b j h1 h2 => World.frozen?_of_block (a := ⟨b, j, none⟩) (c.block b h2 fun e => by have := hF b e; omega)⟩
theorem Res.wrap {F : Nat → Prop} {w W3 w4 W5 : World} {sb : Nat} {m : Sto} (hb : Below w.heap.size w W3) (h : Res F W3 sb m w4) (hlt : ∀ b, F b → b < w.heap.size) (c : Chg (fun b => w.heap.size ≤ b ∧ b < W3.heap.size) w4 W5) : Res F w sb m W5 := by
  have hk : ∀ b, Up F W3 w4 b → W5.heap[b]? = w4.heap[b]? := fun b hu => c.block b (h.1.lt b hu) fun e => by
    rcases hu with hu | hu
    · have := hlt b hu; omega
    · omega
  refine ⟨h.1.kept hk (fun b hu => ?_) (fun b hu => ?_), ⟨c.os.trans (h.2.os.trans hb.os), c.tape.trans (h.2.tape.trans hb.tape), c.output.trans (h.2.output.trans hb.output), Nat.le_trans hb.size (Nat.le_trans h.2.size c.size), fun k hk2 hn => ?_⟩⟩
  · rcases hu with hu | hu
    · exact .inl hu
    · exact .inr ⟨Nat.le_trans hb.size hu.1, Nat.lt_of_lt_of_le hu.2 c.size⟩
  · rcases hu with hu | hu
    · have := hlt b hu; have := hb.size; have := h.2.size; have := c.size; omega
    · exact hu.2
  · have l1 := hb.size
    have l2 := h.2.size
    rw [c.block k (by omega) (fun e => by omega), h.2.block k (by omega) hn, hb.block k hk2]
theorem loc_cells {w W3 w4 : World} {F : Nat → Prop} (c : Chg F W3 w4) (hlt : ∀ b, F b → b < w.heap.size) {g : Nat} {C : Array Value} (hg : w.heap.size ≤ g) (h : W3.heap[g]? = some (.cells C 33 (0, 0))) : w4.heap[g]? = some (.cells C 33 (0, 0)) :=
  (c.block g (Array.getElem?_eq_some_iff.1 h).1 fun e => by have := hlt g e; omega).trans h
theorem ans_cells {w : World} {g : Nat} {a b c d : Value} (h : w.heap[g]? = some (.cells #[a, b, c, d] 33 (0, 0))) : w.cell? ⟨g, 0, none⟩ = some a ∧ w.cell? ⟨g, 1, none⟩ = some b ∧ w.cell? ⟨g, 2, none⟩ = some c ∧ w.cell? ⟨g, 3, none⟩ = some d ∧ ∀ k, w.frozen? ⟨g, k, none⟩ = false := by
  refine ⟨?_, ?_, ?_, ?_, fun k => ?_⟩ <;> simp [World.cell?, World.frozen?, h]
theorem at_below {w W : World} {sb : Nat} {m : Sto} {F : Nat → Prop} (h : At w sb m F) (hb : Below w.heap.size w W) : At W sb m F := h.kept (fun b hF => hb.block b (h.lt b hF)) (fun _ x => x) (fun b x => Nat.lt_of_lt_of_le (h.lt b x) hb.size)
/-- what the tail of plays needs behind the call -/
structure Tl (w w4 : World) (E : Nat → Addr) (B : Nat) (F : Nat → Prop) (sb : Nat) (m : Sto) : Prop where
  b1 : w4.heap[w.heap.size + 1]? = some (.cells #[.int .i64 0, .int .i64 0, .string (strB []), .slice none 0 0] 33 (0, 0))
  b2 : w4.heap[w.heap.size + 1 + 1]? = some (.cells #[.int .i64 0, .int .i64 0, .string (strB []), .slice none 0 0] 33 (0, 0))
  env : Env w4 E B
  sz : w.heap.size + 1 + 1 < w4.heap.size
  res : ∀ W5, Chg (fun b => w.heap.size ≤ b ∧ b < w.heap.size + 3) w4 W5 → Res F w sb m W5
theorem Tl.mk0 {w : World} {o1 : Obj} {w4 : World} {E : Nat → Addr} {B : Nat} {F : Nat → Prop} {sb : Nat} {m : Sto} {W3 : World} (hW : W3 = ((w.alloc o1).alloc (.cells #[.int .i64 0, .int .i64 0, .string (strB []), .slice none 0 0] 33)).alloc (.cells #[.int .i64 0, .int .i64 0, .string (strB []), .slice none 0 0] 33))
    (V : Env w E B) (hB : B ≤ w.heap.size) (hF : ∀ b, F b → B ≤ b) (hlt : ∀ b, F b → b < w.heap.size) (h : Res F W3 sb m w4) : Tl w w4 E B F sb m := by
  have hb : Below w.heap.size w W3 := by rw [hW]; (repeat (first | exact Below.refl _ _ | refine Below.drew ?_ | refine Below.alloc ?_ (by first | (simp; done) | (simp; omega)) _ | refine Below.setCell ?_ (by first | (simp; done) | (simp; omega)) _))
  have hs : W3.heap.size = w.heap.size + 3 := by rw [hW]; simp
  refine ⟨loc_cells h.2 hlt (by omega) ?_, loc_cells h.2 hlt (by omega) ?_, (V.below (hb.mono hB)).below (h.2.below (Nat.le_trans hB hb.size) hF), by have := h.2.size; omega, fun W5 c => Res.wrap hb h hlt (by rw [hs]; exact c)⟩
  · rw [hW, Below.heap_alloc _ _ _ (by simp)]
    have := (MapKept.heap_alloc (w.alloc o1) (.cells #[.int .i64 0, .int .i64 0, .string (strB []), .slice none 0 0] 33)).1
    simpa using this
  · rw [hW]
    have := (MapKept.heap_alloc ((w.alloc o1).alloc (.cells #[.int .i64 0, .int .i64 0, .string (strB []), .slice none 0 0] 33)) (.cells #[.int .i64 0, .int .i64 0, .string (strB []), .slice none 0 0] 33)).1
    simpa using this
end Rs
end Go.Proofs.YtdlmpogmoepkjaaDoor
