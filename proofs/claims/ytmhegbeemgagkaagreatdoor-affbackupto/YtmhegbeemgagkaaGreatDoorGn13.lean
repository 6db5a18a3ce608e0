import Derived.Test.YtmhegbeemgagkaaGreatDoorGn12
set_option maxHeartbeats 8000000
set_option maxRecDepth 100000
namespace Go.Proofs
open Go.Shelf
def Tryz.laysEq_ren : Go.Shelf.Ren := ⟨fun | 33 => 47 | n => n, fun | 0 => 0 | 3 => 3 | 4 => 4 | 22 => 57 | 23 => 34 | n => n, fun | n => n⟩
theorem Tryz.laysEq : Go.Proofs.SlLaysE.n33 Tryz.prog Tryz.laysEq_ren := {
 mixed := by kernel_rfl
 f33 := ⟨"slices.Equal[hornbook/flags.Set,hornbook/api.Flag]", by decide, Tryz.func47.trans (congrArg some (by kernel_rfl))⟩
 t0 := Tryz.underlying0
 a0 := Tryz.isAgg0
 z0 := Tryz.sizeOf0
 v0 := Tryz.zeroValue0
 t3 := Tryz.underlying3
 a3 := Tryz.isAgg3
 z3 := Tryz.sizeOf3
 v3 := Tryz.zeroValue3
 t4 := Tryz.underlying4
 a4 := Tryz.isAgg4
 z4 := Tryz.sizeOf4
 v4 := Tryz.zeroValue4
 t22 := Tryz.underlying57
 a22 := Tryz.isAgg57
 z22 := Tryz.sizeOf57
 v22 := Tryz.zeroValue57
 a23 := Tryz.isAgg34
 z23 := Tryz.sizeOf34 }
open Go.RowKit Go.Lib Go.Sort in
theorem Tryz.flag_Equal (b1 o1 n c b2 o2 m d : Nat) (xs ys : List Int) (w : World) (hx : n ≤ xs.length) (hy : m ≤ ys.length) (hbig : n ≤ 9223372036854775807) (hbig2 : m ≤ 9223372036854775807) (hc1 : ∀ j, j < xs.length → w.cell? ⟨b1, o1 + j, none⟩ = some (.int .u16 xs[j]!)) (hc2 : ∀ j, j < ys.length → w.cell? ⟨b2, o2 + j, none⟩ = some (.int .u16 ys[j]!)) :
  Calls Tryz.prog 47 #[.slice (some ⟨b1, o1, none⟩) n c, .slice (some ⟨b2, o2, none⟩) m d] w fun e w' => e = .returned (.bool (Lib.allEq (fun x y => decide (x = y)) (xs.take n) (ys.take m))) ∧ ∃ q, w' = w.drewN q :=
 AnyE.slices_Equal Tryz.laysEq (Value.int .u16) (fun x y => decide (x = y)) (NeqAt.intD _ _ .u16) b1 o1 n c b2 o2 m d xs ys w hx hy hbig hbig2 hc1 hc2
end Go.Proofs
namespace Go.Proofs.YtmhegbeemgagkaaGreatDoor
open Go.Sort Go.RowKit
namespace So

theorem allEq_dec : ∀ (xs ys : List Int), Lib.allEq (fun x y => decide (x = y)) xs ys = decide (xs = ys)
 | [], [] => rfl
 | [], _ :: _ => rfl
 | _ :: _, [] => rfl
 | x :: xs, y :: ys => by
  have ih := allEq_dec xs ys
  show (decide (x = y) && Lib.allEq (fun x y => decide (x = y)) xs ys) = _
  rw [ih]
  by_cases h1 : x = y
  ·by_cases h2 : xs = ys
   ·simp [h1, h2]
   ·simp [h1, h2]
  ·simp [h1]
theorem drew_below (W : World) (q n : Nat) : Go.RowKit.Below n W (W.drewN q) := ⟨rfl, rfl, rfl, Nat.le_refl _, fun _ _ => rfl⟩
theorem holds_list {W : World} {g : Nat} {l : List Int} (h : Holds encF W g 0 l.toArray) : ∀ j, j < l.length → W.cell? ⟨g, 0 + j, none⟩ = some (.int .u16 l[j]!) := fun j hj => by
 have := (h j (by simpa using hj)).1
 rw [this]
 congr 2
 rw [getElem!_pos l.toArray j (by simpa using hj), getElem!_pos l j hj]
 simp
theorem equal_set (v t : Value) (S T : List Int) (w : World) (hS : FArg w v S) (hT : FArg w t T) (hn : S.length + T.length ≤ 1099511627776) :
  Calls Tryz.prog 24 #[v, t] w fun e w' => e = .returned (.bool (decide (setOf S = setOf T))) ∧ Go.RowKit.Below w.heap.size w w' := by
 have HO1 := hide (of_set v S w hS (by omega))
 have HO2 : Hid (∀ W, Go.RowKit.Below w.heap.size w W → Calls Tryz.prog 43 #[t] W fun e w' => ∃ u, e = .returned u ∧ FRow W.heap.size w' u (setOf T) ∧ Go.RowKit.Below W.heap.size W w') := fun W hB => of_set t T W (hT.below hB) (by omega)
 have HEQ : Hid (∀ W1 W2 u1 u2, FRow w.heap.size W1 u1 (setOf S) → Go.RowKit.Below w.heap.size w W1 → FRow W1.heap.size W2 u2 (setOf T) → Go.RowKit.Below W1.heap.size W1 W2 → Calls Tryz.prog 47 #[u1, u2] W2 fun e w' => e = .returned (.bool (decide (setOf S = setOf T))) ∧ Go.RowKit.Below w.heap.size w w') := fun W1 W2 u1 u2 h1 hB1 h2 hB2 => by
  obtain ⟨g, cap, rfl, _, _, _, hm, hH⟩ := (h1.below hB2).cells
  obtain ⟨g2, cap2, rfl, _, _, _, hm2, hH2⟩ := h2.cells
  have l1 := (setOf_set S).len
  have l2 := (setOf_set T).len
  refine (Tryz.flag_Equal g 0 (setOf S).length cap g2 0 (setOf T).length cap2 (setOf S) (setOf T) W2 (Nat.le_refl _) (Nat.le_refl _) (by omega) (by omega) (holds_list hH) (holds_list hH2)).mono ?_
  rintro e w' ⟨rfl, q, rfl⟩
  rw [List.take_length, List.take_length, allEq_dec]
  exact ⟨rfl, (hB1.trans (hB2.mono hB1.size)).trans (drew_below W2 q _)⟩
 clear hS hT hn
 generalize decide (setOf S = setOf T) = b at *
 go_enter Tryz.func24, Tryz.ntmps24
 go_wp2_with (first
  | (go_at_call 43; first
   | (refine (unhide HO1).mono ?_; rintro e w1 ⟨u1, rfl, hF1, hB1⟩; have HF1 := hide hF1; have HB1 := hide hB1; have HOX := hide (unhide HO2 _ hB1); clear hF1 hB1 HO1)
   | (refine (unhide HOX).mono ?_; rintro e w2 ⟨u2, rfl, hF2, hB2⟩; have HDX := hide (unhide HEQ _ _ _ _ (unhide HF1) (unhide HB1) hF2 hB2); clear hF2 hB2 HOX))
  | (go_at_call 47; refine (unhide HDX).mono ?_; rintro e w3 ⟨rfl, h3⟩; have H3 := hide h3; clear h3))
 go_ret
 exact ⟨rfl, unhide H3⟩
theorem MaxIs.below {w W : World} (h : MaxIs w) (hB : Go.RowKit.Below w.heap.size w W) : MaxIs W := by
 obtain ⟨m, hm⟩ := h
 refine ⟨m, (hB.cell (p := ⟨0, 0, none⟩) ?_).trans hm⟩
 show 0 < w.heap.size
 rcases Nat.lt_or_ge 0 w.heap.size with hl | hl
 ·exact hl
 ·simp [World.cell?, Array.getElem?_eq_none hl] at hm
def Stt (w W : World) (L I : List (Value × List Int)) : Prop := Go.RowKit.Below w.heap.size w W ∧ (∀ p ∈ L, FArg W p.1 p.2) ∧ (∀ p ∈ I, IRow 0 W p.1 p.2) ∧ MaxIs W
theorem Stt.next {w W W' : World} {L I : List (Value × List Int)} (h : Stt w W L I) (hB : Go.RowKit.Below W.heap.size W W') : Stt w W' L I := ⟨h.1.trans (hB.mono h.1.size), fun p hp => (h.2.1 p hp).below hB, fun p hp => (h.2.2.1 p hp).below hB, h.2.2.2.below hB⟩
theorem Stt.drew {w W : World} {L I : List (Value × List Int)} (h : Stt w W L I) (q : Nat) : Stt w (W.drewN q) L I := h.next ⟨rfl, rfl, rfl, Nat.le_refl _, fun _ _ => rfl⟩
theorem IRow.len {N : Nat} {W : World} {v : Value} {l : List Int} (h : IRow N W v l) : ∃ ao n c, v = .slice ao n c ∧ (n : Int) = l.length := by
 obtain ⟨ao, c, e, _⟩ := h.form
 exact ⟨ao, _, c, e, rfl⟩
open Cut

def vals (kind : Int) (l : List UInt8) : List Int := (pieces kind l).map (One.val kind)
theorem vals_eq (kind : Int) (l : List UInt8) : ((pieces kind l).map mk).map (fun p => One.val kind p.data.toList) = vals kind l := by
 unfold vals
 rw [List.map_map]
 apply List.map_congr_left
 intro p _
 show One.val kind (dl (mk p)) = _
 rw [dl_mk]
theorem vals_bounds (kind : Int) (l : List UInt8) : ∀ x ∈ vals kind l, 0 ≤ x ∧ x ≤ 65535 := by
 intro x hx
 obtain ⟨p, _, rfl⟩ := List.mem_map.1 hx
 exact One.val_bounds kind p
theorem pieces_sizes (kind : Int) (s : ByteArray) (hs : s.size ≤ 1048576) : ∀ p ∈ (pieces kind (dl s)).map mk, p.size ≤ 1048576 := by
 intro p hp
 obtain ⟨q, hq, rfl⟩ := List.mem_map.1 hp
 have := pieces_mem kind (dl s) q hq
 rw [dl_len] at this
 rw [← dl_len, dl_mk]
 omega
theorem pieces_many (kind : Int) (s : ByteArray) (hs : s.size ≤ 1048576) : ((pieces kind (dl s)).map mk).length ≤ 1048577 := by
 have := pieces_count kind (dl s)
 rw [dl_len] at this
 simp
 omega
theorem read_any (kind : Int) (s : ByteArray) (w : World) (hk : One.isK kind = true) (hM : MaxIs w) (hs : s.size ≤ 1048576) :
  Calls Tryz.prog 41 #[.int .i64 kind, .string s] w fun e w' => ∃ u, e = .returned (.tuple #[u, .int .i64 (readE (vals kind (dl s)))]) ∧ Go.RowKit.Below w.heap.size w w' ∧
   (readE (vals kind (dl s)) = 0 → FRow w.heap.size w' u (setOf (vals kind (dl s)))) ∧ (readE (vals kind (dl s)) ≠ 0 → u = .slice none 0 0) := by
 have h := read_with kind s ((pieces kind (dl s)).map mk) w hk (by have := pieces_many kind s hs; omega) (fun p hp => by have := pieces_sizes kind s hs p hp; unfold maxLen; omega) (cut_any kind s w hk hM hs)
 rw [vals_eq] at h
 refine h.mono ?_
 rintro e w' ⟨u, rfl, hB, h1, h2⟩
 refine ⟨u, rfl, hB, fun h0 => ?_, h2⟩
 obtain ⟨l, hl, hF⟩ := h1 h0
 rw [hl.eq] at hF
 exact hF
theorem read_bad (kind : Int) (s : ByteArray) (w : World) (hk : One.isK kind = false) :
  Calls Tryz.prog 41 #[.int .i64 kind, .string s] w fun e w' => e = .returned (.tuple #[.slice none 0 0, .int .i64 30]) ∧ w' = w := by
 have HKK := hide (fun W => One.kind_any kind W)
 rw [hk] at HKK
 go_enter Tryz.func41, Tryz.ntmps41
 go_wp2_with (go_at_call 67; refine (unhide HKK _).mono ?_; rintro e w0 ⟨rfl, hw0⟩; obtain rfl := hw0.symm)
 go_ret2
 exact ⟨rfl, rfl⟩
def rE (kind : Int) (l : List UInt8) : Int := if One.isK kind then readE (vals kind l) else 30
def rS (kind : Int) (l : List UInt8) : List Int := if rE kind l = 0 then setOf (vals kind l) else []
theorem rS_bounds (kind : Int) (l : List UInt8) : ∀ x ∈ rS kind l, 0 ≤ x ∧ x ≤ 65535 := by
 unfold rS
 split
 ·exact set_bounds (vals_bounds kind l)
 ·intro x hx; cases hx
theorem nil_farg (W : World) : FArg W (.slice none 0 0) [] := ⟨none, 0, rfl, Nat.le_refl _, Nat.zero_le _, fun _ => rfl, fun h => absurd h (by simp)⟩
end So
end Go.Proofs.YtmhegbeemgagkaaGreatDoor
