import Derived.Test.YtidhbhdcoanfcaaGreatDoorGq15
namespace Go.Proofs
open Go.Shelf
end Go.Proofs
namespace Go.Proofs.YtidhbhdcoanfcaaGreatDoor
open Go.Sort Go.RowKit
namespace So

theorem drew_below (W : World) (q n : Nat) : Go.RowKit.Below n W (W.drewN q) := ⟨rfl, rfl, rfl, Nat.le_refl _, fun _ _ => rfl⟩
theorem MaxIs.below {w W : World} (h : MaxIs w) (hB : Go.RowKit.Below w.heap.size w W) : MaxIs W := by
 obtain ⟨m, hm⟩ := h
 refine ⟨m, (hB.cell (p := ⟨0, 0, none⟩) ?_).trans hm⟩
 show 0 < w.heap.size
 rcases Nat.lt_or_ge 0 w.heap.size with hl | hl
 ·exact hl
 ·simp [World.cell?, Array.getElem?_eq_none hl] at hm
def Stt (w W : World) (L I : List (Value × List Int)) : Prop := Go.RowKit.Below w.heap.size w W ∧ (∀ p ∈ L, FArg W p.1 p.2) ∧ (∀ p ∈ I, IRow 0 W p.1 p.2) ∧ MaxIs W
theorem Stt.next {w W W' : World} {L I : List (Value × List Int)} (h : Stt w W L I) (hB : Go.RowKit.Below W.heap.size W W') : Stt w W' L I := ⟨h.1.trans (hB.mono h.1.size), fun p hp => (h.2.1 p hp).below hB, fun p hp => (h.2.2.1 p hp).below hB, h.2.2.2.below hB⟩
theorem Stt.drew {w W : World} {L I : List (Value × List Int)} (h : Stt w W L I) (q : Nat) : Stt w (W.drewN q) L I := h.next ⟨rfl, rfl, rfl, Nat.le_refl _, fun _ _ => rfl⟩
theorem IRow.len {N : Nat} {W : World} {v : Value} {l : List Int} (h : IRow N W v l) : ∃ ao n c, v = .slice ao n c ∧ (n : Int) = l.length := by
 obtain ⟨ao, c, e, _⟩ := h.form
 exact ⟨ao, _, c, e, rfl⟩
open Cut

def vals (kind : Int) (l : List UInt8) : List Int := (pieces kind l).map (One.val kind)
theorem vals_eq (kind : Int) (l : List UInt8) : ((pieces kind l).map mk).map (fun p => One.val kind p.data.toList) = vals kind l := by
 unfold vals
 rw [List.map_map]
 apply List.map_congr_left
 intro p _
 show One.val kind (dl (mk p)) = _
 rw [dl_mk]
theorem pieces_sizes (kind : Int) (s : ByteArray) (hs : s.size ≤ 1048576) : ∀ p ∈ (pieces kind (dl s)).map mk, p.size ≤ 1048576 := by
 intro p hp
 obtain ⟨q, hq, rfl⟩ := List.mem_map.1 hp
 have := pieces_mem kind (dl s) q hq
 rw [dl_len] at this
 rw [← dl_len, dl_mk]
 omega
theorem pieces_many (kind : Int) (s : ByteArray) (hs : s.size ≤ 1048576) : ((pieces kind (dl s)).map mk).length ≤ 1048577 := by
 have := pieces_count kind (dl s)
 rw [dl_len] at this
 simp
 omega
theorem read_any (kind : Int) (s : ByteArray) (w : World) (hk : One.isK kind = true) (hM : MaxIs w) (hs : s.size ≤ 1048576) :
  Calls Tryz.prog 105 #[.int .i64 kind, .string s] w fun e w' => ∃ u, e = .returned (.tuple #[u, .int .i64 (readE (vals kind (dl s)))]) ∧ Go.RowKit.Below w.heap.size w w' ∧
   (readE (vals kind (dl s)) = 0 → FRow w.heap.size w' u (setOf (vals kind (dl s)))) ∧ (readE (vals kind (dl s)) ≠ 0 → u = .slice none 0 0) := by
 have h := read_with kind s ((pieces kind (dl s)).map mk) w hk (by have := pieces_many kind s hs; omega) (fun p hp => by have := pieces_sizes kind s hs p hp; unfold maxLen; omega) (cut_any kind s w hk hM hs)
 rw [vals_eq] at h
 refine h.mono ?_
 rintro e w' ⟨u, rfl, hB, h1, h2⟩
 refine ⟨u, rfl, hB, fun h0 => ?_, h2⟩
 obtain ⟨l, hl, hF⟩ := h1 h0
 rw [hl.eq] at hF
 exact hF
set_option maxRecDepth 100000 in
set_option maxHeartbeats 2000000 in
theorem read_bad (kind : Int) (s : ByteArray) (w : World) (hk : One.isK kind = false) :
  Calls Tryz.prog 105 #[.int .i64 kind, .string s] w fun e w' => e = .returned (.tuple #[.slice none 0 0, .int .i64 30]) ∧ w' = w := by
 have HKK := hide (fun W => One.kind_any kind W)
 rw [hk] at HKK
 go_enter Tryz.func105, Tryz.ntmps105
 go_wp2_with (go_at_call 133; refine (unhide HKK _).mono ?_; rintro e w0 ⟨rfl, hw0⟩; obtain rfl := hw0.symm)
 go_ret2
 exact ⟨rfl, rfl⟩
def rE (kind : Int) (l : List UInt8) : Int := if One.isK kind then readE (vals kind l) else 30
def rS (kind : Int) (l : List UInt8) : List Int := if rE kind l = 0 then setOf (vals kind l) else []
theorem nil_farg (W : World) : FArg W (.slice none 0 0) [] := ⟨none, 0, rfl, Nat.le_refl _, Nat.zero_le _, fun _ => rfl, fun h => absurd h (by simp)⟩
end So
end Go.Proofs.YtidhbhdcoanfcaaGreatDoor
