/- Contract: flags.write: what writes a flag. -/
import Derived.Test.YtaaonaaciomijaaDoorShwM
import Derived.Test.YtaaonaaciomijaaDoorTabF
namespace Go.Proofs.YtaaonaaciomijaaDoor
open Go.Sort Go.RowKit
namespace So
open Cut Shw

def Pow (w : World) : Prop := Lib.TabIs Tryd.prog w "internal/strconv.uint64pow10" .u64 Lib.pow10Tab
theorem Pow.below {w W : World} (h : Pow w) (hB : Go.RowKit.Below w.heap.size w W) : Pow W := Tab.pow10_below h hB
theorem conv_new (L : List UInt8) (W : World) : (convert 66 9 (.slice (some ⟨W.heap.size, 0, none⟩) L.length L.length)).run Tryd.prog (W.alloc (.cells (DecW.bytes L).toArray 5)) = .ok (.string (mk L)) (W.alloc (.cells (DecW.bytes L).toArray 5)) :=
  run_convert_bytes_back _ 66 9 5 ⟨W.heap.size, 0, none⟩ L.length L Tryd.underlying66 Tryd.underlying5 Tryd.underlying9 (fun j hj => by
    rw [DecW.add_zero_off, World.cell?_alloc_at _ _ _ _ rfl]
    simp [DecW.bytes, hj])
theorem b8 (f : Int) (h0 : 0 ≤ f) (h1 : f ≤ 65535) : ((UInt8.ofNat (f.toNat % 256)).toNat : Int) = f % 256 := by rw [byte_nat (by omega)]; omega
theorem b8h (f : Int) (h0 : 0 ≤ f) (h1 : f ≤ 65535) : ((UInt8.ofNat (f.toNat / 256)).toNat : Int) = f / 256 := by rw [byte_nat (by omega)]; omega
set_option maxRecDepth 100000 in
set_option maxHeartbeats 2000000 in
theorem write1 (f : Int) (h0 : 0 ≤ f) (h1 : f ≤ 65535) (w : World) :
    Calls Tryd.prog 36 #[.int .i64 1, .int .u16 f] w fun e w' => e = .returned (.string (mk (wr 1 f))) ∧ Go.RowKit.Below w.heap.size w w' := by
  have hc : ∀ W : World, (convert 66 9 (.slice (some ⟨W.heap.size, 0, none⟩) 1 1)).run Tryd.prog (W.alloc (.cells #[.int .u8 (f % 256)] 5)) = .ok (.string (mk (wr 1 f))) (W.alloc (.cells #[.int .u8 (f % 256)] 5)) := fun W => by
    have h := conv_new [UInt8.ofNat (f.toNat % 256)] W
    simp only [DecW.bytes, List.map_cons, List.map_nil, List.length_cons, List.length_nil, b8 f h0 h1] at h
    exact h
  generalize mk (wr 1 f) = r at *
  go_enter Tryd.func36, Tryd.ntmps36
  go_wp2
  go_ret
  exact ⟨rfl, (Go.RowKit.Below.refl _ w).alloc (Nat.le_refl _) _⟩
set_option maxRecDepth 100000 in
set_option maxHeartbeats 2000000 in
theorem write2 (f : Int) (h0 : 0 ≤ f) (h1 : f ≤ 65535) (w : World) :
    Calls Tryd.prog 36 #[.int .i64 2, .int .u16 f] w fun e w' => e = .returned (.string (mk (wr 2 f))) ∧ Go.RowKit.Below w.heap.size w w' := by
  have hc : ∀ W : World, (convert 66 9 (.slice (some ⟨W.heap.size, 0, none⟩) 2 2)).run Tryd.prog (W.alloc (.cells #[.int .u8 (f / 256), .int .u8 (f % 256)] 5)) = .ok (.string (mk (wr 2 f))) (W.alloc (.cells #[.int .u8 (f / 256), .int .u8 (f % 256)] 5)) := fun W => by
    have h := conv_new [UInt8.ofNat (f.toNat / 256), UInt8.ofNat (f.toNat % 256)] W
    simp only [DecW.bytes, List.map_cons, List.map_nil, List.length_cons, List.length_nil, b8 f h0 h1, b8h f h0 h1] at h
    exact h
  have hq : 0 ≤ f / 256 ∧ f / 256 ≤ 255 := by omega
  obtain ⟨hq0, hq1⟩ := hq
  generalize mk (wr 2 f) = r at *
  go_enter Tryd.func36, Tryd.ntmps36
  go_wp2
  go_ret
  exact ⟨rfl, (Go.RowKit.Below.refl _ w).alloc (Nat.le_refl _) _⟩
set_option maxRecDepth 100000 in
set_option maxHeartbeats 2000000 in
theorem write3 (f : Int) (h0 : 0 ≤ f) (h1 : f ≤ 65535) (w : World) (hP : Pow w) :
    Calls Tryd.prog 36 #[.int .i64 3, .int .u16 f] w fun e w' => e = .returned (.string (mk (wr 3 f))) ∧ Go.RowKit.Below w.heap.size w w' := by
  have hd : Calls Tryd.prog 48 #[.int .i64 f] w fun e w' => e = .returned (.string (mk (wr 3 f))) ∧ Go.RowKit.Below w.heap.size w w' := Tab.decimal_any f (by omega) (by omega) w hP
  have HD := hide hd
  clear hd hP
  generalize mk (wr 3 f) = r at *
  go_enter Tryd.func36, Tryd.ntmps36
  go_wp2_with (go_at_call 48; refine (unhide HD).mono ?_; rintro e w1 ⟨rfl, hB⟩; have HB := hide hB; clear hB)
  go_ret
  exact ⟨rfl, unhide HB⟩
theorem write_any (kind f : Int) (hk : One.isK kind = true) (h0 : 0 ≤ f) (h1 : f ≤ 65535) (w : World) (hP : Pow w) :
    Calls Tryd.prog 36 #[.int .i64 kind, .int .u16 f] w fun e w' => e = .returned (.string (mk (wr kind f))) ∧ Go.RowKit.Below w.heap.size w w' := by
  have h3 : kind = 1 ∨ kind = 2 ∨ kind = 3 := by unfold One.isK at hk; simp at hk; omega
  rcases h3 with rfl | rfl | rfl
  · exact write1 f h0 h1 w
  · exact write2 f h0 h1 w
  · exact write3 f h0 h1 w hP
end So
end Go.Proofs.YtaaonaaciomijaaDoor
