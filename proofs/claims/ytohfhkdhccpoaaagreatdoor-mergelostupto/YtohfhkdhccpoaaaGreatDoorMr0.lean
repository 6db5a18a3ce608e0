/- Layer 10: Sort and Merge that are refused. -/
import Derived.Test.YtohfhkdhccpoaaaGreatDoorMo
namespace Go.Proofs.YtohfhkdhccpoaaaGreatDoor
open Go.RowKit Go.Shelf
namespace Rs
open Sm (Tx ofS)
set_option maxRecDepth 100000 in
theorem fnew_nil {w : World} {E : Nat → Addr} {B : Nat} (V : Env w E B) (b : Int) :
    Calls Tryz.prog 35 #[.pointer none, .int .i64 b] w fun e w' => e = .returned (.tuple #[.pointer none, er E 1]) ∧ Below w.heap.size w w' := by
  have hl := V.g.nil
  have hz : 0 < w.heap.size := by have := V.g.sz; omega
  clear V
  go_enter Tryz.func35, Tryz.ntmps35
  go_wp2
  go_quiet (fail)
  go_wp2
  go_ret2
  exact ⟨rfl, ⟨rfl, rfl, rfl, Nat.le_refl _, fun _ _ => rfl⟩⟩
set_option maxRecDepth 100000 in
theorem sort_err {w : World} {E : Nat → Addr} {p : Option Addr} {b fan : Int} {v : Value} {c : Nat} (hc : c ≠ 0) (h : Calls Tryz.prog 35 #[.pointer p, .int .i64 b] w fun e w' => e = .returned (.tuple #[.pointer none, er E c]) ∧ Below w.heap.size w w') :
    Calls Tryz.prog 15 #[.pointer p, .int .i64 b, .int .i64 fan, v] w fun e w' => e = .returned (.tuple #[.int .i64 0, errV E c]) ∧ Below w.heap.size w w' := by
  rw [errV_pos E hc]
  unfold er at h ⊢
  have HN := hide h
  clear h
  go_enter Tryz.func15, Tryz.ntmps15
  go_wp2_with (go_at_call 35; refine (unhide HN).mono ?_; rintro e w1 ⟨rfl, b1⟩; have HB1 := hide b1; clear b1)
  go_ret2
  exact ⟨rfl, unhide HB1⟩
theorem sort_nil10 {w : World} {E : Nat → Addr} {Be : Nat} (V : EnvZ w E Be) (b fan : Int) (v : Value) :
    Calls Tryz.prog 15 #[.pointer none, .int .i64 b, .int .i64 fan, v] w fun e w' => e = .returned (.tuple #[.int .i64 0, errV E 1]) ∧ Below w.heap.size w w' := sort_err (by decide) (fnew_nil V.toEnv b)
theorem sort_buf {w : World} {E : Nat → Addr} {Be sb : Nat} (V : EnvZ w E Be) (b fan : Int) (v : Value) (h : b < 1 ∨ 65536 < b) :
    Calls Tryz.prog 15 #[.pointer (some ⟨sb, 0, none⟩), .int .i64 b, .int .i64 fan, v] w fun e w' => e = .returned (.tuple #[.int .i64 0, errV E 2]) ∧ Below w.heap.size w w' := sort_err (by decide) (fnew_lim V.toEnv sb b h)
set_option maxRecDepth 100000 in
theorem sort_fan {w : World} {E : Nat → Addr} {Be sb : Nat} (V : EnvZ w E Be) (hB : Be ≤ w.heap.size) (b : Nat) (hb1 : 1 ≤ b) (hb2 : b ≤ 65536) (fan : Int) (v : Value) (h : fan < 2 ∨ 64 < fan) :
    Calls Tryz.prog 15 #[.pointer (some ⟨sb, 0, none⟩), .int .i64 b, .int .i64 fan, v] w fun e w' => e = .returned (.tuple #[.int .i64 0, errV E 2]) ∧ Below w.heap.size w w' := by
  have HN := hide (fnew_go w sb b hb1 hb2)
  have HIS : Hid (∀ W, Calls Tryz.prog 36 #[.int .i64 fan] W fun e w' => e = .returned (.bool false) ∧ w' = W) := fun W => isfan_no W fan h
  have HC : Hid (∀ W, Below w.heap.size w W → W.cell? ⟨1, 0, none⟩ = some (er E 2) ∧ 1 < W.heap.size) := fun W hW => ⟨(V.below (hW.mono hB)).li, by have := (V.below (hW.mono hB)).g.sz; omega⟩
  rw [errV_pos E (by decide)]
  unfold er at HC ⊢
  clear V h
  go_enter Tryz.func15, Tryz.ntmps15
  go_wp2_with (first
    | (go_at_call 35; refine (unhide HN).mono ?_; rintro e w1 ⟨rfl, -, b1⟩; obtain ⟨hl, hz⟩ := unhide HC w1 b1; have HB1 := hide b1; clear b1)
    | (go_at_call 36; refine (unhide HIS w1).mono ?_; rintro e w1' ⟨rfl, hw⟩; have hw' := hw.symm; subst hw'; clear hw))
  go_quiet (fail)
  go_wp2
  go_ret2
  exact ⟨rfl, (unhide HB1).trans ⟨rfl, rfl, rfl, Nat.le_refl _, fun _ _ => rfl⟩⟩
/-- numbers in a list of their own -/
theorem nums_new (W : World) (l : List Int) : Nums (W.alloc (.cells (l.map (Value.int .i64)).toArray 3)) (.slice (some ⟨W.heap.size, 0, none⟩) l.length l.length) l := by
  refine ⟨_, _, rfl, fun _ => ⟨W.heap.size, 0, rfl, by simp, fun j n hj => ?_⟩⟩
  rw [Nat.zero_add, World.cell?_alloc_at _ _ _ _ rfl]
  simp [hj]
theorem neq_same10 (W : World) (a : Addr) : (binOp .neq 38 (.iface 234 (.pointer (some a))) (.iface 234 (.pointer (some a)))).run Tryz.prog W = .ok (.bool false) W := by
  obtain ⟨i, hi, hc⟩ := Option.map_eq_some_iff.1 (show (Tryz.prog.info? 234).map (·.comparable) = some true by kernel_rfl)
  obtain ⟨j, hj, _⟩ := Option.map_eq_some_iff.1 (show (Tryz.prog.info? 250).map (·.size) = some 1 by kernel_rfl)
  simp only [binOp]
  simp [Op.equal, Op.maxDepth, run_equalIn_iface_ptr_same W 9998 a Tryz.underlying38 Tryz.underlying234 hi hc hj]
theorem eq_nil_er (W : World) (u : TypeId) (x : Value) : (binOp .eql 38 .nilIface (.iface u x)).run Tryz.prog W = .ok (.bool false) W := by
  simp only [binOp]
  rw [Op.equal, Op.maxDepth, Op.equalIn]
  simp [run_underlying Tryz.underlying38]
theorem made_any10 {w : World} {sb : Nat} {m : Sto} {F : Nat → Prop} (h : At w sb m F) : Calls Tryz.prog 30 #[.pointer (some ⟨sb, 0, none⟩)] w fun e w' => e = .returned (.int .i64 m.made) ∧ w' = w := by
  obtain ⟨mv, hs, _⟩ := h.map
  obtain ⟨_, _, c2, _, _, _, fz⟩ := cells_sto hs
  clear h hs
  go_enter Tryz.func30, Tryz.ntmps30
  go_wp2
  go_ret
  exact ⟨rfl, rfl⟩
section
variable {w wr : World} {E : Nat → Addr} {L : List Thing} {D : Nat → Nat} {i sb : Nat} {m : Sto}
theorem sep_chk {fan : Nat} {v : Value} {l : List Int} (V : EnvZ w E w.heap.size) (h : Sep w L D wr) (hi : L[i]? = some (stoT sb m)) (hn : Nums wr v l) (hk : ∀ k ∈ l, -9223372036854775808 ≤ k ∧ k ≤ 9223372036854775807) (hz : l.length ≤ 140737488351232) (h2 : 2 ≤ fan) (h64 : fan ≤ 64) {c : Nat} (hm : chk m [] l = c) (hc : c ≠ 0) :
    Calls Tryz.prog 28 #[.pointer (some ⟨sb, 0, none⟩), .int .i64 fan, v] wr fun e w' => e = .returned (.tuple #[.int .i64 0, errV E c]) ∧ Sep w L D w' := by
  obtain ⟨F, k1, k2, k3, -⟩ := h.call (Below.refl _ _) hi
  have k1' : At wr sb m F := k1
  refine (merge_chk (V.below k3) (fun b hb => (k2 b hb).1) k3.size k1' hn hk hz h2 h64 (by rw [hm]; exact hc)).mono ?_
  rw [hm]
  rintro e w' ⟨rfl, hb⟩
  exact ⟨rfl, h.below hb⟩
theorem sep_create (V : EnvZ w E w.heap.size) (h : Sep w L D wr) (hi : L[i]? = some (stoT sb m)) :
    Calls Tryz.prog 29 #[.pointer (some ⟨sb, 0, none⟩)] wr fun e w' => e = .returned (.tuple #[.int .i64 (crt m).1.1, errV E (crt m).1.2]) ∧ Sep w (L.set i (stoT sb (crt m).2)) (fun _ => w'.heap.size) w' := by
  obtain ⟨F, k1, k2, k3, k4⟩ := h.call (Below.refl _ _) hi
  have k1' : At wr sb m F := k1
  refine (create_any k1' ((V.below k3).toEnv.gs fun b hb => (k2 b hb).1)).mono ?_
  rintro e w' ⟨rfl, r⟩
  exact ⟨rfl, (k4 (stoT sb (crt m).2) w' r.1 r.2 w' (Chg.refl _ _)).reset⟩
theorem sep_made (h : Sep w L D wr) (hi : L[i]? = some (stoT sb m)) :
    Calls Tryz.prog 30 #[.pointer (some ⟨sb, 0, none⟩)] wr fun e w' => e = .returned (.int .i64 m.made) ∧ w' = wr := by
  obtain ⟨F, k1, k2, k3, -⟩ := h.call (Below.refl _ _) hi
  have k1' : At wr sb m F := k1
  exact made_any10 k1'
end
end Rs
end Go.Proofs.YtohfhkdhccpoaaaGreatDoor
